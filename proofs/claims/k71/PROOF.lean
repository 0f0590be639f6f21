import PyProof.Rows.All
import Wide.All
import OpenK.AllK
import Wide.FinOn
import Lean
import PyProof.EqAt
import PyProof.EqKinds
import PyProof.TupleCall
import PySem.Challenge.RW_wordswap_k71_plans_written
import PyProof.ExcBaseAll.ValueError
import PyProof.NsDelKeeps
import PyProof.ExcArgs
import KE.KIntText
import PyProof.StrLawsChain
import PyProof.StrWalks
import PyProof.Draws
import PyProof.EnumMake
import PyProof.Rows.CallKwBuiltin
import PyProof.AttrMissHeap
set_option compiler.extract_closed false
set_option Elab.async false
set_option linter.all false
set_option maxRecDepth 100000
namespace L2
open PySem PySem.Spec PyProof.Rows
noncomputable abbrev Key:=Sum Int Str
noncomputable def ak5:Key->Value->Bool
 | .inl k,v=>Value.isInt k v
 | .inr x,v=>Value.isStrOf x v
noncomputable def bh0 (w:World):Key->Int
 | .inl k=>hashInt k
 | .inr x=>hashStr w x
theorem keyIs_shape:∀{k:Key} {v:Value},ak5 k v=true->(∃i t,k=Sum.inl i/\v=Value.int i t)\/(∃x t,k=Sum.inr x/\v=Value.str x t)
 | .inl i,v,h=>by
   obtain⟨t,e⟩:=Value.isInt_shape (k:=i) (v:=v) h
   exact .inl ⟨i,t,rfl,e⟩
 | .inr x,v,h=>by
   obtain⟨t,e⟩:=Value.isStrOf_shape (x:=x) (v:=v) h
   exact .inr ⟨x,t,rfl,e⟩
theorem aI8 (i:Int) (t:Tok):ak5 (.inl i) (.int i t)=true:=by simp [ak5,Value.isInt]
theorem aI9 (x:Str) (t:Tok):ak5 (.inr x) (.str x t)=true:=by simp [ak5,Value.isStrOf]
theorem a74 (a b:Int):decide ((Sum.inl a:Key)=Sum.inl b)=(a == b):=by
 by_cases e:a=b
 ·subst e;simp
 ·have h:¬(Sum.inl a:Key)=Sum.inl b:=λq=>e (Sum.inl.inj q)
  rw [decide_eq_false h]
  exact (beq_eq_false_iff_ne.mpr e).symm
theorem a75 (a b:Str):decide ((Sum.inr a:Key)=Sum.inr b)=decide (a=b):=by
 by_cases e:a=b
 ·subst e;simp
 ·have h:¬(Sum.inr a:Key)=Sum.inr b:=λq=>e (Sum.inr.inj q)
  rw [decide_eq_false h,decide_eq_false e]
theorem a76 (a:Int) (b:Str):decide ((Sum.inl a:Key)=Sum.inr b)=false:=decide_eq_false (λq=>nomatch q)
theorem a77 (a:Str) (b:Int):decide ((Sum.inr a:Key)=Sum.inl b)=false:=decide_eq_false (λq=>nomatch q)
noncomputable def J6 (prog:Program) (w:World):PySem.KeyKind prog w Key where
 is:=ak5
 hash:=bh0 w
 inj:=λv a b ha hb=>by
  rcases keyIs_shape ha with ⟨i,t,rfl,rfl⟩ | ⟨x,t,rfl,rfl⟩
  ·rcases keyIs_shape hb with ⟨j,u,rfl,e⟩ | ⟨y,u,rfl,e⟩
   ·injection e with e1 _;rw [e1]
   ·exact nomatch e
  ·rcases keyIs_shape hb with ⟨j,u,rfl,e⟩ | ⟨y,u,rfl,e⟩
   ·exact nomatch e
   ·injection e with e1 _;rw [e1]
 byValue:=λk v h=>by
  rcases keyIs_shape h with ⟨i,t,rfl,rfl⟩ | ⟨x,t,rfl,rfl⟩ <;> rfl
 pyHash:=λhv h=>by
  rcases keyIs_shape hv with ⟨i,t,rfl,rfl⟩ | ⟨x,t,rfl,rfl⟩
  ·exact wpAny_pyHash_int h
  ·exact wpAny_pyHash_str h
 eqBool:=λhu hv h=>by
  rcases keyIs_shape hu with ⟨i,t,rfl,rfl⟩ | ⟨x,t,rfl,rfl⟩
  ·rcases keyIs_shape hv with ⟨j,u,rfl,rfl⟩ | ⟨y,u,rfl,rfl⟩
   ·rw [a74] at h;exact wpAny_eqBool_int h
   ·rw [a76] at h;exact SeqAt.EqAt.int_str i t y u _ _ _ _ h
  ·rcases keyIs_shape hv with ⟨j,u,rfl,rfl⟩ | ⟨y,u,rfl,rfl⟩
   ·rw [a77] at h;exact SeqAt.EqAt.str_int x t j u _ _ _ _ h
   ·rw [a75] at h;exact wpAny_eqBool_str h
 «strs»:=λk x t v h=>by
  rcases keyIs_shape h with ⟨i,u,rfl,e⟩ | ⟨y,u,rfl,e⟩
  ·exact nomatch e
  ·injection e with e1 _
   subst e1
   cases v <;> rfl
theorem at7 (prog:Program) (w:World) (i:Int) (t:Tok):(J6 prog w).is (.inl i) (.int i t)=true:=aI8 i t
theorem at8 (prog:Program) (w:World) (x:Str) (t:Tok):(J6 prog w).is (.inr x) (.str x t)=true:=aI9 x t
end L2
namespace L2
open PySem PySem.Spec PyProof.Rows
inductive V where
 | non | bl (b:Bool) | int (i:Int) | str (x:Str) | byt (b:Array UInt8) | flt (b:UInt64) | ref (a:Addr) | ty (n:String)
 deriving DecidableEq
noncomputable def RelV:V->Value->Prop
 | .non,u=>u=Value.none
 | .bl b,u=>u=Value.bool b
 | .int i,u=>∃t,u=Value.int i t
 | .str x,u=>∃t,u=Value.str x t
 | .byt b,u=>∃t,u=Value.bytes b t
 | .flt b,u=>∃t,u=Value.float b t
 | .ref a,u=>u=Value.ref a
 | .ty n,u=>u=Value.type n
noncomputable abbrev Vals:List V->List Value->Prop:=Paired RelV
theorem Vals.length {xs:List V} {us:List Value} (r:Vals xs us):xs.length=us.length:=Paired.length r
theorem Vals.get:∀{xs:List V} {us:List Value} {i:Nat} {x:V},Vals xs us->xs[i]?=some x->∃u,us[i]?=some u/\RelV x u
 | _,_,_,_,.nil,e=>by simp at e
 | _,_,0,_,.cons r _,e=>by simp at e;subst e;exact⟨_,rfl,r⟩
 | _,_,i+1,x,.cons _ t,e=>by
   obtain⟨u,h1,h2⟩:=Vals.get (i:=i) (x:=x) t (by simpa using e)
   exact⟨u,by simpa using h1,h2⟩
theorem Vals.append:∀{xs ys:List V} {us ws:List Value},Vals xs us->Vals ys ws->Vals (xs++ys) (us++ws)
 | _,_,_,_,.nil,s=>s
 | _,_,_,_,.cons r t,s=>.cons r (Vals.append t s)
theorem Vals.take:∀{xs:List V} {us:List Value} (n:Nat),Vals xs us->Vals (xs.take n) (us.take n)
 | _,_,0,_=>.nil
 | _,_,_+1,.nil=>.nil
 | _,_,n+1,.cons r t=>.cons r (Vals.take n t)
theorem Vals.drop:∀{xs:List V} {us:List Value} (n:Nat),Vals xs us->Vals (xs.drop n) (us.drop n)
 | _,_,0,r=>r
 | _,_,_+1,.nil=>.nil
 | _,_,n+1,.cons _ t=>Vals.drop n t
noncomputable def RelO:Option V->Option Value->Prop
 | some v,some u=>RelV v u
 | none,none=>True
 | _,_=>False
noncomputable def KV {κ:Type}:List (κ×V)->List (κ×Value)->Prop:=Paired λ(p:κ×V) (q:κ×Value)=>p.1=q.1/\RelV p.2 q.2
noncomputable def kV:Key->V
 | .inl i=>.int i
 | .inr x=>.str x
inductive HO where
 | lst (xs:List V)
 | tup (xs:List V)
 | dK (kvs:List (Key×V)) | dT (kvs:List (List Key×V))
 | set (S:Int->Bool) (n:Nat)
 | ins (C dx:Addr) (fs:List (Str×V))
 | own (x:Addr)
 | xd (fs:List (Str×V))
 | met (f x:Addr)
 | rng (lo hi:Int)
 | frz (o:Obj) (u:HO)
 | tbl (ps:Array Value)
 | ext (φ:Heap->Prop)
noncomputable abbrev Hp:=Addr->Option HO
noncomputable def upd (H:Hp) (a:Addr) (o:HO):Hp:=λb=>if b=a then some o else H b
theorem D4 {H:Hp} {a:Addr} {o:HO}:upd H a o a=some o:=by unfold upd;rw [if_pos rfl]
theorem D6 {H:Hp} {a b:Addr} {o:HO} (h:b≠a):upd H a o b=H b:=by unfold upd;rw [if_neg h]
theorem ne_of {H:Hp} {a b:Addr} {o u:HO} (h:H a=some o) (h':H b=some u) (d:o≠u):a≠b:=by
 intro e;subst e;rw [h] at h';exact d (Option.some.inj h')
theorem J1 {H:Hp} {a b:Addr} {o:HO} (h:H a=some o) (h':H b=none):a≠b:=by
 intro e;subst e;rw [h] at h';cases h'
section
variable (P:Program) (w:World)
noncomputable def ObjOk (H:Hp) (h:Heap) (a:Addr):HO->Prop
 | .lst xs=>xs.length<=sizeLine/\∃(its:List Value) (n:Nat),Vals xs its/\h.get? a=some { cls:=.type "list",data:=.seq its.toArray n }
 | .tup xs=>xs.length<=sizeLine/\∃its:List Value,Vals xs its/\IsTup h a its.toArray
 | .dK kvs=>kvs.length<=sizeLine/\(a == sysModules)=false/\∃vs,KV kvs vs/\h.DictOf (J6 P w) a vs
 | .dT kvs=>kvs.length<=sizeLine/\(a == sysModules)=false/\∃xs:List (List Key×Addr×Value),
  Paired (λ(p:List Key×V) (q:List Key×Addr×Value)=>p.1=q.1/\H q.2.1=some (.tup (p.1.map kV))/\RelV p.2 q.2.2) kvs xs/\
  ∃o es ep,h.get? a=some o/\o.ExactDict/\o.data=.dict es ep/\es.toList=xs.map (entryOfKey (tupleKind (J6 P w)))/\(xs.map (·.1)).Nodup
 | .set S n=>h.SetOf (intKind P w) a S n
 | .ins C dx fs=>H dx=some (.own a)/\fs.length<=1000/\dx≠a/\h.get? a=some (PySem.W.instObj C dx)/\
  ∃mA,h.Ns1 dx mA/\(∀f,RelO (fs.lookup f) (mA f))/\PySem.Within mA (fs.map (·.1))
 | .own _=>∃o,h.get? a=some o
 | .xd fs=>∃mA,h.Ns1 a mA/\∀f,RelO (fs.lookup f) (mA f)
 | .rng lo hi=>∃t u v,h.get? a=some { cls:=.type "range",data:=.fields #[.int lo t,.int hi u,.int 1 v] }
 | .frz o u=>h.get? a=some o/\ObjOk H h a u
 | .tbl ps=>h.get? a=some { cls:=.none,data:=.fields ps }
 | .met f x=>h.get? a=some (PySem.W.methodObj (.ref f) (.ref x))
 | .ext φ=>φ h/\(∃o,h.get? a=some o)/\∀h1 h2:Heap,φ h1->(∀o,h1.get? a=some o->h2.get? a=some o)->φ h2
noncomputable def HOk (H:Hp) (h:Heap):Prop:=∀a o,H a=some o->ObjOk P w H h a o
end
section
variable {P:Program} {w:World} {H H':Hp} {h h':Heap} {a:Addr} {o:HO}
theorem ObjOk.lt (x:ObjOk P w H h a o):a<h.objs.size:=by
 cases o with
 | lst xs=>obtain⟨_,_,_,_,e⟩:=x;exact Heap.lt_size e
 | tup xs=>obtain⟨_,_,_,p⟩:=x;exact p.lt
 | dK kvs=>obtain⟨_,_,_,_,o,_,_,e,_⟩:=x;exact Heap.lt_size e
 | dT kvs=>obtain⟨_,_,_,_,o,_,_,e,_⟩:=x;exact Heap.lt_size e
 | set S n=>obtain⟨o,_,_,_,e,_⟩:=x;exact Heap.lt_size e
 | ins C dx fs=>obtain⟨_,_,_,e,_⟩:=x;exact Heap.lt_size e
 | own y=>obtain⟨_,e⟩:=x;exact Heap.lt_size e
 | xd fs=>obtain⟨_,⟨_,_,_,e,_⟩,_⟩:=x;exact Heap.lt_size e
 | rng lo hi=>obtain⟨_,_,_,e⟩:=x;exact Heap.lt_size e
 | frz ob u=>obtain⟨e,_⟩:=x;exact Heap.lt_size e
 | tbl ps=>exact Heap.lt_size (show h.get? a=some _ from x)
 | met f y=>exact Heap.lt_size (show h.get? a=some _ from x)
 | ext φ=>obtain⟨_,⟨_,e⟩,_⟩:=x;exact Heap.lt_size e
theorem Paired.mapP {α β:Type} {F G:α->β->Prop}:∀{l₁:List α} {l₂:List β},Paired F l₁ l₂->(∀a b,F a b->G a b)->Paired G l₁ l₂
 | _,_,.nil,_=>.nil
 | _,_,.cons r t,f=>.cons (f _ _ r) (Paired.mapP t f)
theorem ObjOk.stay (x:ObjOk P w H h a o) (k:∀b u,(b=a\/H b=some (.own a))->h.get? b=some u->h'.get? b=some u)
 (ho:∀b,H b=some (.own a)->H' b=some (.own a)) (ht:∀b xs,H b=some (.tup xs)->H' b=some (.tup xs)):ObjOk P w H' h' a o:=by
 induction o with
 | lst xs=>obtain⟨z,its,n,r,e⟩:=x;exact⟨z,its,n,r,k _ _ (.inl rfl) e⟩
 | tup xs=>obtain⟨z,its,r,ob,e,c⟩:=x;exact⟨z,its,r,ob,k _ _ (.inl rfl) e,c⟩
 | dK kvs=>obtain⟨z,y,vs,r,ob,es,ep,e,c⟩:=x;exact⟨z,y,vs,r,ob,es,ep,k _ _ (.inl rfl) e,c⟩
 | dT kvs=>
   obtain⟨z,y,xs,r,ob,es,ep,e,c⟩:=x
   exact⟨z,y,xs,Paired.mapP r λp q z=>⟨z.1,ht _ _ z.2.1,z.2.2⟩,ob,es,ep,k _ _ (.inl rfl) e,c⟩
 | set S n=>obtain⟨ob,es,ep,t,e,c⟩:=x;exact⟨ob,es,ep,t,k _ _ (.inl rfl) e,c⟩
 | ins C dx fs=>
   obtain⟨d,z,ne,e,mA,⟨od,es,ep,e2,c⟩,r⟩:=x
   exact⟨ho _ d,z,ne,k _ _ (.inl rfl) e,mA,⟨od,es,ep,k _ _ (.inr d) e2,c⟩,r⟩
 | own y=>obtain⟨ob,e⟩:=x;exact⟨ob,k _ _ (.inl rfl) e⟩
 | xd fs=>obtain⟨mA,⟨od,es,ep,e,c⟩,r⟩:=x;exact⟨mA,⟨od,es,ep,k _ _ (.inl rfl) e,c⟩,r⟩
 | rng lo hi=>obtain⟨t,u,v,e⟩:=x;exact⟨t,u,v,k _ _ (.inl rfl) e⟩
 | frz ob u ih=>obtain⟨e,q⟩:=x;exact⟨k _ _ (.inl rfl) e,ih q⟩
 | tbl ps=>
   have e:h.get? a=some { cls:=.none,data:=.fields ps }:=x
   show h'.get? a=some { cls:=.none,data:=.fields ps }
   exact k a _ (.inl rfl) e
 | met f y=>
   have e:h.get? a=some (PySem.W.methodObj (.ref f) (.ref y)):=x
   show h'.get? a=some (PySem.W.methodObj (.ref f) (.ref y))
   exact k a _ (.inl rfl) e
 | ext φ=>obtain⟨p,⟨o,e⟩,st⟩:=x;exact⟨st _ _ p λo q=>k _ _ (.inl rfl) q,⟨o,k _ _ (.inl rfl) e⟩,st⟩
theorem HOk.lt (x:HOk P w H h) (e:H a=some o):a<h.objs.size:=(x a o e).lt
theorem HOk.fresh (x:HOk P w H h) (e:h.objs.size<=a):H a=none:=by
 cases q:H a with
 | none=>rfl
 | some u=>exact absurd (Nat.lt_of_lt_of_le (x.lt q) e) (Nat.lt_irrefl _)
theorem HOk.kept (x:HOk P w H h) (k:∀b u,h.get? b=some u->h'.get? b=some u):HOk P w H h':=λa o e=>
 (x a o e).stay (λb u _ q=>k b u q) (λ_ q=>q) λ_ _ q=>q
theorem HOk.laid (x:HOk P w H h) (k:∀b u,h.get? b=some u->h'.get? b=some u) (hp:h.objs.size<=a) (new:ObjOk P w (upd H a o) h' a o):HOk P w (upd H a o) h':=λb u e=>by
 have hn:=x.fresh hp
 by_cases hb:b=a
 ·subst hb;rw [D4] at e;cases e;exact new
 ·rw [D6 hb] at e
  exact (x b u e).stay (λc v _ q=>k c v q) (λc q=>by rw [D6 (J1 q hn)];exact q) λc xs q=>by rw [D6 (J1 q hn)];exact q
end
noncomputable def Rd (H:Hp) (a:Addr) (u:HO):Prop:=H a=some u\/∃o,H a=some (.frz o u)
theorem Rd.ok {P:Program} {w:World} {H:Hp} {h:Heap} {a:Addr} {u:HO} (r:Rd H a u) (x:HOk P w H h):ObjOk P w H h a u:=by
 rcases r with r | ⟨o,r⟩
 ·exact x a u r
 ·obtain⟨_,q⟩:=x a _ r
  exact q
noncomputable def Mut:Option HO->Prop
 | some (.lst _)=>True
 | some (.dK _)=>True
 | some (.dT _)=>True
 | some (.set _ _)=>True
 | some (.ins _ _ _)=>True
 | some (.ext _)=>True
 | _=>False
section
variable {P:Program} {w:World} {H:Hp} {h h':Heap} {x e:Addr} {o':HO}
theorem HOk.write (ok:HOk P w H h) (mu:Mut (H x)) (he:e=x\/H e=some (.own x)) (k:∀b u,b≠e->h.get? b=some u->h'.get? b=some u) (heo:∃u,h'.get? e=some u)
 (new:ObjOk P w (upd H x o') h' x o'):HOk P w (upd H x o') h':=λb u q=>by
 have nown:∀c y,H c=some (.own y)->c≠x:=λc y r z=>by subst z;rw [r] at mu;exact mu
 have ntup:∀c xs,H c=some (.tup xs)->c≠x:=λc xs r z=>by subst z;rw [r] at mu;exact mu
 by_cases hb:b=x
 ·subst hb;rw [D4] at q;cases q;exact new
 ·rw [D6 hb] at q
  by_cases hbe:b=e
  ·have q':H b=some (.own x):=by
    rcases he with z | z
    ·exact absurd (hbe.trans z) hb
    ·rw [hbe];exact z
   rw [q] at q';cases q'
   obtain⟨v,hv⟩:=heo
   exact⟨v,by rw [hbe];exact hv⟩
  ·refine (ok b u q).stay (λc v hc r=>k c v ?_ r) (λc r=>by rw [D6 (nown c b r)];exact r) λc xs r=>by rw [D6 (ntup c xs r)];exact r
   rcases hc with rfl | hc
   ·exact hbe
   ·rintro rfl
    rcases he with z | z
    ·exact nown c b hc z
    ·rw [hc] at z;cases z;exact hb rfl
end
structure Un (fs ex:List Addr) (H H':Hp) (h h':Heap):Prop where
 keep:∀b o,h.get? b=some o->H b=none->b∉fs->b∉ex->h'.get? b=some o
 slot:∀b o,h.get? b=some o->H b=none->b∈fs->b∉ex->∃sl,h'.get? b=some { o with slots:=sl }
 free:∀b o,h.get? b=some o->H b=none->b∉ex->H' b=none
 there:∀b o,h.get? b=some o->b∉ex->∃o',h'.get? b=some o'
 tups:∀b xs,H b=some (.tup xs)->H' b=some (.tup xs)
 frzs:∀b o u,H b=some (.frz o u)->H' b=some (.frz o u)
 tbls:∀b ps,H b=some (.tbl ps)->∃more,H' b=some (.tbl (ps++more))
section
variable {fs fs' ex ex':List Addr} {H H1 H2:Hp} {h h1 h2 h':Heap} {a x e:Addr} {o:HO}
theorem Un.any (u:Un fs ex H H1 h h1) {b:Addr} {ob:Obj} (q:h.get? b=some ob) (n:H b=none) (hx:b∉ex):∃sl,h1.get? b=some { ob with slots:=sl }:=by
 by_cases hb:b∈fs
 ·exact u.slot b ob q n hb hx
 ·exact⟨ob.slots,u.keep b ob q n hb hx⟩
theorem Un.kept (k:∀b u,h.get? b=some u->h'.get? b=some u):Un fs ex H H h h':=
 ⟨λb ob q _ _ _=>k b ob q,λb ob q _ _ _=>⟨ob.slots,k b ob q⟩,λ_ _ _ n _=>n,λb ob q _=>⟨ob,k b ob q⟩,λ_ _ q=>q,λ_ _ _ q=>q,λ_ ps q=>⟨#[],by rw [q];simp⟩⟩
theorem Un.refl:Un fs ex H H h h:=Un.kept λ_ _ q=>q
theorem Un.laid (k:∀b u,h.get? b=some u->h'.get? b=some u) (hp:h.objs.size<=a) (hn:H a=none):Un fs ex H (upd H a o) h h' where
 keep:=λb u q _ _ _=>k b u q
 slot:=λb u q _ _ _=>⟨u.slots,k b u q⟩
 free:=λb u q n _=>by rw [D6 (Nat.ne_of_lt (Nat.lt_of_lt_of_le (Heap.lt_size q) hp))];exact n
 there:=λb u q _=>⟨u,k b u q⟩
 tups:=λb xs q=>by rw [D6 (J1 q hn)];exact q
 frzs:=λb u xs q=>by rw [D6 (J1 q hn)];exact q
 tbls:=λb ps q=>⟨#[],by rw [D6 (J1 q hn),q];simp⟩
theorem Un.write (mu:Mut (H x)) (he:e=x\/H e=some (.own x)) (k:∀b u,b≠e->h.get? b=some u->h'.get? b=some u) (heo:∃u,h'.get? e=some u):Un fs ex H (upd H x o) h h':=by
 have hx:∀b,H b=none->b≠x:=λb n z=>by subst z;rw [n] at mu;exact mu
 have hb:∀b,H b=none->b≠e:=λb n z=>by
  subst z
  rcases he with r | r
  ·exact hx b n r
  ·rw [n] at r;cases r
 have hm:∀b u,H b=some u->¬Mut (some u)->b≠x:=λb u q nm z=>by subst z;rw [q] at mu;exact nm mu
 refine⟨λb u q n _ _=>k b u (hb b n) q,λb u q n _ _=>⟨u.slots,k b u (hb b n) q⟩,λb u q n _=>by rw [D6 (hx b n)];exact n,λb u q _=>?_,
  λb xs q=>by rw [D6 (hm b _ q λz=>z)];exact q,λb u xs q=>by rw [D6 (hm b _ q λz=>z)];exact q,λb ps q=>⟨#[],by rw [D6 (hm b _ q λz=>z),q];simp⟩⟩
 by_cases hbe:b=e
 ·subst hbe;exact heo
 ·exact⟨u,k b u hbe q⟩
end
noncomputable def trk (h:Heap) (H:Hp):List Addr:=(List.range h.objs.size).filter λa=>(H a).isSome
noncomputable def ao7 (h:Heap) (H:Hp):Heap:=PySem.W.hideAll h (trk h H)
theorem aJ0 (h:Heap) (H:Hp):(ao7 h H).objs.size=h.objs.size:=PySem.W.hideAll_size _ _
theorem aN5 {h:Heap} {H:Hp} {b:Addr} {o:Obj} (e:h.get? b=some o) (n:H b=none):(ao7 h H).get? b=some o:=
 PySem.W.hideAll_get _ e λhm=>by
  have q:(H b).isSome=true:=(List.mem_filter.mp hm).2
  rw [n] at q;simp at q
theorem aW6 {h:Heap} {H:Hp} {b:Addr} {o:Obj} (e:(ao7 h H).get? b=some o):h.get? b=some o/\H b=none:=by
 have e':h.get? b=some o:=PySem.W.of_hideAll (trk h H) e
 refine⟨e',?_⟩
 cases q:H b with
 | none=>rfl
 | some x=>
   have hm:b∈trk h H:=List.mem_filter.mpr ⟨List.mem_range.mpr (Heap.lt_size e'),by simp [q]⟩
   have z:(ao7 h H).get? b=none:=PySem.W.hideAll_none (trk h H) hm
   rw [z] at e;cases e
end L2
namespace L2
open PySem PySem.Spec PyProof.Rows
structure Mod (K:PySem.W.Frag) (mg:Str->Option Value) (base:Heap):Prop where
 kin:K.In base
 glob:base.Ns mainGlobals mg
 blt:∃mb,base.Ns builtinsNs mb/\∀x:Str,x≠"__name__"->mb x=bootBuiltins x
 nolimit:base.NoLimit
structure Cx where
 prog:Program
 w:World
 K:PySem.W.Frag
 mg:Str->Option Value
 base:Heap
 A:Around
 N:List Str
 s₀:Shared
 H₀:Hp
 env:Env
 outer:List Env
 stack:List Env
 ex:List Addr
 fn:Str->Bool
 calm:Bool
 pn:List (Addr×Obj)
 xe:Value->Shared->Prop
noncomputable def frs (l:List Env):List Addr:=l.filterMap (·.frame)
noncomputable abbrev Cx.fs (X:Cx):List Addr:=frs X.outer
noncomputable def Vis (sc:Scope) (x:Str):Prop:=sc.names.lookup x=some .local\/sc.names.lookup x=some .cell\/sc.names.lookup x=some .free
noncomputable def Loc (sc:Scope) (x:Str):Prop:=sc.names.lookup x=some .local\/sc.names.lookup x=some .cell
noncomputable def bl9 (env:Env) (h:Heap) (m:Str->Option Value) (x:Str) (u:Value):Prop:=
 (env.kindOf x=some .local/\m x=some u)\/((env.kindOf x=some .cell\/env.kindOf x=some .free)/\∃c,env.cells.lookup x=some c/\h.IsCell c (some u))
structure Cx.Ok (X:Cx):Prop where
 mod:Mod X.K X.mg X.base
 kind:X.env.scope.kind=.function
 glob:X.env.globals=mainGlobals
 blt:X.env.builtins=builtinsNs
 above:X.s₀.heap.objs.size<=X.env.locals
 inj:∀x y c,X.env.cells.lookup x=some c->X.env.cells.lookup y=some c->x=y
 has:∀x,(X.env.kindOf x=some .cell\/X.env.kindOf x=some .free)->∃c,X.env.cells.lookup x=some c
 cab:∀x c,X.fn x=true->X.env.cells.lookup x=some c->X.s₀.heap.objs.size<=c
 hd:X.calm=true->X.A.handled=none
 frames:X.A.frames=some X.stack
 stk:X.stack=X.outer\/(X.stack=X.env::X.outer/\X.env.frame=some X.env.locals)
 exf:∀b∈X.ex,b≠X.env.locals/\∀x c,X.env.cells.lookup x=some c->c≠b
 bs:∀b o,X.base.get? b=some o->X.s₀.heap.get? b=some o/\X.H₀ b=none
 bsz:X.base.objs.size<=X.s₀.heap.objs.size
 noex:∀b o,X.base.get? b=some o->b∉X.ex
 exfs:∀b∈X.ex,b∉X.fs
 funs:X.s₀.heap.FunFrames X.base X.outer
 frf:∀b∈X.fs,X.H₀ b=none
structure Inv (X:Cx) (pins:List (Addr×Obj)) (σ:List (Option V)) (H:Hp) (s:Shared):Prop where
 ok:X.Ok
 os:s.os=X.s₀.os
 bare:AllBare s.gens
 base:Un X.fs X.ex X.H₀ H X.s₀.heap s.heap
 loc:∃m,s.heap.Ns X.env.locals m/\∀(i:Nat) (x:Str) (v:V),X.N[i]?=some x->σ[i]?=some (some v)->Vis X.env.scope x->∃u,RelV v u/\bl9 X.env s.heap m x u
 cell:∀x c,X.env.cells.lookup x=some c->∃v,s.heap.IsCell c v
 free:H X.env.locals=none
 freeC:∀x c,X.env.cells.lookup x=some c->H c=none
 pin:∀p∈X.pn++pins,s.heap.get? p.1=some p.2/\H p.1=none/\p.1≠X.env.locals/\p.1∉X.fs/\∀v,p.2.data≠.cell v
 hok:HOk X.prog X.w H s.heap
 len:σ.length=X.N.length
section
variable {X:Cx} {pins:List (Addr×Obj)} {σ:List (Option V)} {H H':Hp} {s:Shared} {h':Heap}
theorem Cx.Ok.nofr (ok:X.Ok) {b:Addr} {o:Obj} (e:X.base.get? b=some o):b∉X.fs:=λhb=>by
 have:=(ok.funs.mem hb).1
 rw [e] at this;cases this
theorem Inv.bs (I:Inv X pins σ H s):∀b o,X.base.get? b=some o->s.heap.get? b=some o/\H b=none:=λb o e=>
 ⟨I.base.keep b o (I.ok.bs b o e).1 (I.ok.bs b o e).2 (I.ok.nofr e) (I.ok.noex b o e),I.base.free b o (I.ok.bs b o e).1 (I.ok.bs b o e).2 (I.ok.noex b o e)⟩
theorem Inv.bk (I:Inv X pins σ H s):∀b o,X.base.get? b=some o->s.heap.get? b=some o:=λb o e=>(I.bs b o e).1
theorem Inv.mod (I:Inv X pins σ H s):Mod X.K X.mg X.base:=I.ok.mod
theorem Inv.kIn (I:Inv X pins σ H s):X.K.In s.heap:=I.ok.mod.kin.keeps I.bk
theorem Inv.lt (I:Inv X pins σ H s):X.env.locals<s.heap.objs.size:=let ⟨_,hn,_⟩:=I.loc;hn.lt
theorem Inv.sz (I:Inv X pins σ H s):X.s₀.heap.objs.size<=s.heap.objs.size:=Nat.le_trans I.ok.above (Nat.le_of_lt I.lt)
theorem Inv.nofs (I:Inv X pins σ H s) {a:Addr} (h:s.heap.objs.size<=a):a∉X.fs:=λhb=>by
 obtain⟨_,o,ho,_⟩:=I.ok.funs.mem hb
 exact absurd (Nat.lt_of_lt_of_le (Heap.lt_size ho) (Nat.le_trans I.sz h)) (Nat.lt_irrefl _)
theorem Inv.cne (I:Inv X pins σ H s):∀x c,X.env.cells.lookup x=some c->c≠X.env.locals:=λx c e z=>by
 obtain⟨v,o,ho,hd⟩:=I.cell x c e
 obtain⟨m,⟨o',es,ep,ho',hd',_⟩,_⟩:=I.loc
 rw [z,ho'] at ho;cases ho;rw [hd'] at hd;cases hd
theorem Inv.funs (I:Inv X pins σ H s):s.heap.FunFrames X.base X.outer:=by
 have all:∀(l:List Env),(∀b∈frs l,b∈X.fs)->X.s₀.heap.FunFrames X.base l->s.heap.FunFrames X.base l:=by
  intro l
  induction l with
  | nil=>intro _ _;trivial
  | cons env r ih=>
    intro hs hl
    obtain⟨hk,⟨L,o,hf,hn,ho,hd⟩,hr⟩:=hl
    have hL:L∈X.fs:=hs L (by unfold frs;rw [List.filterMap_cons,hf];exact List.mem_cons_self)
    obtain⟨sl,e⟩:=I.base.slot L o ho (I.ok.frf L hL) hL λz=>I.ok.exfs L z hL
    exact⟨hk,⟨L,_,hf,hn,e,hd⟩,ih (λb hb=>hs b (by unfold frs;rw [List.filterMap_cons,hf];exact List.mem_cons_of_mem _ hb)) hr⟩
 exact all X.outer (λ_ hb=>hb) I.ok.funs
theorem Inv.stack (I:Inv X pins σ H s):s.heap.FunFrames X.base X.stack:=by
 rcases I.ok.stk with e | ⟨e,hf⟩
 ·rw [e];exact I.funs
 ·rw [e]
  obtain⟨m,hn,_⟩:=I.loc
  refine .cons (by rw [I.ok.kind];decide) hf hn ?_ I.funs
  exact Heap.get?_none_of_le (Nat.le_trans I.ok.bsz I.ok.above)
theorem Inv.stkSub (I:Inv X pins σ H s):∀b∈frs X.stack,b∈X.env.locals::X.fs:=λb hb=>by
 rcases I.ok.stk with e | ⟨e,hf⟩
 ·rw [e] at hb;exact List.mem_cons_of_mem _ hb
 ·rw [e] at hb
  unfold frs at hb
  rw [List.filterMap_cons,hf] at hb
  exact hb
theorem Inv.stkFree (I:Inv X pins σ H s):∀b∈frs X.stack,H b=none:=λb hb=>by
 rcases List.mem_cons.mp (I.stkSub b hb) with e | hb
 ·rw [e];exact I.free
 ·obtain⟨_,o,ho,_⟩:=I.ok.funs.mem hb
  exact I.base.free b o ho (I.ok.frf b hb) λz=>I.ok.exfs b z hb
theorem Inv.step {g':Array GenState} {t':Nat} {d':Drawn} {ch:List Addr} (I:Inv X pins σ H s)
 (hch:∀b∈ch,(b∈X.ex\/X.s₀.heap.objs.size<=b)/\b≠X.env.locals/\(∀x c,X.env.cells.lookup x=some c->c≠b)/\∀p∈X.pn++pins,p.1≠b)
 (keep:∀b o,b≠X.env.locals->b∉X.fs->b∉ch->s.heap.get? b=some o->H b=none->h'.get? b=some o)
 (slot:∀b o,b≠X.env.locals->b∈X.fs->b∉ch->s.heap.get? b=some o->H b=none->∃sl,h'.get? b=some { o with slots:=sl }) (free:∀b o,b∉ch->s.heap.get? b=some o->H b=none->H' b=none)
 (there:∀b o,b∉ch->s.heap.get? b=some o->∃o',h'.get? b=some o')
 (tups:∀b xs,H b=some (.tup xs)->H' b=some (.tup xs)) (frzs:∀b o u,H b=some (.frz o u)->H' b=some (.frz o u)) (tbls:∀b ps,H b=some (.tbl ps)->∃more,H' b=some (.tbl (ps++more)))
 (ns:∀m,s.heap.Ns X.env.locals m->h'.Ns X.env.locals m) (hok:HOk X.prog X.w H' h') (hg:AllBare g') :
 Inv X pins σ H' { s with heap:=h',gens:=g',drawn:=d',toks:=t' }:=by
 have neL:∀b o,X.s₀.heap.get? b=some o->b≠X.env.locals:=λb o e=>Nat.ne_of_lt (Nat.lt_of_lt_of_le (Heap.lt_size e) I.ok.above)
 have neC:∀b o,X.s₀.heap.get? b=some o->b∉X.ex->b∉ch:=λb o e hx hb=>by
  rcases (hch b hb).1 with z | z
  ·exact hx z
  ·exact absurd (Nat.lt_of_lt_of_le (Heap.lt_size e) z) (Nat.lt_irrefl _)
 have cellK:∀x c,X.env.cells.lookup x=some c->∀v,s.heap.IsCell c v->h'.IsCell c v:=λx c e v ⟨o,ho,hd⟩=>by
  have nch:c∉ch:=λz=>(hch c z).2.2.1 x c e rfl
  by_cases hc:c∈X.fs
  ·obtain⟨sl,q⟩:=slot c o (I.cne x c e) hc nch ho (I.freeC x c e)
   exact⟨_,q,hd⟩
  ·exact⟨o,keep c o (I.cne x c e) hc nch ho (I.freeC x c e),hd⟩
 refine⟨I.ok,I.os,hg,⟨λb o e n hb hx=>?_,λb o e n hb hx=>?_,λb o e n hx=>?_,λb o e hx=>?_,λb xs e=>tups b xs (I.base.tups b xs e),λb o xs e=>frzs b o xs (I.base.frzs b o xs e),λb ps e=>?_⟩,?_,λx c e=>?_,?_,λx c e=>?_,λp hp=>?_,hok,I.len⟩
 ·exact keep b o (neL b o e) hb (neC b o e hx) (I.base.keep b o e n hb hx) (I.base.free b o e n hx)
 ·obtain⟨sl,e1⟩:=I.base.slot b o e n hb hx
  obtain⟨sl',e2⟩:=slot b _ (neL b o e) hb (neC b o e hx) e1 (I.base.free b o e n hx)
  exact⟨sl',e2⟩
 ·obtain⟨o',e1⟩:=I.base.there b o e hx
  exact free b o' (neC b o e hx) e1 (I.base.free b o e n hx)
 ·obtain⟨o',e1⟩:=I.base.there b o e hx
  exact there b o' (neC b o e hx) e1
 ·obtain⟨m1,e1⟩:=I.base.tbls b ps e
  obtain⟨m2,e2⟩:=tbls b _ e1
  exact⟨m1++m2,by rw [e2,Array.append_assoc]⟩
 ·obtain⟨m,hn,hl⟩:=I.loc
  refine⟨m,ns m hn,λi x v e1 e2 e3=>?_⟩
  obtain⟨u,r,l⟩:=hl i x v e1 e2 e3
  refine⟨u,r,?_⟩
  rcases l with l | ⟨k,c,e,z⟩
  ·exact .inl l
  ·exact .inr ⟨k,c,e,cellK x c e _ z⟩
 ·obtain⟨v,z⟩:=I.cell x c e
  exact⟨v,cellK x c e v z⟩
 ·obtain⟨m,⟨o,_,_,ho,_⟩,_⟩:=I.loc
  exact free _ o (λz=>(hch _ z).2.1 rfl) ho I.free
 ·obtain⟨v,o,ho,hd⟩:=I.cell x c e
  exact free c o (λz=>(hch c z).2.2.1 x c e rfl) ho (I.freeC x c e)
 ·obtain⟨e,n,ne,nf,d⟩:=I.pin p hp
  have nch:p.1∉ch:=λz=>(hch p.1 z).2.2.2 p hp rfl
  exact⟨keep p.1 p.2 ne nf nch e n,free p.1 p.2 nch e n,ne,nf,d⟩
theorem Inv.un {t':Nat} (I:Inv X pins σ H s) (u:Un X.fs [] H H' s.heap h') (hok:HOk X.prog X.w H' h'):Inv X pins σ H' { s with heap:=h',toks:=t' }:=by
 obtain⟨m,⟨o,es,ep,ho,r⟩,_⟩:=id I.loc
 obtain⟨sl,hL⟩:=u.any ho I.free (by simp)
 exact I.step (g':=s.gens) (d':=s.drawn) (ch:=[]) (λ_ z=>nomatch z) (λb o _ hb _ e n=>u.keep b o e n hb (by simp)) (λb o _ hb _ e n=>u.slot b o e n hb (by simp)) (λb o _ e n=>u.free b o e n (by simp)) (λb o _ e=>u.there b o e (by simp)) u.tups u.frzs u.tbls (λm' hm=>by
  obtain⟨o',es',ep',ho',r'⟩:=hm
  rw [ho] at ho';cases ho'
  exact⟨_,es',ep',hL,r'⟩) hok I.bare
theorem Inv.call {g':Array GenState} {t':Nat} {d':Drawn} {ch:List Addr} (I:Inv X pins σ H s) (u:Un (frs X.stack) ch H H' s.heap h') (hok:HOk X.prog X.w H' h') (hg:AllBare g')
 (hch:∀b∈ch,(b∈X.ex\/X.s₀.heap.objs.size<=b)/\b≠X.env.locals/\(∀x c,X.env.cells.lookup x=some c->c≠b)/\∀p∈X.pn++pins,p.1≠b) :
 Inv X pins σ H' { s with heap:=h',gens:=g',drawn:=d',toks:=t' }:=by
 obtain⟨m,⟨o,es,ep,ho,r⟩,_⟩:=id I.loc
 obtain⟨sl,hL⟩:=u.any ho I.free λz=>(hch _ z).2.1 rfl
 exact I.step (ch:=ch) hch (λb o hL hb hc e n=>u.keep b o e n (λz=>(List.mem_cons.mp (I.stkSub b z)).elim hL hb) hc) (λb o _ _ hc e n=>u.any e n hc) (λb o hc e n=>u.free b o e n hc) (λb o hc e=>u.there b o e hc) u.tups u.frzs u.tbls (λm' hm=>by
  obtain⟨o',es',ep',ho',r'⟩:=hm
  rw [ho] at ho';cases ho'
  exact⟨_,es',ep',hL,r'⟩) hok hg
theorem Inv.turned {t':Nat} {it:Addr} (I:Inv X pins σ H s) (k:∀b o,b≠it->s.heap.get? b=some o->h'.get? b=some o) (hn:H it=none) (hL:it≠X.env.locals)
 (h1:it∈X.ex\/X.s₀.heap.objs.size<=it) (h2:∀x c,X.env.cells.lookup x=some c->c≠it) (h3:∀p∈X.pn++pins,p.1≠it):Inv X pins σ H { s with heap:=h',toks:=t' }:=by
 have nit:∀b u,H b=some u->b≠it:=λb u e z=>by rw [z,hn] at e;cases e
 refine I.step (g':=s.gens) (d':=s.drawn) (ch:=[it]) (λb hb=>?_) (λb o _ _ hc e _=>k b o (λz=>hc (by simp [z])) e) (λb o _ _ hc e _=>⟨o.slots,k b o (λz=>hc (by simp [z])) e⟩) (λ_ _ _ _ n=>n)
  (λb o hc e=>⟨o,k b o (λz=>hc (by simp [z])) e⟩) (λ_ _ e=>e) (λ_ _ _ e=>e) (λb ps e=>⟨#[],by rw [e];simp⟩) (λm hm=>?_) (λb u e=>?_) I.bare
 ·have e:b=it:=by simpa using hb
  subst e
  exact⟨h1,hL,h2,h3⟩
 ·obtain⟨o,es,ep,ho,r⟩:=hm
  exact⟨o,es,ep,k _ o (Ne.symm hL) ho,r⟩
 ·refine (I.hok b u e).stay (λc v hc q=>k c v ?_ q) (λ_ q=>q) λ_ _ q=>q
  rcases hc with z | z
  ·rw [z];exact nit b u e
  ·exact nit c _ z
theorem Inv.tok (I:Inv X pins σ H s) (t:Nat):Inv X pins σ H { s with toks:=t }:=I.un (h':=s.heap) (t':=t) Un.refl I.hok
theorem Inv.kept {t':Nat} (I:Inv X pins σ H s) (k:∀b u,s.heap.get? b=some u->h'.get? b=some u):Inv X pins σ H { s with heap:=h',toks:=t' }:=I.un (Un.kept k) (I.hok.kept k)
theorem Inv.laid {a:Addr} {o:HO} {t':Nat} (I:Inv X pins σ H s) (k:∀b u,s.heap.get? b=some u->h'.get? b=some u) (hp:s.heap.objs.size<=a) (new:ObjOk X.prog X.w (upd H a o) h' a o) :
 Inv X pins σ (upd H a o) { s with heap:=h',toks:=t' }:=I.un (Un.laid k hp (I.hok.fresh hp)) (I.hok.laid k hp new)
theorem Inv.write {x e:Addr} {o:HO} {t':Nat} (I:Inv X pins σ H s) (mu:Mut (H x)) (he:e=x\/H e=some (.own x)) (k:∀b u,b≠e->s.heap.get? b=some u->h'.get? b=some u) (heo:∃u,h'.get? e=some u)
 (new:ObjOk X.prog X.w (upd H x o) h' x o):Inv X pins σ (upd H x o) { s with heap:=h',toks:=t' }:=I.un (Un.write mu he k heo) (I.hok.write mu he k heo new)
theorem Inv.pins_of {pins':List (Addr×Obj)} (I:Inv X pins σ H s) (h:∀p∈pins',s.heap.get? p.1=some p.2/\H p.1=none/\p.1≠X.env.locals/\p.1∉X.fs/\∀v,p.2.data≠.cell v):Inv X pins' σ H s:=
 ⟨I.ok,I.os,I.bare,I.base,I.loc,I.cell,I.free,I.freeC,λp hp=>(List.mem_append.mp hp).elim (λz=>I.pin p (List.mem_append_left _ z)) (h p),I.hok,I.len⟩
theorem at9 {N:List Str} (hN:N.Nodup) {i j:Nat} {x:Str} (a:N[i]?=some x) (b:N[j]?=some x):i=j:=by
 obtain⟨h1,e1⟩:=List.getElem?_eq_some_iff.mp a
 obtain⟨h2,e2⟩:=List.getElem?_eq_some_iff.mp b
 exact (List.getElem_inj hN).mp (e1.trans e2.symm)
theorem aJ1 {M:Model} {A:Around} {E:Value->Shared->Prop} {i:Nat} {x:Str} {v:V} {u:Value} {Q:Unit->Shared->Prop} (I:Inv X pins σ H s) (hN:X.N.Nodup) (hi:X.N[i]?=some x) (hx:Loc X.env.scope x) (r:RelV v u)
 (h:∀s',Inv X pins (σ.set i (some v)) H s'->(∃a,Heap.SameBut a s.heap s'.heap/\(a=X.env.locals\/X.env.cells.lookup x=some a))->Q () s') (hf:X.fn x=true\/X.env.scope.names.lookup x=some .local:=by first | exact .inl rfl | exact .inr rfl | assumption):wpAny M A (storeName X.env x u) Q E s:=by
 obtain⟨m,hn,hl⟩:=id I.loc
 have hcls:(X.env.scope.kind == .class||(X.env.scope.kind == .module&&X.env.locals != X.env.globals))=false:=by rw [I.ok.kind];rfl
 have hiσ:i<σ.length:=by rw [I.len];exact (List.getElem?_eq_some_iff.mp hi).1
 have cne:=I.cne
 have tracked:∀{a:Addr} {h':Heap},(∃o,s.heap.get? a=some o/\H a=none)->Heap.SameBut a s.heap h'->HOk X.prog X.w H h':=λ{a h'} ha hs b ob e=>by
  obtain⟨_,_,hfree⟩:=ha
  refine (I.hok b ob e).stay (λc w' hc q=>(hs.2 c ?_).trans q) (λ_ q=>q) λ_ _ q=>q
  rintro rfl
  rcases hc with rfl | hc
  ·rw [hfree] at e;cases e
  ·rw [hfree] at hc;cases hc
 rcases hx with hk | hk
 ·refine wpAny_storeName_local hk hn (λh' hn' hs=>?_) hcls
  obtain⟨oL,_,_,hoL,_⟩:=id hn
  refine h _ ⟨I.ok,I.os,I.bare,⟨λb o e n hb hx=>?_,λb o e n hb hx=>?_,I.base.free,λb o e hx=>?_,I.base.tups,I.base.frzs,I.base.tbls⟩,⟨_,hn',λj y v' e1 e2 e3=>?_⟩,λy c e=>?_,I.free,I.freeC,λp hp=>?_,tracked ⟨oL,hoL,I.free⟩ hs,by simpa using I.len⟩ ⟨_,hs,.inl rfl⟩
  ·exact (hs.2 b (Nat.ne_of_lt (Nat.lt_of_lt_of_le (Heap.lt_size e) I.ok.above))).trans (I.base.keep b o e n hb hx)
  ·obtain⟨sl,e1⟩:=I.base.slot b o e n hb hx
   exact⟨sl,(hs.2 b (Nat.ne_of_lt (Nat.lt_of_lt_of_le (Heap.lt_size e) I.ok.above))).trans e1⟩
  ·obtain⟨o',e1⟩:=I.base.there b o e hx
   exact⟨o',(hs.2 b (Nat.ne_of_lt (Nat.lt_of_lt_of_le (Heap.lt_size e) I.ok.above))).trans e1⟩
  ·by_cases hj:j=i
   ·subst hj
    rw [hi] at e1;cases e1
    rw [List.getElem?_set_self hiσ] at e2
    cases e2
    exact⟨u,r,.inl ⟨hk,by simp⟩⟩
   ·rw [List.getElem?_set_ne (Ne.symm hj)] at e2
    obtain⟨u',r',q⟩:=hl j y v' e1 e2 e3
    refine⟨u',r',?_⟩
    rcases q with ⟨k,e⟩ | ⟨k,c,e,z⟩
    ·refine .inl ⟨k,?_⟩
     have:y≠x:=λe=>hj (at9 hN e1 (e ▸ hi))
     simp [this,e]
    ·exact .inr ⟨k,c,e,z.sameBut hs (cne y c e)⟩
  ·obtain⟨w',z⟩:=I.cell y c e
   exact⟨w',z.sameBut hs (cne y c e)⟩
  ·obtain⟨e,n,ne,nf,d⟩:=I.pin p hp
   exact⟨(hs.2 p.1 ne).trans e,n,ne,nf,d⟩
 ·have hfn:X.fn x=true:=by
   rcases hf with z | z
   ·exact z
   ·rw [z] at hk;cases hk
  obtain⟨c,hc⟩:=I.ok.has x (.inl hk)
  obtain⟨w',z⟩:=I.cell x c hc
  refine wpAny_storeName_cell I.ok.kind hk hc z (λh' hc' hs=>?_)
  obtain⟨oc,hoc,hocd⟩:=id z
  refine h { s with heap:=h' } ⟨I.ok,I.os,I.bare,⟨λb o e n hb hx=>?_,λb o e n hb hx=>?_,I.base.free,λb o e hx=>?_,I.base.tups,I.base.frzs,I.base.tbls⟩,⟨m,hn.sameBut hs (Ne.symm (cne x c hc)),λj y v' e1 e2 e3=>?_⟩,λy c' e=>?_,I.free,I.freeC,λp hp=>?_,tracked ⟨oc,hoc,I.freeC x c hc⟩ hs,by simpa using I.len⟩ ⟨c,hs,.inr hc⟩
  ·exact (hs.2 b (Nat.ne_of_lt (Nat.lt_of_lt_of_le (Heap.lt_size e) (I.ok.cab x c hfn hc)))).trans (I.base.keep b o e n hb hx)
  ·obtain⟨sl,e1⟩:=I.base.slot b o e n hb hx
   exact⟨sl,(hs.2 b (Nat.ne_of_lt (Nat.lt_of_lt_of_le (Heap.lt_size e) (I.ok.cab x c hfn hc)))).trans e1⟩
  ·obtain⟨o',e1⟩:=I.base.there b o e hx
   exact⟨o',(hs.2 b (Nat.ne_of_lt (Nat.lt_of_lt_of_le (Heap.lt_size e) (I.ok.cab x c hfn hc)))).trans e1⟩
  ·by_cases hj:j=i
   ·subst hj
    rw [hi] at e1;cases e1
    rw [List.getElem?_set_self hiσ] at e2
    cases e2
    exact⟨u,r,.inr ⟨.inl hk,c,hc,hc'⟩⟩
   ·rw [List.getElem?_set_ne (Ne.symm hj)] at e2
    obtain⟨u',r',q⟩:=hl j y v' e1 e2 e3
    refine⟨u',r',?_⟩
    rcases q with q | ⟨k,c',e,z'⟩
    ·exact .inl q
    ·refine .inr ⟨k,c',e,z'.sameBut hs ?_⟩
     rintro rfl
     exact hj (at9 hN e1 (I.ok.inj _ _ _ e hc ▸ hi))
  ·by_cases hcc:c'=c
   ·subst hcc;exact⟨_,hc'⟩
   ·obtain⟨w2,z2⟩:=I.cell y c' e
    exact⟨w2,z2.sameBut hs hcc⟩
  ·obtain⟨e,n,ne,nf,d⟩:=I.pin p hp
   refine⟨(hs.2 p.1 ?_).trans e,n,ne,nf,d⟩
   intro q
   rw [q,hoc] at e
   have q':oc=p.2:=Option.some.inj e
   exact d w' (by rw [←q'];exact hocd)
theorem ad3 {M:Model} {A:Around} {E:Value->Shared->Prop} {i:Nat} {x:Str} {v:V} {u:Value} {Q:Unit->Shared->Prop} (I:Inv X pins σ H s) (hN:X.N.Nodup) (hi:X.N[i]?=some x) (hx:Loc X.env.scope x) (r:RelV v u)
 (h:∀s',Inv X pins (σ.set i (some v)) H s'->Q () s') (hf:X.fn x=true\/X.env.scope.names.lookup x=some .local:=by first | exact .inl rfl | exact .inr rfl | assumption):wpAny M A (storeName X.env x u) Q E s:=
 aJ1 I hN hi hx r (λs' I' _=>h s' I') hf
theorem Inv.call' {s':Shared} {ch:List Addr} (I:Inv X pins σ H s) (ho:s'.os=s.os) (u:Un (frs X.stack) ch H H' s.heap s'.heap) (hok:HOk X.prog X.w H' s'.heap) (hg:AllBare s'.gens)
 (hch:∀b∈ch,(b∈X.ex\/X.s₀.heap.objs.size<=b)/\b≠X.env.locals/\(∀x c,X.env.cells.lookup x=some c->c≠b)/\∀p∈X.pn++pins,p.1≠b):Inv X pins σ H' s':=by
 obtain⟨h',g',d',t',o'⟩:=s'
 have e:o'=s.os:=ho
 subst e
 exact I.call (g':=g') (t':=t') (d':=d') u hok hg hch
end
noncomputable abbrev XK:=Value->Option Addr->Hp->Prop
noncomputable abbrev St:=List (Option V)
noncomputable abbrev VK:=V->Hp->Prop
noncomputable abbrev TE:=St->Hp->VK->Prop
noncomputable abbrev TT:=St->Hp->(Bool->Hp->Prop)->Prop
noncomputable abbrev TA:=St->Hp->(List V->Hp->Prop)->Prop
structure az7 where
 nx:St->Hp->Prop
 rt:VK
 bk:St->Hp->Prop:=λ_ _=>False
 ct:St->Hp->Prop:=λ_ _=>False
noncomputable abbrev TS:=az7->St->Hp->Prop
noncomputable def EP (X:Cx) (pins:List (Addr×Obj)) (σ:St) (Q:VK) (u:Value) (s':Shared):Prop:=∃v H',Inv X pins σ H' s'/\RelV v u/\Q v H'
noncomputable def TP (X:Cx) (pins:List (Addr×Obj)) (σ:St) (Q:Bool->Hp->Prop) (b:Bool) (s':Shared):Prop:=∃H',Inv X pins σ H' s'/\Q b H'
noncomputable def AP (X:Cx) (pins:List (Addr×Obj)) (σ:St) (Q:List V->Hp->Prop) (us:List Value) (s':Shared):Prop:=∃vs H',Inv X pins σ H' s'/\Vals vs us/\Q vs H'
noncomputable def SP (X:Cx) (pins:List (Addr×Obj)) (D:az7) (f:Flow) (s':Shared):Prop:=
 match f with
 | .next=>∃σ' H',Inv X pins σ' H' s'/\D.nx σ' H'
 | .brk=>∃σ' H',Inv X pins σ' H' s'/\D.bk σ' H'
 | .cont=>∃σ' H',Inv X pins σ' H' s'/\D.ct σ' H'
 | .ret u=>∃v σ' H',Inv X pins σ' H' s'/\RelV v u/\D.rt v H'
noncomputable def PE (X:Cx) (e:Expr) (t:TE):Prop:=
 ∀(pins:List (Addr×Obj)) (s:Shared) (σ:St) (H:Hp) (Q:VK),Inv X pins σ H s->t σ H Q->wpAny (model X.prog X.w) X.A (eval e X.env) (EP X pins σ Q) X.xe s
noncomputable def PT (X:Cx) (e:Expr) (t:TT):Prop:=
 ∀(pins:List (Addr×Obj)) (s:Shared) (σ:St) (H:Hp) (Q:Bool->Hp->Prop),Inv X pins σ H s->t σ H Q->wpAny (model X.prog X.w) X.A (isTrue e X.env (eval e X.env)) (TP X pins σ Q) X.xe s
noncomputable def PW (X:Cx) (e:Expr) (t:TT):Prop:=
 ∀(whole:Sem Value) (pins:List (Addr×Obj)) (s:Shared) (σ:St) (H:Hp) (Q:Bool->Hp->Prop),Inv X pins σ H s->t σ H Q->wpAny (model X.prog X.w) X.A (isTrue e X.env whole) (TP X pins σ Q) X.xe s
theorem PW.pt {X:Cx} {e:Expr} {t:TT} (h:PW X e t):PT X e t:=h _
noncomputable def PA (X:Cx) (es:List Expr) (t:TA):Prop:=
 ∀(pos:Pos) (pins:List (Addr×Obj)) (s:Shared) (σ:St) (H:Hp) (Q:List V->Hp->Prop),Inv X pins σ H s->t σ H Q->wpAny (model X.prog X.w) X.A (spliced (backTo pos (starEach es X.env))) (AP X pins σ Q) X.xe s
noncomputable def PS (X:Cx) (st:Stmt) (t:TS):Prop:=
 ∀(pins:List (Addr×Obj)) (s:Shared) (σ:St) (H:Hp) (D:az7),Inv X pins σ H s->t D σ H->wpAny (model X.prog X.w) X.A (exec st X.env) (SP X pins D) X.xe s
noncomputable def PSs (X:Cx) (st:List Stmt) (t:TS):Prop:=
 ∀(pins:List (Addr×Obj)) (s:Shared) (σ:St) (H:Hp) (D:az7),Inv X pins σ H s->t D σ H->wpAny (model X.prog X.w) X.A (execs st X.env) (SP X pins D) X.xe s
theorem thn {α:Type} {t:Sem α} {Q Q':α->Shared->Prop} {M:Model} {A:Around} {E:Value->Shared->Prop} {s:Shared} (h:wpAny M A t Q E s) (hQ:∀a s,Q a s->Q' a s):wpAny M A t Q' E s:=wpAny_mono h hQ λ_ _ x=>x
end L2
namespace L2
open PySem PySem.Spec PyProof.Rows
section
variable {X:Cx}
noncomputable def a78 (i:Nat):TE:=λσ H Q=>∃v,σ[i]?=some (some v)/\Q v H
noncomputable def tC (v:V):TE:=λ_ H Q=>Q v H
theorem a79 {i:Nat} {x:Str} {pos:Pos} (hN:X.N[i]?=some x) (hv:Vis X.env.scope x) (hd:(x == ("__debug__" : Str))=false:=by decide) (hcd:(x == ("__classdict__" : Str))=false:=by decide):PE X (.Name x pos) (a78 i):=by
 intro pins s σ H Q I h
 obtain⟨v,e,h⟩:=h
 obtain⟨m,hn,hl⟩:=I.loc
 obtain⟨u,r,l⟩:=hl i x v hN e hv
 have fin:EP X pins σ Q u s:=⟨v,H,I,r,h⟩
 rcases l with ⟨hk,hm⟩ | ⟨hk,c,hc,hcell⟩
 ·exact wpAny_Name (wpAny_loadName_local I.ok.kind hk hn hm fin) hd
 ·rcases hk with hk | hk
  ·exact wpAny_Name (wpAny_loadName_cell I.ok.kind hk hc hcell fin) hd
  ·exact wpAny_Name (wpAny_loadName_free I.ok.kind hk hc hcell fin hcd) hd
theorem a80 {i j pos}:PE X (.Constant (.int i) j pos) (tC (.int i)):=λ_ _ _ H _ I h=>wpAny_Constant_int ⟨.int i,H,I.tok _,⟨_,rfl⟩,h⟩
theorem bh1 {b j pos}:PE X (.Constant (.bool b) j pos) (tC (.bl b)):=λ_ _ _ H _ I h=>Constant_bool ⟨.bl b,H,I,rfl,h⟩
theorem a81 {j pos}:PE X (.Constant .none j pos) (tC .non):=λ_ _ _ H _ I h=>Constant_none ⟨.non,H,I,rfl,h⟩
theorem a82 {x j pos}:PE X (.Constant (.str x) j pos) (tC (.str x)):=λ_ _ _ H _ I h=>Calls.Constant_str ⟨.str x,H,I.tok _,⟨_,rfl⟩,h⟩
noncomputable def Gl (X:Cx) (x:Str):Prop:=X.env.kindOf x=some .globalImplicit
theorem ao8 {E:Value->Shared->Prop} {pins:List (Addr×Obj)} {s:Shared} {σ:St} {H:Hp} {x:Str} {u:Value} {pos:Pos} {Q:Value->Shared->Prop} (I:Inv X pins σ H s) (hg:Gl X x) (hm:X.mg x=some u) (h:Q u s)
 (hd:(x == ("__debug__" : Str))=false:=by decide):wpAny (model X.prog X.w) X.A (eval (.Name x pos) X.env) Q E s:=
 Calls.Name_function_global I.ok.kind hg (Calls.loadGlobal_global (by rw [I.ok.glob];exact I.mod.glob.keeps I.bk) hm h) hd
theorem m5 {E:Value->Shared->Prop} {pins:List (Addr×Obj)} {s:Shared} {σ:St} {H:Hp} {x:Str} {u:Value} {pos:Pos} {Q:Value->Shared->Prop} (I:Inv X pins σ H s) (hg:Gl X x) (hm:X.mg x=none) (hv:bootBuiltins x=some u) (h:Q u s)
 (hn:x≠"__name__":=by decide) (hd:(x == ("__debug__" : Str))=false:=by decide):wpAny (model X.prog X.w) X.A (eval (.Name x pos) X.env) Q E s:=by
 obtain⟨mb,h1,h2⟩:=I.mod.blt
 exact Calls.Name_function_global I.ok.kind hg (Calls.loadGlobal_builtin (by rw [I.ok.glob];exact I.mod.glob.keeps I.bk) hm (by rw [I.ok.blt];exact h1.keeps I.bk) ((h2 x hn).trans hv) h) hd
theorem ao9 {x:Str} {v:V} {u:Value} {pos:Pos} (hg:Gl X x) (hm:X.mg x=some u) (r:RelV v u) (hd:(x == ("__debug__" : Str))=false:=by decide):PE X (.Name x pos) (tC v):=
 λ_ _ _ H _ I h=>ao8 I hg hm ⟨v,H,I,r,h⟩ hd
theorem aE2 {x:Str} {v:V} {u:Value} {pos:Pos} (hg:Gl X x) (hm:X.mg x=none) (hv:bootBuiltins x=some u) (r:RelV v u) (hn:x≠"__name__":=by decide) (hd:(x == ("__debug__" : Str))=false:=by decide):PE X (.Name x pos) (tC v):=
 λ_ _ _ H _ I h=>m5 I hg hm hv ⟨v,H,I,r,h⟩ hn hd
variable {a b:Expr} {ta tb:TE} {pos:Pos}
noncomputable def PC (X:Cx) (op:CmpOp) (a b:Expr) (t:TE):Prop:=
 ∀(pins:List (Addr×Obj)) (s:Shared) (σ:St) (H:Hp) (Q:VK),Inv X pins σ H s->t σ H Q->
  wpAny (model X.prog X.w) X.A (eval a X.env) (λv s₁=>wpAny (model X.prog X.w) X.A (eval b X.env) (λu s₂=>wpAny (model X.prog X.w) X.A (compareOp op v u) (EP X pins σ Q) X.xe s₂) X.xe s₁) X.xe s
noncomputable def bh2 (ta:TE):TE:=λσ H Q=>ta σ H λx H1=>Q (.bl (decide (x=.non))) H1
noncomputable def a54 (ta:TE):TE:=λσ H Q=>ta σ H λx H1=>Q (.bl (!decide (x=.non))) H1
theorem RelV.none_iff {x:V} {v:Value} (r:RelV x v):(v == Value.none)=decide (x=.non):=by
 cases x with
 | non=>cases r;rfl
 | bl _=>cases r;rfl
 | int _=>obtain⟨t,rfl⟩:=r;rfl
 | str _=>obtain⟨t,rfl⟩:=r;rfl
 | byt _=>obtain⟨t,rfl⟩:=r;rfl
 | flt _=>obtain⟨t,rfl⟩:=r;rfl
 | ref _=>cases r;rfl
 | ty _=>cases r;rfl
theorem a83 {j pos'} (ha:PE X a ta):PC X .Is a (.Constant .none j pos') (bh2 ta):=by
 intro pins s σ H Q I h
 refine thn (ha pins s σ H _ I h) λv s1 ⟨x,H1,I1,r1,q1⟩=>?_
 exact Constant_none (is_none_gen ⟨.bl _,H1,I1,by rw [r1.none_iff];rfl,q1⟩)
theorem aW7 {j pos'} (ha:PE X a ta):PC X .IsNot a (.Constant .none j pos') (a54 ta):=by
 intro pins s σ H Q I h
 refine thn (ha pins s σ H _ I h) λv s1 ⟨x,H1,I1,r1,q1⟩=>?_
 exact Constant_none (isnot_none_gen ⟨.bl _,H1,I1,by rw [r1.none_iff];rfl,q1⟩)
noncomputable def tB (t:TE):TT:=λσ H Q=>t σ H λx H1=>∃c,x=.bl c/\Q c H1
theorem aN6 {op:CmpOp} {t:TE} (h:PC X op a b t) (h1:behindInMarks op b=false:=by first | exact nobehind _ (by decide) (by decide) | rfl):PT X (.Compare a [op] [b] pos) (tB t):=by
 intro pins s σ H Q I hw
 refine wpAny_isTrue_Compare1 (thn (h pins s σ H _ I hw) λv s1 h1=>thn h1 λu s2 h2=>thn h2 λc s3 ⟨x,H1,I1,r1,q1⟩=>?_) h1
 obtain⟨d,rfl,q⟩:=q1
 cases r1
 exact wpAny_truthy_bool ⟨H1,I1,q⟩
theorem a84 {e:Expr} {t:TE} (h:PE X e t) (he:∀whole,isTrue e X.env whole=(do let v ←whole;standAt e.pos;holding [v] (truthy v)):=by intro _;rfl):PT X e (tB t):=by
 intro pins s σ H Q I hw
 refine isTrue_plain (thn (h pins s σ H _ I hw) λv s1 ⟨x,H1,I1,r1,q1⟩=>?_) (he _)
 obtain⟨d,rfl,q⟩:=q1
 cases r1
 exact wpAny_truthy_bool ⟨H1,I1,q⟩
variable {tA tB':TT} {rest:List Expr}
noncomputable def tAnd (t u:TT):TT:=λσ H Q=>t σ H λc H1=>if c=true then u σ H1 Q else Q false H1
noncomputable def tOr (t u:TT):TT:=λσ H Q=>t σ H λc H1=>if c=true then Q true H1 else u σ H1 Q
noncomputable def tNot (t:TT):TT:=λσ H Q=>t σ H λc H1=>Q (!c) H1
theorem aW8 (ha:PT X a tA):PW X (.BoolOp .And [a] pos) tA:=by
 intro wh pins s σ H Q I h
 refine isTrue_and (thn (ha pins s σ H Q I h) λc s1 e=>?_)
 cases c with
 | true=>exact isTrue_and_nil e
 | false=>exact e
theorem a85 (ha:PT X a tA):PW X (.BoolOp .Or [a] pos) tA:=by
 intro wh pins s σ H Q I h
 refine isTrue_or (thn (ha pins s σ H Q I h) λc s1 e=>?_)
 cases c with
 | false=>exact isTrue_or_nil e
 | true=>exact e
theorem a86 (ha:PT X a tA) (hb:PW X (.BoolOp .And (b::rest) pos) tB'):PW X (.BoolOp .And (a::b::rest) pos) (tAnd tA tB'):=by
 intro wh pins s σ H Q I h
 refine isTrue_and (thn (ha pins s σ H _ I h) λc s1 ⟨H1,I1,q1⟩=>?_)
 cases c with
 | true=>exact hb wh pins s1 σ H1 Q I1 q1
 | false=>exact⟨H1,I1,q1⟩
theorem bh3 (ha:PT X a tA) (hb:PW X (.BoolOp .Or (b::rest) pos) tB'):PW X (.BoolOp .Or (a::b::rest) pos) (tOr tA tB'):=by
 intro wh pins s σ H Q I h
 refine isTrue_or (thn (ha pins s σ H _ I h) λc s1 ⟨H1,I1,q1⟩=>?_)
 cases c with
 | true=>exact⟨H1,I1,q1⟩
 | false=>exact hb wh pins s1 σ H1 Q I1 q1
theorem a87 (ha:PT X a tA):PT X (.UnaryOp .Not a pos) (tNot tA):=by
 intro pins s σ H Q I h
 exact isTrue_not (ha pins s σ H (λc H1=>Q (!c) H1) I h)
noncomputable def bh4 (ta tb:TE):TE:=λσ H Q=>ta σ H λx H1=>∃c,x=.bl c/\if c=true then tb σ H1 Q else Q (.bl false) H1
noncomputable def bm0 (ta tb:TE):TE:=λσ H Q=>ta σ H λx H1=>∃c,x=.bl c/\if c=true then Q (.bl true) H1 else tb σ H1 Q
noncomputable def bh5 (ta:TE):TE:=λσ H Q=>ta σ H λx H1=>∃c,x=.bl c/\Q (.bl (!c)) H1
theorem aN7 {op} {t:TE} (h:PE X a t):PE X (.BoolOp op [a] pos) t:=λpins s σ H Q I hw=>BoolOp_one (h pins s σ H Q I hw)
theorem a88 (ha:PE X a ta) (hb:PE X (.BoolOp .And (b::rest) pos) tb):PE X (.BoolOp .And (a::b::rest) pos) (bh4 ta tb):=by
 intro pins s σ H Q I h
 refine BoolOp_and (thn (ha pins s σ H _ I h) λv s1 ⟨x,H1,I1,r1,q1⟩=>?_)
 obtain⟨c,rfl,q1⟩:=q1
 cases r1
 refine wpAny_truthy_bool ?_
 cases c with
 | true=>exact hb pins s1 σ H1 Q I1 q1
 | false=>exact⟨.bl false,H1,I1,rfl,q1⟩
theorem bh6 (ha:PE X a ta) (hb:PE X (.BoolOp .Or (b::rest) pos) tb):PE X (.BoolOp .Or (a::b::rest) pos) (bm0 ta tb):=by
 intro pins s σ H Q I h
 refine BoolOp_or (thn (ha pins s σ H _ I h) λv s1 ⟨x,H1,I1,r1,q1⟩=>?_)
 obtain⟨c,rfl,q1⟩:=q1
 cases r1
 refine wpAny_truthy_bool ?_
 cases c with
 | false=>exact hb pins s1 σ H1 Q I1 q1
 | true=>exact⟨.bl true,H1,I1,rfl,q1⟩
theorem a89 (ha:PE X a ta):PE X (.UnaryOp .Not a pos) (bh5 ta):=by
 intro pins s σ H Q I h
 refine UnaryOp_ (thn (ha pins s σ H _ I h) λv s1 ⟨x,H1,I1,r1,q1⟩=>?_)
 obtain⟨c,rfl,q1⟩:=q1
 cases r1
 exact not_of (wpAny_truthy_bool ⟨.bl (!c),H1,I1,rfl,q1⟩)
noncomputable def tIf (t:TT) (ta tb:TE):TE:=λσ H Q=>t σ H λc H1=>if c=true then ta σ H1 Q else tb σ H1 Q
theorem aN8 {c:Expr} (hc:PT X c tA) (ha:PE X a ta) (hb:PE X b tb):PE X (.IfExp c a b pos) (tIf tA ta tb):=by
 intro pins s σ H Q I h
 refine wpAny_IfExp (thn (hc pins s σ H _ I h) λd s1 ⟨H1,I1,q1⟩=>?_)
 cases d with
 | true=>exact ha pins s1 σ H1 Q I1 q1
 | false=>exact hb pins s1 σ H1 Q I1 q1
end
end L2
namespace L2
open PySem PySem.Spec PyProof.Rows
noncomputable def SqL (K:PySem.W.Frag) (H:Hp) (a:Addr) (xs:List V):Prop:=
 Rd H a (.lst xs)\/
  ∃(o:Obj) (its:Array Value) (n:Nat),K.lookup a=some o/\o.cls=.type "list"/\o.dict=none/\o.data=.seq its n/\its.size<=sizeLine/\Vals xs its.toList
noncomputable def SqT (K:PySem.W.Frag) (H:Hp) (a:Addr) (xs:List V):Prop:=
 Rd H a (.tup xs)\/
  ∃(o:Obj) (its:Array Value) (n:Nat),K.lookup a=some o/\o.cls=.type "tuple"/\o.data=.seq its n/\its.size<=sizeLine/\Vals xs its.toList
noncomputable def bm1:Value->Option V
 | .none=>some .non
 | .bool b=>some (.bl b)
 | .int i _=>some (.int i)
 | .str x _=>some (.str x)
 | .bytes b _=>some (.byt b)
 | .float b _=>some (.flt b)
 | .ref a=>some (.ref a)
 | .type n=>some (.ty n)
 | _=>none
theorem RelV.abs {x:V} {u:Value} (r:RelV x u):bm1 u=some x:=by
 cases x with
 | non=>cases r;rfl
 | bl _=>cases r;rfl
 | int _=>obtain⟨t,rfl⟩:=r;rfl
 | str _=>obtain⟨t,rfl⟩:=r;rfl
 | byt _=>obtain⟨t,rfl⟩:=r;rfl
 | flt _=>obtain⟨t,rfl⟩:=r;rfl
 | ref _=>cases r;rfl
 | ty _=>cases r;rfl
theorem RelV.inj {x y:V} {u:Value} (r:RelV x u) (q:RelV y u):x=y:=Option.some.inj (r.abs.symm.trans q.abs)
theorem Vals.inj:∀{xs ys:List V} {us:List Value},Vals xs us->Vals ys us->xs=ys
 | _,_,_,.nil,.nil=>rfl
 | _,_,_,.cons r t,.cons r' t'=>by rw [r.inj r',Vals.inj t t']
section
variable {X:Cx} {pins:List (Addr×Obj)} {σ:St} {H:Hp} {s:Shared} {a:Addr} {xs ys:List V}
theorem SqL.of {K:PySem.W.Frag} (h:H a=some (.lst xs)):SqL K H a xs:=.inl (.inl h)
theorem SqT.of {K:PySem.W.Frag} (h:H a=some (.tup xs)):SqT K H a xs:=.inl (.inl h)
theorem Inv.list (I:Inv X pins σ H s) (h:SqL X.K H a xs):∃its:List Value,Vals xs its/\PlainL s.heap a its.toArray/\xs.length<=sizeLine:=by
 rcases h with h | ⟨o,its,n,hk,hc,hd,hs,hz,r⟩
 ·obtain⟨z,its,n,r,e⟩:=h.ok I.hok
  exact⟨its,r,⟨_,n,e,rfl,rfl,rfl⟩,z⟩
 ·refine⟨its.toList,r,⟨o,n,I.kIn a o hk,hc,hd,by simpa using hs⟩,?_⟩
  have e:=r.length
  simp only [Array.length_toList] at e
  omega
theorem Inv.tuple (I:Inv X pins σ H s) (h:SqT X.K H a xs):∃its:List Value,Vals xs its/\IsTup s.heap a its.toArray/\xs.length<=sizeLine:=by
 rcases h with h | ⟨o,its,n,hk,hc,hs,hz,r⟩
 ·obtain⟨z,its,r,p⟩:=h.ok I.hok
  exact⟨its,r,p,z⟩
 ·refine⟨its.toList,r,⟨o,I.kIn a o hk,hc,n,by simpa using hs⟩,?_⟩
  have e:=r.length
  simp only [Array.length_toList] at e
  omega
theorem Inv.list_inj (I:Inv X pins σ H s) (h:SqL X.K H a xs) (h':SqL X.K H a ys):xs=ys:=by
 obtain⟨its,r,⟨o,n,e,_,_,d⟩,_⟩:=I.list h
 obtain⟨its',r',⟨o',n',e',_,_,d'⟩,_⟩:=I.list h'
 rw [e] at e';cases e'
 rw [d] at d'
 injection d' with d1 _
 have:its=its':=by simpa using congrArg Array.toList d1
 subst this
 exact r.inj r'
theorem Inv.tuple_inj (I:Inv X pins σ H s) (h:SqT X.K H a xs) (h':SqT X.K H a ys):xs=ys:=by
 obtain⟨its,r,⟨o,e,_,n,d⟩,_⟩:=I.tuple h
 obtain⟨its',r',⟨o',e',_,n',d'⟩,_⟩:=I.tuple h'
 rw [e] at e';cases e'
 rw [d] at d'
 injection d' with d1 _
 have:its=its':=by simpa using congrArg Array.toList d1
 subst this
 exact r.inj r'
end
noncomputable abbrev Cx.wish (X:Cx) (E:Value->Shared->Prop):Cx:={ X with xe:=E }
noncomputable abbrev Cx.nox (X:Cx):Cx:=X.wish λ_ _=>False
theorem Cx.Ok.wish {X:Cx} (ok:X.Ok) (E:Value->Shared->Prop):(X.wish E).Ok:=
 ⟨ok.mod,ok.kind,ok.glob,ok.blt,ok.above,ok.inj,ok.has,ok.cab,ok.hd,ok.frames,ok.stk,ok.exf,ok.bs,ok.bsz,ok.noex,ok.exfs,ok.funs,ok.frf⟩
theorem Cx.Ok.unwish {X:Cx} {E:Value->Shared->Prop} (ok:(X.wish E).Ok):X.Ok:=
 ⟨ok.mod,ok.kind,ok.glob,ok.blt,ok.above,ok.inj,ok.has,ok.cab,ok.hd,ok.frames,ok.stk,ok.exf,ok.bs,ok.bsz,ok.noex,ok.exfs,ok.funs,ok.frf⟩
section
variable {X:Cx} {pins:List (Addr×Obj)} {σ:St} {H:Hp} {s:Shared} {E:Value->Shared->Prop}
theorem Inv.wish (I:Inv X pins σ H s) (E:Value->Shared->Prop):Inv (X.wish E) pins σ H s:=⟨I.ok.wish E,I.os,I.bare,I.base,I.loc,I.cell,I.free,I.freeC,I.pin,I.hok,I.len⟩
theorem Inv.unwish (I:Inv (X.wish E) pins σ H s):Inv X pins σ H s:=⟨I.ok.unwish,I.os,I.bare,I.base,I.loc,I.cell,I.free,I.freeC,I.pin,I.hok,I.len⟩
theorem SP.unwish {D:az7} {f:Flow} {s':Shared} (h:SP (X.wish E) pins D f s'):SP X pins D f s':=by
 cases f with
 | next=>obtain⟨σ',H',I,q⟩:=h;exact⟨σ',H',I.unwish,q⟩
 | brk=>obtain⟨σ',H',I,q⟩:=h;exact⟨σ',H',I.unwish,q⟩
 | cont=>obtain⟨σ',H',I,q⟩:=h;exact⟨σ',H',I.unwish,q⟩
 | ret u=>obtain⟨v,σ',H',I,r,q⟩:=h;exact⟨v,σ',H',I.unwish,r,q⟩
theorem PSs.nox {st:List Stmt} {t:TS} (h:PSs X.nox st t):PSs X st t:=λpins s σ H D I hw=>
 wpAny_mono (h pins s σ H D (I.wish _) hw) (λ_ _ q=>q.unwish) λ_ _ z=>False.elim z
end
section
variable {X:Cx} {st:Stmt} {rest:List Stmt} {t u:TS} {e:Expr} {te:TE} {pos:Pos}
noncomputable def tNext:TS:=λD σ H=>D.nx σ H
noncomputable def bm2 (t u:TS):TS:=λD σ H=>t { D with nx:=u D } σ H
theorem aW9:PSs X [] tNext:=λ_ _ σ H _ I h=>wpAny_execs_nil ⟨σ,H,I,h⟩
theorem aN9 (h1:PS X st t) (h2:PSs X rest u):PSs X (st::rest) (bm2 t u):=by
 intro pins s σ H D I h
 refine wpAny_execs_cons (thn (h1 pins s σ H { D with nx:=u D } I h) λf s1 q=>?_)
 cases f with
 | next=>
   obtain⟨σ',H',I',q⟩:=q
   exact h2 pins s1 σ' H' D I' q
 | ret v=>exact q
 | brk=>exact q
 | cont=>exact q
theorem aX0 (h1:PS X st t):PSs X [st] t:=by
 intro pins s σ H D I h
 refine wpAny_execs_cons (thn (h1 pins s σ H D I h) λf s1 q=>?_)
 cases f with
 | next=>exact wpAny_execs_nil q
 | ret v=>exact q
 | brk=>exact q
 | cont=>exact q
theorem Inv.quiet {pins:List (Addr×Obj)} {σ:St} {H:Hp} {s:Shared} (I:Inv X pins σ H s):interactive X.env=false:=by simp [interactive,I.ok.kind]
noncomputable def bh7 (te:TE):TS:=λD σ H=>te σ H λ_ H1=>D.nx σ H1
theorem aX1 (he:PE X e te) (hs:swapsWith e none pos.line X.env=pure false:=by rfl):PS X (.Expr e pos) (bh7 te):=by
 intro pins s σ H D I h
 exact wpAny_Expr_any (thn (he pins s σ H _ I h) λv s1 ⟨x,H1,I1,r1,q1⟩=>⟨σ,H1,I1,q1⟩) I.quiet hs
noncomputable def bm3 (te:TE):TS:=λD σ H=>te σ H D.rt
theorem a90 (he:PE X e te):PS X (.Return (some e) pos) (bm3 te):=by
 intro pins s σ H D I h
 exact wpAny_Return_some (thn (he pins s σ H _ I h) λv s1 ⟨x,H1,I1,r1,q1⟩=>⟨x,σ,H1,I1,r1,q1⟩)
noncomputable def bm4 (c:TT) (t u:TS):TS:=λD σ H=>c σ H λb H1=>if b=true then t D σ H1 else u D σ H1
theorem bh8 {c:Expr} {a b:List Stmt} {tc:TT} (hc:PT X c tc) (ha:PSs X a t) (hb:PSs X b u):PS X (.If c a b pos) (bm4 tc t u):=by
 intro pins s σ H D I h
 refine wpAny_If (thn (hc pins s σ H _ I h) λd s1 ⟨H1,I1,q1⟩=>?_)
 cases d with
 | true=>exact ha pins s1 σ H1 D I1 q1
 | false=>exact hb pins s1 σ H1 D I1 q1
noncomputable def tNever:TS:=λ_ _ _=>False
theorem aO0:PS X st tNever:=λ_ _ _ _ _ _ h=>h.elim
end
noncomputable abbrev TG:=V->St->Hp->(St->Hp->Prop)->Prop
noncomputable abbrev TGs:=List V->St->Hp->(St->Hp->Prop)->Prop
noncomputable def PG (X:Cx) (target:Expr) (t:TG):Prop:=
 ∀(pins:List (Addr×Obj)) (s:Shared) (σ:St) (H:Hp) (v:V) (u:Value) (Q:St->Hp->Prop),Inv X pins σ H s->RelV v u->t v σ H Q->
  wpAny (model X.prog X.w) X.A (assign target X.env u) (λ_ s'=>∃σ' H',Inv X pins σ' H' s'/\Q σ' H') X.xe s
noncomputable def PGs (X:Cx) (ts:List Expr) (t:TGs):Prop:=
 ∀(pins:List (Addr×Obj)) (s:Shared) (σ:St) (H:Hp) (vs:List V) (us:List Value) (Q:St->Hp->Prop),Inv X pins σ H s->Vals vs us->t vs σ H Q->
  wpAny (model X.prog X.w) X.A (assignInOrder ((assignEach ts X.env).map (·.2)) us) (λ_ s'=>∃σ' H',Inv X pins σ' H' s'/\Q σ' H') X.xe s
section
variable {X:Cx} {pos:Pos}
noncomputable def gName (i:Nat):TG:=λv σ H Q=>Q (σ.set i (some v)) H
theorem pg_name {i:Nat} {x:Str} (hN:X.N.Nodup) (hi:X.N[i]?=some x) (hx:Loc X.env.scope x) (hf:X.fn x=true\/X.env.scope.names.lookup x=some .local:=by first | exact .inl rfl | exact .inr rfl | assumption):PG X (.Name x pos) (gName i):=by
 intro pins s σ H v u Q I r h
 exact wpAny_assign_Name (ad3 I hN hi hx r (λs' I'=>⟨_,H,I',h⟩) hf)
noncomputable def gNil:TGs:=λvs σ H Q=>vs=[]/\Q σ H
noncomputable def gCons (t:TG) (u:TGs):TGs:=λvs σ H Q=>∃v r,vs=v::r/\t v σ H λσ' H'=>u r σ' H' Q
theorem aX2:PGs X [] gNil:=by
 intro pins s σ H vs us Q I r h
 obtain⟨e,h⟩:=h
 subst e
 cases r
 exact assignInOrder_nil ⟨σ,H,I,h⟩
theorem aO1 {e:Expr} {es:List Expr} {t:TG} {u:TGs} (h1:PG X e t) (h2:PGs X es u)
 (hs:(assignEach (e::es) X.env).map (·.2)=assign e X.env::(assignEach es X.env).map (·.2):=by rfl):PGs X (e::es) (gCons t u):=by
 intro pins s σ H vs us Q I r h
 obtain⟨v,vr,e1,h⟩:=h
 subst e1
 cases r with
 | cons r rr=>
   rw [hs]
   refine assignInOrder_cons (thn (h1 pins s σ H _ _ _ I r h) λ_ s1 ⟨σ1,H1,I1,q1⟩=>?_)
   exact h2 pins s1 σ1 H1 _ _ Q I1 rr q1
noncomputable def gTup (K:PySem.W.Frag) (n:Nat) (t:TGs):TG:=λv σ H Q=>∃a xs,v=.ref a/\SqT K H a xs/\xs.length=n/\t xs σ H Q
theorem a91 {es:List Expr} {k:Nat} {t:TGs} {n:Nat} (hc:X.calm=true) (h:PGs X es t)
 (hn:(assignEach es X.env).length=n:=by rfl) (hst:(assignEach es X.env).findIdx? (·.1)=none:=by rfl):PG X (.Tuple es k pos) (gTup X.K n t):=by
 intro pins s σ H v u Q I r hw
 obtain⟨a,xs,e1,hq,hl,hw⟩:=hw
 subst e1
 cases r
 obtain⟨its,rv,ht,hz⟩:=I.tuple hq
 refine assign_Tuple_tuple (I.ok.hd hc) ht (by simp [hn,←hl,rv.length]) hst λh' hx=>?_
 have I1:Inv X pins σ H { s with heap:=h' }:=I.kept (t':=s.toks) λb o e=>hx b o (Nat.ne_of_lt (Heap.lt_size e)) e
 exact h pins _ σ H xs _ Q I1 (by simpa using rv) hw
noncomputable def a92 (te:TE) (g:TG):TS:=λD σ H=>te σ H λx H1=>g x σ H1 D.nx
theorem a93 {tg e:Expr} {te:TE} {g:TG} (he:PE X e te) (hg:PG X tg g) (hs:swapsWithSole [tg] e pos.line X.env=pure false:=by rfl) (hw:swappedStores [tg] e X.env=pure none:=by rfl)
 (h1:(assignEach [tg] X.env).map (·.2)=[assign tg X.env]:=by rfl):PS X (.Assign [tg] e pos) (a92 te g):=by
 intro pins s σ H D I h
 refine wpAny_Assign_stores (thn (he pins s σ H _ I h) λv s1 ⟨x,H1,I1,r1,q1⟩=>?_) hs hw
 rw [h1]
 exact thn (hg pins s1 σ H1 x v _ I1 r1 q1) λ_ s2 q=>q
theorem a94 {i:Nat} {x:Str} {e:Expr} {te:TE} {pos':Pos} (hN:X.N.Nodup) (hi:X.N[i]?=some x) (hx:Loc X.env.scope x) (he:PE X e te) (hs:swapsWith e (some (.Name x pos')) pos.line X.env=pure false:=by rfl) (hf:X.fn x=true\/X.env.scope.names.lookup x=some .local:=by first | exact .inl rfl | exact .inr rfl | assumption) :
 PS X (.Assign [.Name x pos'] e pos) (a92 te (gName i)):=by
 intro pins s σ H D I h
 refine wpAny_Assign_Name (thn (he pins s σ H _ I h) λv s1 ⟨y,H1,I1,r1,q1⟩=>?_) hs
 exact ad3 I1 hN hi hx r1 (λs2 I2=>⟨_,H1,I2,q1⟩) hf
end
structure It where
 go:Nat->Hp->Prop
 yld:Nat->Hp->V->Hp->Prop
 stop:Nat->Hp->Prop
noncomputable def o5 (X:Cx) (pins:List (Addr×Obj)) (H:Hp) (b:Addr):Prop:=
 H b=none/\b≠X.env.locals/\b∉X.fs/\(b∈X.ex\/X.s₀.heap.objs.size<=b)/\(∀x c,X.env.cells.lookup x=some c->c≠b)/\∀p∈X.pn++pins,p.1≠b
theorem Inv.fpOk {X:Cx} {pins:List (Addr×Obj)} {σ:St} {H H':Hp} {s:Shared} {b:Addr} (I:Inv X pins σ H s) (hb:s.heap.objs.size<=b) (hn:H' b=none):o5 X pins H' b:=by
 refine⟨hn,Nat.ne_of_gt (Nat.lt_of_lt_of_le I.lt hb),I.nofs hb,.inr (Nat.le_trans I.sz hb),λx c e z=>?_,λp hp z=>?_⟩
 ·obtain⟨v,q⟩:=I.cell x c e
  exact absurd (Nat.lt_of_lt_of_le q.lt (by rw [z];exact hb)) (Nat.lt_irrefl _)
 ·exact absurd (Nat.lt_of_lt_of_le (Heap.lt_size (I.pin p hp).1) (by rw [z];exact hb)) (Nat.lt_irrefl _)
structure ap0 (P:Program) (w:World) (K:PySem.W.Frag) (tg:Expr) (J:It) (fp:List Addr) (it:Addr) (tn:Nat->Heap->Prop):Prop where
 mem:it∈fp
 obj:∀i h,tn i h->∀b∈fp,∃o,h.get? b=some o/\∀v,o.data≠.cell v
 keep:∀i h h',tn i h->(∀b∈fp,∀o,h.get? b=some o->h'.get? b=some o)->tn i h'
 item:∀(X:Cx),X.prog=P->X.w=w->X.K=K->X.calm=true->∀(i:Nat) (pins:List (Addr×Obj)) (s:Shared) (σ:St) (H:Hp) (E:Value->Shared->Prop),Inv X pins σ H s->(∀b∈fp,o5 X pins H b)->tn i s.heap->J.go i H->
  wpAny (model P w) X.A (pyNext (.ref it)) (λr s1=>∃u,r=some u/\
   wpAny (model P w) X.A (letOwnedTupleGo tg (.ref it) u) (λ_ s2=>∃x H',Inv X pins σ H' s2/\RelV x u/\J.yld i H x H'/\tn (i+1) s2.heap/\∀b∈fp,H' b=none) E s1) E s
 done:∀(X:Cx),X.prog=P->X.w=w->X.K=K->X.calm=true->∀(i:Nat) (pins:List (Addr×Obj)) (s:Shared) (σ:St) (H:Hp) (E:Value->Shared->Prop),Inv X pins σ H s->(∀b∈fp,o5 X pins H b)->tn i s.heap->J.stop i H->
  wpAny (model P w) X.A (pyNext (.ref it)) (λr s1=>r=none/\Inv X pins σ H s1) E s
 self:∀(A:Around) (i:Nat) (s:Shared) (Q:Value->Shared->Prop) (E:Value->Shared->Prop),tn i s.heap->Q (.ref it) s->wpAny (model P w) A (pyIter (.ref it)) Q E s
noncomputable abbrev TI:=St->Hp->(It->Hp->Prop)->Prop
noncomputable def PIE (X:Cx) (pins:List (Addr×Obj)) (σ:St) (tg:Expr) (R:It->Hp->Prop) (itv:Value) (s2:Shared):Prop:=
 ∃(it:Addr) (fp:List Addr) (tn:Nat->Heap->Prop) (J:It) (H':Hp),itv=.ref it/\Inv X pins σ H' s2/\ap0 X.prog X.w X.K tg J fp it tn/\tn 0 s2.heap/\(∀b∈fp,o5 X pins H' b)/\R J H'
noncomputable def PI (X:Cx) (tg iter:Expr) (wi:TI):Prop:=
 ∀(pins:List (Addr×Obj)) (s:Shared) (σ:St) (H:Hp) (R:It->Hp->Prop),Inv X pins σ H s->wi σ H R->
  wpAny (model X.prog X.w) X.A (eval iter X.env) (λv s1=>wpAny (model X.prog X.w) X.A (pyIter v) (PIE X pins σ tg R) X.xe s1) X.xe s
theorem aE3 {M:Model} {A:Around} {E:Value->Shared->Prop} {s:Shared} {tg:Expr} {it:Addr} {u:Value} {o:Obj} {n:String} {vs:Array Value} {Q:Unit->Shared->Prop} (ho:s.heap.get? it=some o) (hc:o.cls=.type n) (hd:o.data=.fields vs)
 (hn:["enumerate","zip","dict_itemiterator","dict_reverseitemiterator","odict_iterator","itertools.zip_longest","itertools.pairwise"].contains n=false) (hQ:Q () s):wpAny M A (letOwnedTupleGo tg (.ref it) u) Q E s:=by
 unfold letOwnedTupleGo
 cases tg <;> first
  | exact wpAny_pure hQ
  | (cases u <;> first
   | exact wpAny_pure hQ
   | (refine wpAny_bind (wpAny_load ho ?_)
      rw [hc,hd]
      show wpAny M A (if (["enumerate","zip","dict_itemiterator","dict_reverseitemiterator","odict_iterator","itertools.zip_longest","itertools.pairwise"].contains n&&vs[0]? == some (rawInt _))=true then _ else _) Q E s
      rw [if_neg (by intro h;rw [hn,Bool.false_and] at h;cases h)]
      exact wpAny_pure hQ))
noncomputable def Itl (K:PySem.W.Frag) (a:Addr):It:=
 ⟨λi H=>∃xs x,SqL K H a xs/\xs[i]?=some x,λi H x H'=>H'=H/\∀xs,SqL K H a xs->xs[i]?=some x,λi H=>∃xs,SqL K H a xs/\xs.length<=i⟩
noncomputable def Itt (K:PySem.W.Frag) (a:Addr):It:=
 ⟨λi H=>∃xs x,SqT K H a xs/\xs[i]?=some x,λi H x H'=>H'=H/\∀xs,SqT K H a xs->xs[i]?=some x,λi H=>∃xs,SqT K H a xs/\xs.length<=i⟩
noncomputable def Itr (lo:Int) (n:Nat):It:=⟨λi _=>i<n,λi H x H'=>H'=H/\x=.int (lo+i),λi _=>n<=i⟩
theorem ak6 {P:Program} {w:World} {K:PySem.W.Frag} {tg:Expr} (a it:Addr):ap0 P w K tg (Itl K a) [it] it (λi h=>h.IsListIter it a i) where
 mem:=by simp
 obj:=λi h st b hb=>by
  have e:b=it:=by simpa using hb
  subst e
  obtain⟨o,e,c,d⟩:=st
  exact⟨o,e,λv z=>by rw [d] at z;cases z⟩
 keep:=λi h h' st k=>st.at λo e=>k it (by simp) o e
 item:=by
  intro X hP hw hK hc i pins s σ H E I hf st hg
  subst hP hw hK
  obtain⟨xs,x,hq,hx⟩:=hg
  obtain⟨its,rv,p,hz⟩:=I.list hq
  obtain⟨u,hu,ru⟩:=rv.get hx
  obtain⟨f0,f1,f2,f3,f4,f5⟩:=hf it (by simp)
  refine wpAny_pyNext_list_item st p.isList (x:=u) (by simpa using hu) λh' st' sb=>?_
  have I1:Inv X pins σ H { s with heap:=h' }:=I.turned (t':=s.toks) (λb o hb e=>(sb.2 b hb).trans e) f0 f1 f3 f4 f5
  obtain⟨o,e,c,d⟩:=id st'
  exact⟨u,rfl,aE3 (s:={ s with heap:=h' }) e c d (by decide) ⟨x,H,I1,ru,⟨rfl,λys hy=>by rw [I.list_inj hy hq];exact hx⟩,st',λb hb=>(hf b hb).1⟩⟩
 done:=by
  intro X hP hw hK hc i pins s σ H E I hf st hg
  subst hP hw hK
  obtain⟨xs,hq,hx⟩:=hg
  obtain⟨its,rv,p,hz⟩:=I.list hq
  obtain⟨f0,f1,f2,f3,f4,f5⟩:=hf it (by simp)
  have hl:=rv.length
  exact wpAny_pyNext_list_end (I.ok.hd hc) st p.isList (by simp;omega) λh' eb=>⟨rfl,I.turned (t':=s.toks) (λb o hb e=>eb b o hb e) f0 f1 f3 f4 f5⟩
 self:=λ_ _ _ _ _ st h=>wpAny_pyIter_listiter st h
theorem ad4 {P:Program} {w:World} {K:PySem.W.Frag} {tg:Expr} (a it:Addr):ap0 P w K tg (Itt K a) [it] it (λi h=>h.IsTupleIter it a i) where
 mem:=by simp
 obj:=λi h st b hb=>by
  have e:b=it:=by simpa using hb
  subst e
  obtain⟨o,e,c,d⟩:=st
  exact⟨o,e,λv z=>by rw [d] at z;cases z⟩
 keep:=λi h h' st k=>st.at λo e=>k it (by simp) o e
 item:=by
  intro X hP hw hK hc i pins s σ H E I hf st hg
  subst hP hw hK
  obtain⟨xs,x,hq,hx⟩:=hg
  obtain⟨its,rv,p,hz⟩:=I.tuple hq
  obtain⟨u,hu,ru⟩:=rv.get hx
  obtain⟨f0,f1,f2,f3,f4,f5⟩:=hf it (by simp)
  refine wpAny_pyNext_tuple_item st (show s.heap.IsTuple a its.toArray from p) (x:=u) (by simpa using hu) λh' st' sb=>?_
  have I1:Inv X pins σ H { s with heap:=h' }:=I.turned (t':=s.toks) (λb o hb e=>(sb.2 b hb).trans e) f0 f1 f3 f4 f5
  obtain⟨o,e,c,d⟩:=id st'
  exact⟨u,rfl,aE3 (s:={ s with heap:=h' }) e c d (by decide) ⟨x,H,I1,ru,⟨rfl,λys hy=>by rw [I.tuple_inj hy hq];exact hx⟩,st',λb hb=>(hf b hb).1⟩⟩
 done:=by
  intro X hP hw hK hc i pins s σ H E I hf st hg
  subst hP hw hK
  obtain⟨xs,hq,hx⟩:=hg
  obtain⟨its,rv,p,hz⟩:=I.tuple hq
  obtain⟨f0,f1,f2,f3,f4,f5⟩:=hf it (by simp)
  have hl:=rv.length
  exact wpAny_pyNext_tuple_end (I.ok.hd hc) st (show s.heap.IsTuple a its.toArray from p) (by simp;omega) λh' eb=>⟨rfl,I.turned (t':=s.toks) (λb o hb e=>eb b o hb e) f0 f1 f3 f4 f5⟩
 self:=λ_ _ _ _ _ st h=>wpAny_pyIter_tupleiter st h
theorem az8 {P:Program} {w:World} {K:PySem.W.Frag} {tg:Expr} (it:Addr) (lo:Int) (n:Nat):ap0 P w K tg (Itr lo n) [it] it (λi h=>IsRangeIter h it (lo+(i:Nat)*1) ((n:Int) - (i:Nat)) 1) where
 mem:=by simp
 obj:=λi h st b hb=>by
  have e:b=it:=by simpa using hb
  subst e
  exact⟨_,st,λv z=>by
   have z':Data.fields _=Data.cell v:=z
   cases z'⟩
 keep:=λi h h' st k=>k it (by simp) _ st
 item:=by
  intro X hP hw hK hc i pins s σ H E I hf st hg
  subst hP hw hK
  obtain⟨f0,f1,f2,f3,f4,f5⟩:=hf it (by simp)
  have W:=Walks.range (prog:=X.prog) (w:=X.w) (I.ok.hd hc) it lo 1 n
  refine W.item i s _ _ hg st λv h' tk hv st' kk=>?_
  obtain⟨t,rfl⟩:=hv
  have I1:Inv X pins σ H { s with heap:=h',toks:=tk }:=I.turned (λb o hb e=>kk b o (by simpa using hb) e) f0 f1 f3 f4 f5
  refine⟨_,rfl,aE3 (s:={ s with heap:=h',toks:=tk }) (n:="range_iterator") st' rfl rfl (by decide) ⟨.int (lo+i),H,I1,⟨t,?_⟩,⟨rfl,rfl⟩,st',λb hb=>(hf b hb).1⟩⟩
  rw [Int.mul_one]
 done:=by
  intro X hP hw hK hc i pins s σ H E I hf st hg
  subst hP hw hK
  obtain⟨f0,f1,f2,f3,f4,f5⟩:=hf it (by simp)
  exact wpAny_pyNext_range_end (I.ok.hd hc) st (by have:n<=i:=hg;omega) λh' eb=>⟨rfl,I.turned (t':=s.toks) (λb o hb e=>eb b o hb e) f0 f1 f3 f4 f5⟩
 self:=λ_ _ _ _ _ st h=>wpAny_pyIter_rangeiter st h
end L2
namespace L2
open PySem PySem.Spec PyProof.Rows
section
variable {X:Cx} {tg:Expr}
noncomputable def bh9 (K:PySem.W.Frag) (tl:TE):TI:=λσ H R=>tl σ H λx H1=>∃a,x=.ref a/\(∃xs,SqL K H1 a xs)/\R (Itl K a) H1
noncomputable def bm5 (K:PySem.W.Frag) (tl:TE):TI:=λσ H R=>tl σ H λx H1=>∃a,x=.ref a/\(∃xs,SqT K H1 a xs)/\R (Itt K a) H1
theorem aX3 {l:Expr} {tl:TE} (hl:PE X l tl):PI X tg l (bh9 X.K tl):=by
 intro pins s σ H R I h
 refine thn (hl pins s σ H _ I h) λv s1 ⟨x,H1,I1,r1,q1⟩=>?_
 obtain⟨a,e,⟨xs,hq⟩,q⟩:=q1
 subst e
 cases r1
 obtain⟨its,rv,p,hz⟩:=I1.list hq
 refine wpAny_pyIter_list p.isList ?_
 refine⟨s1.heap.objs.size,[s1.heap.objs.size],_,_,H1,rfl,I1.kept (t':=s1.toks) λb o e=>Heap.get?_push_of_some _ e,ak6 a _,⟨_,Heap.get?_push_size _ rfl,rfl,rfl⟩,λb hb=>?_,q⟩
 have e:b=s1.heap.objs.size:=by simpa using hb
 subst e
 exact I1.fpOk (Nat.le_refl _) (I1.hok.fresh (Nat.le_refl _))
theorem a95 {l:Expr} {tl:TE} (hl:PE X l tl):PI X tg l (bm5 X.K tl):=by
 intro pins s σ H R I h
 refine thn (hl pins s σ H _ I h) λv s1 ⟨x,H1,I1,r1,q1⟩=>?_
 obtain⟨a,e,⟨xs,hq⟩,q⟩:=q1
 subst e
 cases r1
 obtain⟨its,rv,p,hz⟩:=I1.tuple hq
 refine wpAny_pyIter_tuple (show s1.heap.IsTuple a its.toArray from p) ?_
 refine⟨s1.heap.objs.size,[s1.heap.objs.size],_,_,H1,rfl,I1.kept (t':=s1.toks) λb o e=>Heap.get?_push_of_some _ e,ad4 a _,⟨_,Heap.get?_push_size _ rfl,rfl,rfl⟩,λb hb=>?_,q⟩
 have e:b=s1.heap.objs.size:=by simpa using hb
 subst e
 exact I1.fpOk (Nat.le_refl _) (I1.hok.fresh (Nat.le_refl _))
theorem aO2 {pins:List (Addr×Obj)} {σ:St} {H:Hp} {s:Shared} {R:It->Hp->Prop} {E:Value->Shared->Prop} {lo hi:Int} {t u v:Tok} {tk:Nat} (I:Inv X pins σ H s) (h1 : -(2 ^ 62)<=lo) (h2:lo<2 ^ 62) (h3 : -(2 ^ 62)<=hi) (h4:hi<2 ^ 62)
 (q:R (Itr lo (hi - lo).toNat) H):wpAny (model X.prog X.w) X.A (pyIter (.ref s.heap.objs.size)) (PIE X pins σ tg R) E { s with heap:=s.heap.push { cls:=.type "range",data:=.fields #[.int lo t,.int hi u,.int 1 v] },toks:=tk }:=by
 refine wpAny_pyIter_range (IsRange.new ..) (small_one h1 h2 h3 h4) ?_
 have I1:Inv X pins σ H { s with heap:=s.heap.push { cls:=.type "range",data:=.fields #[.int lo t,.int hi u,.int 1 v] },toks:=tk }:=I.kept λb o e=>Heap.get?_push_of_some _ e
 refine⟨(s.heap.push { cls:=.type "range",data:=.fields #[.int lo t,.int hi u,.int 1 v] }).objs.size,[(s.heap.push { cls:=.type "range",data:=.fields #[.int lo t,.int hi u,.int 1 v] }).objs.size],_,_,H,rfl,
  I1.kept (t':=tk) λb o e=>Heap.get?_push_of_some _ e,az8 _ lo (hi - lo).toNat,?_,λb hb=>?_,q⟩
 ·have e1:lo+((0:Nat):Int)*1=lo:=by simp
  have e2:(((hi - lo).toNat:Nat):Int) - ((0:Nat):Int)=Builtin.Range.rangeSize lo hi 1:=by rw [rangeSize_one];split <;> omega
  show IsRangeIter _ _ (lo+((0:Nat):Int)*1) ((((hi - lo).toNat:Nat):Int) - ((0:Nat):Int)) 1
  rw [e1,e2]
  exact Heap.get?_push_size _ rfl
 ·have e:b=(s.heap.push { cls:=.type "range",data:=.fields #[.int lo t,.int hi u,.int 1 v] }).objs.size:=by simpa using hb
  subst e
  exact I1.fpOk (Nat.le_refl _) (I1.hok.fresh (Nat.le_refl _))
noncomputable def iRng1 (ta:TA):TI:=λσ H R=>ta σ H λvs H1=>∃j:Int,vs=[.int j]/\-(2 ^ 62)<=j/\j<2 ^ 62/\R (Itr 0 j.toNat) H1
theorem aJ2 {a:Expr} {ta:TA} {p pos:Pos} (hg:Gl X "range") (hm:X.mg "range" = none) (ha:PA X [a] ta) (hs:starEach [a] X.env=[(false,eval a X.env)]:=by rfl):PI X tg (.Call (.Name "range" p) [a] [] pos) (iRng1 ta):=by
 intro pins s σ H R I h
 refine Call_ (m5 I hg hm boot_range (PyProof.Rows.callWith_type1 (thn (ha pos pins s σ H _ I h) λus s1 ⟨vs,H1,I1,r1,q1⟩=>?_) hs rfl))
 obtain⟨j,e,q1,q2,q⟩:=q1
 subst e
 cases r1 with
 | cons r rr=>
   cases rr
   obtain⟨t,rfl⟩:=r
   exact call_range_1 (aO2 I1 (by omega) (by omega) q1 q2 (by simpa using q))
noncomputable def bm6 (wi:TI) (g:TG) (tb:TS):TS:=λD σ H=>wi σ H λJ H1=>∃W:Nat->Nat->St->Hp->Prop,(∃m,W 0 m σ H1)/\∀i m σ H,W i m σ H->
 (J.stop i H/\D.nx σ H)\/(J.go i H/\∃N:St->Hp->Prop,(∀σ' H',N σ' H'->∃m',m'<m/\W (i+1) m' σ' H')/\∀x H',J.yld i H x H'->g x σ H' λσ2 H2=>tb { D with nx:=N,ct:=N,bk:=D.nx } σ2 H2)
noncomputable def ad5 (fp:List Addr) (h:Heap):List (Addr×Obj):=fp.filterMap λb=>(h.get? b).map λo=>(b,o)
theorem X2 {fp:List Addr} {h:Heap} {b:Addr} {o:Obj} (hb:b∈fp) (e:h.get? b=some o):(b,o)∈ad5 fp h:=List.mem_filterMap.mpr ⟨b,hb,by rw [e];rfl⟩
theorem aJ3 {fp:List Addr} {h:Heap} {p:Addr×Obj} (hp:p∈ad5 fp h):p.1∈fp/\h.get? p.1=some p.2:=by
 obtain⟨b,hb,e⟩:=List.mem_filterMap.mp hp
 cases q:h.get? b with
 | none=>rw [q] at e;cases e
 | some o=>
   rw [q] at e
   have e':(b,o)=p:=Option.some.inj e
   subst e'
   exact⟨hb,q⟩
theorem Inv.pinned {pins:List (Addr×Obj)} {σ:St} {H:Hp} {s:Shared} {fp:List Addr} (I:Inv X pins σ H s) (hf:∀b∈fp,o5 X pins H b) (ho:∀b∈fp,∃o,s.heap.get? b=some o/\∀v,o.data≠.cell v):Inv X (pins++ad5 fp s.heap) σ H s:=
 I.pins_of λp hp=>(List.mem_append.mp hp).elim (λz=>I.pin p (List.mem_append_right _ z)) λz=>by
  obtain⟨hb,e⟩:=aJ3 z
  obtain⟨f0,f1,f2,_⟩:=hf p.1 hb
  obtain⟨o,e',d⟩:=ho p.1 hb
  rw [e] at e';cases e'
  exact⟨e,f0,f1,f2,d⟩
theorem Inv.unpinned {pins pl:List (Addr×Obj)} {σ:St} {H:Hp} {s:Shared} (I:Inv X (pins++pl) σ H s):Inv X pins σ H s:=I.pins_of λp hp=>I.pin p (List.mem_append_right _ (List.mem_append_left _ hp))
theorem a96 {iter:Expr} {body:List Stmt} {wi:TI} {g:TG} {tb:TS} {pos:Pos} (hp:PassesOwn (model X.prog X.w) X.A X.env X.xe) (hc:X.calm=true) (hi:PI X tg iter wi) (hg:PG X tg g) (hb:PSs X body tb)
 (hs:∀x,foldedSetIterable iter X.env x=pure x:=by intro _;rfl):PS X (.For tg iter body [] pos) (bm6 wi g tb):=by
 intro pins s σ H D I h
 refine wpAny_For (thn (hi pins s σ H _ I h) λv s1 h1=>thn h1 λitv s2 h2=>?_) hs
 obtain⟨it,fp,tn,J,H2,e,I2,T,st2,f2,W,⟨m0,w0⟩,turn⟩:=h2
 subst e
 have stat:∀{H':Hp},(∀b∈fp,H' b=none)->∀b∈fp,o5 X pins H' b:=λhn b hb=>⟨hn b hb,(f2 b hb).2⟩
 refine codeAny_forLoop_any (λn s'=>∃i σ' H',Inv X pins σ' H' s'/\tn i s'.heap/\(∀b∈fp,H' b=none)/\W i n σ' H') ?_ m0 ⟨0,σ,H2,I2,st2,λb hb=>(f2 b hb).1,w0⟩
 rintro n s3 ⟨i,σ3,H3,I3,st3,fr3,w3⟩
 rcases turn i n σ3 H3 w3 with ⟨stop,qn⟩ | ⟨go,N,hN,step⟩
 ·refine wpAny_passesOwn hp (thn (T.done X rfl rfl rfl hc i pins s3 σ3 H3 X.xe I3 (stat fr3) st3 stop) λr s4 ⟨hr,I4⟩=>?_)
  subst hr
  exact wpAny_execs_nil ⟨σ3,H3,I4,qn⟩
 ·refine wpAny_passesOwn hp (thn (T.item X rfl rfl rfl hc i pins s3 σ3 H3 X.xe I3 (stat fr3) st3 go) λr s4 ⟨u,hr,h4⟩=>?_)
  subst hr
  refine wpAny_passesOwn hp (thn h4 λ_ s5 ⟨x,H5,I5,r5,y5,st5,fr5⟩=>?_)
  have I5':=I5.pinned (stat fr5) (T.obj _ _ st5)
  refine wpAny_passesOwn hp (thn (hg _ s5 σ3 H5 x u _ I5' r5 (step x H5 y5)) λ_ s6 ⟨σ6,H6,I6,q6⟩=>?_)
  refine wpAny_passesOwn hp (thn (hb _ s6 σ6 H6 _ I6 q6) λf s7 q7=>?_)
  have again:∀{σ7:St} {H7:Hp},Inv X (pins++ad5 fp s5.heap) σ7 H7 s7->N σ7 H7->∃m,m<n/\∃i σ' H',Inv X pins σ' H' s7/\tn i s7.heap/\(∀b∈fp,H' b=none)/\W i m σ' H':=λ{σ7 H7} I7 n7=>by
   obtain⟨m',hm,w7⟩:=hN σ7 H7 n7
   refine⟨m',hm,i+1,σ7,H7,I7.unpinned,T.keep _ _ _ st5 λb hb o e=>(I7.pin (b,o) (List.mem_append_right _ (List.mem_append_right _ (X2 hb e)))).1,λb hb=>?_,w7⟩
   obtain⟨o,e,d⟩:=T.obj _ _ st5 b hb
   exact (I7.pin (b,o) (List.mem_append_right _ (List.mem_append_right _ (X2 hb e)))).2.1
  cases f with
  | next=>obtain⟨σ7,H7,I7,n7⟩:=q7;exact again I7 n7
  | cont=>obtain⟨σ7,H7,I7,n7⟩:=q7;exact again I7 n7
  | brk=>obtain⟨σ7,H7,I7,q7⟩:=q7;exact⟨σ7,H7,I7.unpinned,q7⟩
  | ret v=>obtain⟨x7,σ7,H7,I7,r7,q7⟩:=q7;exact⟨x7,σ7,H7,I7.unpinned,r7,q7⟩
end
end L2
namespace L2
open PySem PySem.Spec PyProof.Rows
noncomputable abbrev R2:=V->V->Hp->VK->Prop
noncomputable def OpR (X:Cx) (f:Value->Value->Sem Value) (r:R2):Prop:=
 ∀(pins:List (Addr×Obj)) (s:Shared) (σ:St) (H:Hp) (x y:V) (v u:Value) (Q:VK),Inv X pins σ H s->RelV x v->RelV y u->r x y H Q->
  wpAny (model X.prog X.w) X.A (f v u) (EP X pins σ Q) X.xe s
noncomputable def CallR (X:Cx) (f:Value) (r:List V->Hp->VK->Prop):Prop:=
 ∀(pins:List (Addr×Obj)) (s:Shared) (σ:St) (H:Hp) (xs:List V) (us:List Value) (Q:VK),Inv X pins σ H s->Vals xs us->r xs H Q->
  wpAny (model X.prog X.w) X.A (call f us) (EP X pins σ Q) X.xe s
noncomputable def tOp (r:R2) (ta tb:TE):TE:=λσ H Q=>ta σ H λx H1=>tb σ H1 λy H2=>r x y H2 Q
noncomputable def rI (C:Int->Int->Prop) (g:Int->Int->V):R2:=λx y H Q=>∃i j,x=.int i/\y=.int j/\C i j/\Q (g i j) H
noncomputable def rI0 (g:Int->Int->V):R2:=λx y H Q=>∃i j,x=.int i/\y=.int j/\Q (g i j) H
section
variable {X:Cx} {a b c:Expr} {ta tb tc:TE} {pos:Pos}
theorem a97 (ha:PE X a ta) (hb:PE X b tb) {pins:List (Addr×Obj)} {s:Shared} {σ:St} {H:Hp} {R:V->V->Hp->Prop} (I:Inv X pins σ H s)
 (h:ta σ H λx H1=>tb σ H1 λy H2=>R x y H2) {Q:Value->Shared->Prop} {f:Value->Value->Sem Value}
 (hf:∀v u s2 x y H2,Inv X pins σ H2 s2->RelV x v->RelV y u->R x y H2->wpAny (model X.prog X.w) X.A (f v u) Q X.xe s2) :
 wpAny (model X.prog X.w) X.A (eval a X.env) (λv s₁=>wpAny (model X.prog X.w) X.A (eval b X.env) (λu s₂=>wpAny (model X.prog X.w) X.A (f v u) Q X.xe s₂) X.xe s₁) X.xe s:=by
 refine thn (ha pins s σ H _ I h) λv s1 ⟨x,H1,I1,r1,q1⟩=>?_
 refine thn (hb pins s1 σ H1 _ I1 q1) λu s2 ⟨y,H2,I2,r2,q2⟩=>?_
 exact hf v u s2 x y H2 I2 r1 r2 q2
theorem bi0 {op:Operator} {r:R2} (ho:OpR X (binaryOp op) r) (ha:PE X a ta) (hb:PE X b tb):PE X (.BinOp a op b pos) (tOp r ta tb):=by
 intro pins s σ H Q I h
 exact wpAny_BinOp (a97 ha hb I h λv u s2 x y H2 I2 rx ry q=>ho pins s2 σ H2 x y v u Q I2 rx ry q)
theorem opI {f:Value->Value->Sem Value} {C:Int->Int->Prop} {g:Int->Int->Int}
 (rule:∀(i j:Int) (t u:Tok) (s:Shared) (Q:Value->Shared->Prop) (E:Value->Shared->Prop),C i j->Q (.int (g i j) s.toks) { s with toks:=s.toks+1 }->wpAny (model X.prog X.w) X.A (f (.int i t) (.int j u)) Q E s) :
 OpR X f (rI C λi j=>.int (g i j)):=by
 intro pins s σ H x y v u Q I rx ry h
 obtain⟨i,j,rfl,rfl,hc,q⟩:=h
 obtain⟨t,rfl⟩:=rx
 obtain⟨t',rfl⟩:=ry
 exact rule i j t t' s _ _ hc ⟨.int (g i j),H,I.tok _,⟨_,rfl⟩,q⟩
theorem bi1 {f:Value->Value->Sem Value} {g:Int->Int->Int}
 (rule:∀(i j:Int) (t u:Tok) (s:Shared) (Q:Value->Shared->Prop) (E:Value->Shared->Prop),Q (.int (g i j) s.toks) { s with toks:=s.toks+1 }->wpAny (model X.prog X.w) X.A (f (.int i t) (.int j u)) Q E s) :
 OpR X f (rI0 λi j=>.int (g i j)):=by
 intro pins s σ H x y v u Q I rx ry h
 obtain⟨i,j,rfl,rfl,q⟩:=h
 obtain⟨t,rfl⟩:=rx
 obtain⟨t',rfl⟩:=ry
 exact rule i j t t' s _ _ ⟨.int (g i j),H,I.tok _,⟨_,rfl⟩,q⟩
theorem aX4 {f:Value->Value->Sem Value} {g:Int->Int->Bool}
 (rule:∀(i j:Int) (t u:Tok) (s:Shared) (Q:Value->Shared->Prop) (E:Value->Shared->Prop),Q (.bool (g i j)) s->wpAny (model X.prog X.w) X.A (f (.int i t) (.int j u)) Q E s) :
 OpR X f (rI0 λi j=>.bl (g i j)):=by
 intro pins s σ H x y v u Q I rx ry h
 obtain⟨i,j,rfl,rfl,q⟩:=h
 obtain⟨t,rfl⟩:=rx
 obtain⟨t',rfl⟩:=ry
 exact rule i j t t' s _ _ ⟨.bl (g i j),H,I,rfl,q⟩
noncomputable def bi2 (i j:Int):Prop:=0<j/\j<1073741824
noncomputable def bi3 (i j:Int):Prop:=0<=j/\j<=1000000/\i.natAbs<2 ^ 64
noncomputable def CMul (i j:Int):Prop:=(-(2 ^ 64)<i/\i<2 ^ 64)\/(-(2 ^ 64)<j/\j<2 ^ 64)
theorem CMul.ok {i j:Int} (h:CMul i j):IntMulOk i j:=by
 rcases h with ⟨h1,h2⟩ | ⟨h1,h2⟩
 ·exact .of_left (intBits_le_64 h1 h2)
 ·exact .of_right (intBits_le_64 h1 h2)
theorem op_add:OpR X (binaryOp .Add) (rI0 λi j=>.int (i+j)):=bi1 λ_ _ _ _ _ _ _ q=>add_int q
theorem a98:OpR X (binaryOp .Sub) (rI0 λi j=>.int (i - j)):=bi1 λ_ _ _ _ _ _ _ q=>sub_int q
theorem ap1:OpR X (binaryOp .Mult) (rI CMul λi j=>.int (i*j)):=opI λ_ _ _ _ _ _ _ hc q=>mul_int q hc.ok
theorem ap2:OpR X (binaryOp .FloorDiv) (rI bi2 λi j=>.int (i / j)):=opI λi j _ _ _ _ _ hc q=>by
 have h1:(0:Int)<j:=hc.1
 have h2:j<1073741824:=hc.2
 exact floordiv_int (by omega) (by rw [Int.fdiv_eq_ediv_of_nonneg i (by omega)];exact q) (.inl (PyProof.noPylong_small (by omega)))
theorem M3:OpR X (binaryOp .Mod) (rI (λ_ j=>0<j) λi j=>.int (i%j)):=opI λi j _ _ _ _ _ hc q=>by
 have h1:(0:Int)<j:=hc
 exact mod_int' (by omega) (by rw [Int.fmod_eq_emod_of_nonneg i (by omega)];exact q)
theorem a99:OpR X (binaryOp .Pow) (rI bi3 λi j=>.int (i ^ j.toNat)):=opI λ_ _ _ _ _ _ _ hc q=>pow_int_small hc.1 hc.2.1 hc.2.2 q
end
section
variable {X:Cx} {a b c:Expr} {ta tb tc:TE} {pos:Pos}
theorem ba0 {pins:List (Addr×Obj)} {σ:St} {H:Hp} {s:Shared} {Q:VK} {k k':Bool} (I:Inv X pins σ H s) (q:Q (.bl k) H) (e:k=k'):EP X pins σ Q (.bool k') s:=by
 subst e
 exact⟨.bl k,H,I,rfl,q⟩
theorem aE4:OpR X (compareOp .Lt) (rI0 λi j=>.bl (decide (i<j))):=aX4 λ_ _ _ _ _ _ _ q=>lt_int q
theorem au0:OpR X (compareOp .LtE) (rI0 λi j=>.bl (decide (i<=j))):=aX4 λ_ _ _ _ _ _ _ q=>le_int q
theorem bi4:OpR X (compareOp .Gt) (rI0 λi j=>.bl (decide (j<i))):=aX4 λ_ _ _ _ _ _ _ q=>gt_int q
theorem bi5:OpR X (compareOp .GtE) (rI0 λi j=>.bl (decide (j<=i))):=aX4 λ_ _ _ _ _ _ _ q=>ge_int q
theorem aJ4:OpR X (compareOp .In) (λx y H Q=>∃i j,x=.str i/\y=.str j/\Q (.bl (!(Builtin.Str.occurrences j i 0 j.length 1).isEmpty)) H):=by
 intro pins s σ H x y v u Q I rx ry h
 obtain⟨i,j,rfl,rfl,q⟩:=h
 obtain⟨t,rfl⟩:=rx
 obtain⟨t',rfl⟩:=ry
 exact in_str (ba0 I q rfl)
theorem OpR.or {f:Value->Value->Sem Value} {r r':R2} (h:OpR X f r) (h':OpR X f r'):OpR X f (λx y H Q=>r x y H Q\/r' x y H Q):=by
 intro pins s σ H x y v u Q I rx ry q
 rcases q with q | q
 ·exact h pins s σ H x y v u Q I rx ry q
 ·exact h' pins s σ H x y v u Q I rx ry q
theorem G6 (b:Expr) {op:CmpOp} (h:op≠.In:=by decide) (h2:op≠.NotIn:=by decide):behindInMarks op b=false:=by
 have e1:(op == CmpOp.In)=false:=by cases op <;> first | rfl | exact absurd rfl h
 have e2:(op == CmpOp.NotIn)=false:=by cases op <;> first | rfl | exact absurd rfl h2
 cases b <;> simp [behindInMarks,e1,e2]
theorem aX5 {op:CmpOp} {r:R2} (ho:OpR X (compareOp op) r) (ha:PE X a ta) (hb:PE X b tb) (hm:behindInMarks op b=false):PE X (.Compare a [op] [b] pos) (tOp r ta tb):=by
 intro pins s σ H Q I h
 exact wpAny_Compare1 (a97 ha hb I h λv u s2 x y H2 I2 rx ry q=>ho pins s2 σ H2 x y v u Q I2 rx ry q) hm
noncomputable def aO3 (t:TE):TT:=λσ H Q=>t σ H λx H'=>∃k,x=.bl k/\Q k H'
theorem aX6 {op:CmpOp} {r:R2} (ho:OpR X (compareOp op) r) (ha:PE X a ta) (hb:PE X b tb) (hm:behindInMarks op b=false):PT X (.Compare a [op] [b] pos) (aO3 (tOp r ta tb)):=by
 intro pins s σ H Q I h
 refine wpAny_isTrue_Compare1 (thn (ha pins s σ H _ I h) λv s1 ⟨x,H1,I1,r1,q1⟩=>thn (hb pins s1 σ H1 _ I1 q1) λu s2 ⟨y,H2,I2,r2,q2⟩=>
  thn (ho pins s2 σ H2 x y v u _ I2 r1 r2 q2) λc s3 ⟨z,H3,I3,r3,k,e,q3⟩=>?_) hm
 subst e
 cases r3
 exact wpAny_truthy_bool ⟨H3,I3,q3⟩
noncomputable def az9 (r r':R2) (ta tb tc:TE):TE:=λσ H Q=>ta σ H λx H1=>tb σ H1 λy H2=>r x y H2 λz H3=>∃k,z=.bl k/\
 (if k=true then tc σ H3 λw' H4=>r' y w' H4 Q else Q (.bl false) H3)
theorem aO4 {op op':CmpOp} {r r':R2} (ho:OpR X (compareOp op) r) (ho':OpR X (compareOp op') r') (ha:PE X a ta) (hb:PE X b tb) (hc:PE X c tc)
 (hm:lastMarks [op,op'] [b,c]=false:=by with_unfolding_all rfl):PE X (.Compare a [op,op'] [b,c] pos) (az9 r r' ta tb tc):=by
 intro pins s σ H Q I h
 refine Compare_chain (thn (ha pins s σ H _ I h) λv s1 ⟨x,H1,I1,r1,q1⟩=>chain_link (thn (hb pins s1 σ H1 _ I1 q1) λu s2 ⟨y,H2,I2,r2,q2⟩=>
  thn (ho pins s2 σ H2 x y v u _ I2 r1 r2 q2) λd s3 ⟨z,H3,I3,r3,k,e,q3⟩=>?_)) hm
 subst e
 cases r3
 refine wpAny_truthy_bool ?_
 cases k with
 | false=>exact ite_ff ⟨.bl false,H3,I3,rfl,q3⟩
 | true=>exact ite_tt (chain_last (thn (hc pins s3 σ H3 _ I3 q3) λw' s4 ⟨z',H4,I4,r4,q4⟩=>ho' pins s4 σ H4 y z' u w' Q I4 r2 r4 q4))
theorem aO5 {op op':CmpOp} {r r':R2} (ho:OpR X (compareOp op) r) (ho':OpR X (compareOp op') r') (ha:PE X a ta) (hb:PE X b tb) (hc:PE X c tc)
 (hm:lastMarks [op,op'] [b,c]=false:=by with_unfolding_all rfl):PT X (.Compare a [op,op'] [b,c] pos) (aO3 (az9 r r' ta tb tc)):=by
 intro pins s σ H Q I h
 refine isTrue_chain (thn (ha pins s σ H _ I h) λv s1 ⟨x,H1,I1,r1,q1⟩=>test_link (thn (hb pins s1 σ H1 _ I1 q1) λu s2 ⟨y,H2,I2,r2,q2⟩=>
  thn (ho pins s2 σ H2 x y v u _ I2 r1 r2 q2) λd s3 ⟨z,H3,I3,r3,k,e,q3⟩=>?_)) hm
 subst e
 cases r3
 refine wpAny_truthy_bool ?_
 cases k with
 | false=>
   obtain⟨k',e',q'⟩:=q3
   cases e'
   exact ite_ff ⟨H3,I3,q'⟩
 | true=>
   refine ite_tt (test_last (thn (hc pins s3 σ H3 _ I3 q3) λw' s4 ⟨z',H4,I4,r4,q4⟩=>thn (ho' pins s4 σ H4 y z' u w' _ I4 r2 r4 q4) λd' s5 ⟨z2,H5,I5,r5,k2,e2,q5⟩=>?_))
   subst e2
   cases r5
   exact wpAny_truthy_bool ⟨H5,I5,q5⟩
theorem ad6:(sizeLine:Nat)<2 ^ 63:=by rw [sizeLine_eq];decide
theorem Q3:OpR X (binaryOp .Add) (λx y H Q=>∃i j,x=.str i/\y=.str j/\i.length+j.length<=sizeLine/\Q (.str (i++j)) H):=by
 intro pins s σ H x y v u Q I rx ry h
 obtain⟨i,j,rfl,rfl,hz,q⟩:=h
 obtain⟨t,rfl⟩:=rx
 obtain⟨t',rfl⟩:=ry
 exact add_str (λt' tk=>⟨.str (i++j),H,I.tok _,⟨_,rfl⟩,q⟩) hz
theorem R8 {x:V} {us:List Value} (r:Vals [x] us):∃u,us=[u]/\RelV x u:=by
 cases r with
 | cons r1 r2=>cases r2;exact⟨_,rfl,r1⟩
theorem au1 {x y:V} {us:List Value} (r:Vals [x,y] us):∃u w',us=[u,w']/\RelV x u/\RelV y w':=by
 cases r with
 | cons r1 r2=>
   cases r2 with
   | cons r3 r4=>cases r4;exact⟨_,_,rfl,r1,r3⟩
theorem ap3:CallR X (.type "str") (λxs H Q=>∃i,xs=[.int i]/\i.natAbs.log2<1920/\Q (.str (toString i)) H):=by
 intro pins s σ H xs us Q I r h
 obtain⟨i,rfl,hz,q⟩:=h
 obtain⟨u,rfl,t,rfl⟩:=R8 r
 exact PySem.P.str_of_int hz ⟨.str _,H,I.tok _,⟨_,rfl⟩,q⟩
end
end L2
namespace L2
open PySem PySem.Spec PyProof.Rows
structure ObjM (h:Heap) (x dx C:Addr) (mA:Str->Option Value):Prop where
 obj:h.get? x=some (PySem.W.instObj C dx)
 ns:h.Ns1 dx mA
 ne:dx≠x
theorem aJ5 {h:Heap} {dx:Addr} {mA:Str->Option Value} (n:h.Ns1 dx mA):∃od,h.get? dx=some od/\∀name,PySem.W.lookIn name od=some (mA name):=by
 obtain⟨o,es,ep,ho,hd,hk,_,hm⟩:=n
 refine⟨o,ho,λname=>?_⟩
 have e:=hm name
 unfold nsFind findBy at e
 rw [←Array.find?_toList] at e
 unfold PySem.W.lookIn
 rw [hd]
 dsimp only
 split
 ·rename_i y q
  rw [q] at e
  exact congrArg some e
 ·rename_i q
  rw [q] at e
  have a:es.toList.any (·.refKey)=false:=by
   rw [List.any_eq_false]
   intro y hy
   obtain⟨z,t,hkey⟩:=hk y (Array.mem_toList_iff.mp hy)
   simp [DictEntry.refKey,hkey]
  have a':¬es.toList.any (·.refKey)=true:=by rw [a];exact Bool.false_ne_true
  rw [if_neg a']
  exact congrArg some e
theorem ObjM.look {h:Heap} {x dx C:Addr} {mA:Str->Option Value} (I:ObjM h x dx C mA):∃od,PySem.W.InstAt h x (PySem.W.instObj C dx) C (some od)/\∀name,PySem.W.lookIn name od=some (mA name):=
 let ⟨od,ho,hl⟩:=aJ5 I.ns
 ⟨od,⟨I.obj,rfl,rfl,ho⟩,hl⟩
section
variable {prog:Program} {w:World} {A:Around} {E:Value->Shared->Prop} {s:Shared} {K:PySem.W.Frag} {x dx C f:Addr} {mA:Str->Option Value} {name:Str} {v:Value}
theorem aX7 {expr:Bool} {Q:Value->Shared->Prop} (X:K.In s.heap) (I:ObjM s.heap x dx C mA) (hg:PySem.W.plainGet K C name=true) (hh:PySem.W.hasDictIn K C=true)
 (ha:PySem.W.findIn K (.ref C) name=some none) (hv:mA name=some v) (hv':PySem.W.handedIn v=true) (h:Q v { s with toks:=s.toks+1 }) :
 wpAny (model prog w) A (getAttr (.ref x) name expr) Q E s:=by
 obtain⟨od,J,hl⟩:=I.look
 exact PySem.W.get_value X J (PySem.W.plainGet_of hg).1 (PySem.W.findObj_own hh ha rfl (by rw [hl,hv])) hv' h
theorem aO6 {pl:Sem Bool} {Q:Value×List Value->Shared->Prop} (X:K.In s.heap) (I:ObjM s.heap x dx C mA) (hg:PySem.W.plainGet K C name=true)
 (hf:PySem.W.findIn K (.ref C) name=some (some (.ref f))) (ht:PySem.W.isFn K (.ref f)=true) (hv:mA name=none) (h:Q (.ref f,[.ref x]) s) :
 wpAny (model prog w) A (getMethod (.ref x) name pl) Q E s:=by
 obtain⟨od,J,hl⟩:=I.look
 exact PySem.W.method_fn X J (PySem.W.plainGet_of hg).1 (PySem.W.plainGet_of hg).2 hf (beq_iff_eq.mp ht) (by show (PySem.W.lookIn name od).map (·.isSome)=some false;rw [hl,hv];rfl) h
theorem aX8 {ns:List Str} {Q:Unit->Shared->Prop} (X:K.In s.heap) (I:ObjM s.heap x dx C mA)
 (hs:PySem.W.findIn K (.ref C) "__setattr__" = some (some (.builtin "object.__setattr__"))) (hp:PySem.W.plainOver K C=true) (ht:PySem.W.takerIn K C name=some none) (hh:PySem.W.hasDictIn K C=true)
 (hw:PySem.Within mA ns) (hsz:ns.length<=sizeLine)
 (h:∀h',ObjM h' x dx C (λy=>if y=name then some v else mA y)->Heap.SameBut dx s.heap h'->Q () { s with heap:=h',toks:=s.toks+2 }) :
 wpAny (model prog w) A (setAttr (.ref x) name v) Q E s:=by
 obtain⟨od,J,hl⟩:=I.look
 refine PySem.W.set_plain X J hs (PySem.W.osa_open (s:={ s with toks:=s.toks+1 }) (r:=none) X J hp ht λb=>?_)
 obtain⟨cd,hc,hd'⟩:=PySem.W.any_some hh
 have hx:s.heap.get? x=some ⟨.ref C,some dx,.plain,#[]⟩:=I.obj
 refine wpAny_bind (wpAny_pure (wpAny_bind (wpAny_bind (wpAny_loadPart hx (wpAny_bind (PySem.W.Looks.here (s:={ s with toks:=s.toks+1 }) (PySem.W.looks_clsIn X hc) ?_))))))
 rw [hd']
 refine wpAny_pure (a:=some dx) (wpAny_bind (wpAny_pure (wpAny_bind ?_)))
 refine wpAny_nsSet1 (s:={ s with toks:=s.toks+1 }) I.ns λh' hn2 hs2=>?_
 obtain⟨oD,esD,epD,hoD,hdD,hcD⟩:=hn2.count (PySem.Within.cons name v hw)
 refine wpAny_bind (wpAny_lookBehind hoD (by rw [hdD];exact pastItsLine_dict (Nat.le_trans hcD (by rw [List.length_cons];omega))) ?_)
 exact wpAny_pure (h _ ⟨(hs2.2 _ (Ne.symm I.ne)).trans I.obj,hn2,I.ne⟩ hs2)
theorem aO7 {R:Result->Shared->Prop} {vs:List Value} {kw:List (Str×Value)} (X:K.In s.heap) (hm:PySem.W.makesIn K C=true)
 (hi:PySem.W.findIn K (.ref C) "__init__" = some (some (.ref f))) (hf:PySem.W.typeIn K (.ref f)=some (.type "function"))
 (h:codeAny (model prog w) (A.under (.builtin "type.__call__" ⟨.ref C::vs,kw⟩)) (.call (.ref f) ⟨.ref (s.heap.objs.size+1)::vs,kw⟩) (PySem.W.InitBack (s.heap.objs.size+1) R)
  { s with heap:=(s.heap.push PySem.W.emptyDict).push (PySem.W.instObj C s.heap.objs.size) }) :
 codeAny (model prog w) A (.call (.ref C) ⟨vs,kw⟩) R s:=by
 obtain⟨hh,g,d,t,os⟩:=s
 exact PySem.W.make_core (PySem.W.makes_of X hm) (PySem.W.looks_findIn X hi) (λself=>PySem.W.bind_fn X self hf) (.inl rfl) h
end
noncomputable def T5 (f:Str) (v:V):List (Str×V)->List (Str×V)
 | []=>[(f,v)]
 | (g,x)::r=>if g=f then (g,v)::r else (g,x)::T5 f v r
theorem aa6 (f g:Str) (v:V):∀fs:List (Str×V),(T5 f v fs).lookup g=if g=f then some v else fs.lookup g
 | []=>by
   show List.lookup g [(f,v)]=_
   by_cases h:g=f
   ·have hb:(g == f)=true:=beq_iff_eq.mpr h
    simp only [List.lookup,hb,if_pos h]
   ·have hb:(g == f)=false:=beq_eq_false_iff_ne.mpr h
    simp only [List.lookup,hb,if_neg h]
 | (k,x)::r=>by
   have ih:=aa6 f g v r
   rw [show T5 f v ((k,x)::r)=(if k=f then (k,v)::r else (k,x)::T5 f v r) from rfl]
   by_cases hk:k=f
   ·rw [if_pos hk]
    by_cases h:g=k
    ·have hb:(g == k)=true:=beq_iff_eq.mpr h
     simp only [List.lookup,hb,if_pos (h.trans hk)]
    ·have hb:(g == k)=false:=beq_eq_false_iff_ne.mpr h
     simp only [List.lookup,hb,if_neg (λe:g=f=>h (e.trans hk.symm))]
   ·rw [if_neg hk]
    by_cases h:g=k
    ·have hb:(g == k)=true:=beq_iff_eq.mpr h
     simp only [List.lookup,hb,if_neg (λe:g=f=>hk (h.symm.trans e))]
    ·have hb:(g == k)=false:=beq_eq_false_iff_ne.mpr h
     simp only [List.lookup,hb]
     exact ih
theorem w6 (f:Str) (v:V):∀fs:List (Str×V),f∈(T5 f v fs).map (·.1)/\∀g,g∈fs.map (·.1)->g∈(T5 f v fs).map (·.1)
 | []=>⟨by simp [T5],λg h=>by simp at h⟩
 | (k,x)::r=>by
   obtain⟨i1,i2⟩:=w6 f v r
   rw [show T5 f v ((k,x)::r)=(if k=f then (k,v)::r else (k,x)::T5 f v r) from rfl]
   by_cases hk:k=f
   ·rw [if_pos hk]
    subst hk
    exact⟨by simp,λg h=>by simpa using h⟩
   ·rw [if_neg hk]
    refine⟨?_,λg h=>?_⟩
    ·rw [List.map_cons]
     exact List.mem_cons_of_mem _ i1
    ·rw [List.map_cons] at h ⊢
     rcases List.mem_cons.mp h with e | e
     ·exact List.mem_cons.mpr (.inl e)
     ·exact List.mem_cons_of_mem _ (i2 g e)
theorem aa7 (f:Str) (v:V):∀fs:List (Str×V),(T5 f v fs).length<=fs.length+1
 | []=>by simp [T5]
 | (k,x)::r=>by
   have ih:=aa7 f v r
   rw [show T5 f v ((k,x)::r)=(if k=f then (k,v)::r else (k,x)::T5 f v r) from rfl]
   by_cases hk:k=f
   ·rw [if_pos hk,List.length_cons,List.length_cons];omega
   ·rw [if_neg hk,List.length_cons,List.length_cons];omega
theorem RelO.some_of {v:V} {o:Option Value} (r:RelO (some v) o):∃u,o=some u/\RelV v u:=by
 cases o with
 | none=>exact (show False from r).elim
 | some u=>exact⟨u,rfl,r⟩
theorem RelO.none_of {o:Option Value} (r:RelO none o):o=none:=by
 cases o with
 | none=>rfl
 | some u=>exact (show False from r).elim
theorem aJ6 {v:V} {u:Value} (r:RelV v u):PySem.W.handedIn u=true:=by
 cases v with
 | non=>cases (show u=Value.none from r);rfl
 | bl b=>cases (show u=Value.bool b from r);rfl
 | int i=>obtain⟨t,e⟩:=(show ∃t,u=Value.int i t from r);cases e;rfl
 | str x=>obtain⟨t,e⟩:=(show ∃t,u=Value.str x t from r);cases e;rfl
 | byt b=>obtain⟨t,e⟩:=(show ∃t,u=Value.bytes b t from r);cases e;rfl
 | flt b=>obtain⟨t,e⟩:=(show ∃t,u=Value.float b t from r);cases e;rfl
 | ref a=>cases (show u=Value.ref a from r);rfl
 | ty n=>cases (show u=Value.type n from r);rfl
section
variable {P:Program} {w:World} {H H':Hp} {h h':Heap} {a C dx:Addr} {fs fs':List (Str×V)}
theorem o6 (hok:HOk P w H h) (e:H a=some (.ins C dx fs)):∃mA,ObjM h a dx C mA/\(∀f,RelO (fs.lookup f) (mA f))/\PySem.Within mA (fs.map (·.1))/\fs.length<=1000/\H dx=some (.own a):=by
 obtain⟨d,z,ne,ob,mA,n,r,q⟩:=(show ObjOk P w H h a (.ins C dx fs) from hok a _ e)
 exact⟨mA,⟨ob,n,ne⟩,r,q,z,d⟩
end
structure Cls (K:PySem.W.Frag) (C:Addr):Prop where
 pg:PySem.W.plainGet K C Str.empty=true
 hd:PySem.W.hasDictIn K C=true
 po:PySem.W.plainOver K C=true
 sa:PySem.W.findIn K (.ref C) "__setattr__" = some (some (.builtin "object.__setattr__"))
theorem Cls.get {K:PySem.W.Frag} {C:Addr} (c:Cls K C) (f:Str):PySem.W.plainGet K C f=true:=c.pg
noncomputable def NoAttr (K:PySem.W.Frag) (C:Addr) (f:Str):Prop:=PySem.W.findIn K (.ref C) f=some none
theorem NoAttr.taker {K:PySem.W.Frag} {C:Addr} {f:Str} (n:NoAttr K C f):PySem.W.takerIn K C f=some none:=by
 unfold PySem.W.takerIn
 rw [show PySem.W.findIn K (.ref C) f=some none from n]
 rfl
structure aX9 (K:PySem.W.Frag) (C:Addr) (m:Str) (f:Addr):Prop where
 at_:PySem.W.findIn K (.ref C) m=some (some (.ref f))
 fn:PySem.W.isFn K (.ref f)=true
 kp:PySem.W.keepIn K (.ref f)=true
section
variable {X:Cx} {pins:List (Addr×Obj)} {σ:St} {H:Hp} {s:Shared} {a C dx:Addr} {fs:List (Str×V)} {f:Str} {v:V} {A:Around} {E:Value->Shared->Prop}
theorem aA0 {b:Bool} {Q:Value->Shared->Prop} (I:Inv X pins σ H s) (e:H a=some (.ins C dx fs)) (c:Cls X.K C) (n:NoAttr X.K C f) (l:fs.lookup f=some v)
 (h:∀u s',Inv X pins σ H s'->RelV v u->Q u s'):wpAny (model X.prog X.w) A (getAttr (.ref a) f b) Q E s:=by
 obtain⟨mA,O,r,_,_,_⟩:=o6 I.hok e
 obtain⟨u,hu,ru⟩:=RelO.some_of (v:=v) (o:=mA f) (by rw [←l];exact r f)
 exact aX7 I.kIn O (c.get f) c.hd n hu (aJ6 ru) (h u _ (I.tok _) ru)
theorem aA1 {m:Str} {g:Addr} {pl:Sem Bool} {Q:Value×List Value->Shared->Prop} (I:Inv X pins σ H s) (e:H a=some (.ins C dx fs)) (c:Cls X.K C) (k:aX9 X.K C m g) (l:fs.lookup m=none)
 (h:Q (.ref g,[.ref a]) s):wpAny (model X.prog X.w) A (getMethod (.ref a) m pl) Q E s:=by
 obtain⟨mA,O,r,_,_,_⟩:=o6 I.hok e
 have hn:mA m=none:=RelO.none_of (by rw [←l];exact r m)
 exact aO6 I.kIn O (c.get m) k.at_ k.fn hn h
theorem aA2 {y:V} {u:Value} {Q:Unit->Shared->Prop} (I:Inv X pins σ H s) (e:H a=some (.ins C dx fs)) (c:Cls X.K C) (n:NoAttr X.K C f) (hl:fs.length<1000) (ry:RelV y u)
 (h:∀s',Inv X pins σ (upd H a (.ins C dx (T5 f y fs))) s'->Q () s'):wpAny (model X.prog X.w) A (setAttr (.ref a) f u) Q E s:=by
 obtain⟨mA,O,r,wi,_,ho⟩:=o6 I.hok e
 have hz:(fs.map (·.1)).length<=sizeLine:=by rw [List.length_map,sizeLine_eq];omega
 refine aX8 I.kIn O c.sa c.po n.taker c.hd wi hz λh' O' sb=>h _ ?_
 have hd:∃o,h'.get? dx=some o:=let ⟨o,_,_,e',_⟩:=O'.ns;⟨o,e'⟩
 refine I.write (x:=a) (e:=dx) (by rw [e];exact True.intro) (.inr ho) (λb q hb z=>(sb.2 b hb).trans z) hd ?_
 refine⟨by rw [D6 O.ne];exact ho,?_,O.ne,O'.obj,_,O'.ns,λg=>?_,λg hg=>?_⟩
 ·have:=aa7 f y fs;omega
 ·show RelO ((T5 f y fs).lookup g) (if g=f then some u else mA g)
  rw [aa6]
  by_cases q:g=f
  ·rw [if_pos q,if_pos q];exact ry
  ·rw [if_neg q,if_neg q];exact r g
 ·by_cases q:g=f
  ·rw [q];exact (w6 f y fs).1
  ·refine (w6 f y fs).2 g (wi g λz=>hg ?_)
   show (if g=f then some u else mA g)=none
   rw [if_neg q];exact z
theorem Inv.made (I:Inv X pins σ H s):Inv X pins σ (upd (upd H s.heap.objs.size (.own (s.heap.objs.size+1))) (s.heap.objs.size+1) (.ins C s.heap.objs.size []))
 { s with heap:=(s.heap.push PySem.W.emptyDict).push (PySem.W.instObj C s.heap.objs.size) }:=by
 have e1:(s.heap.push PySem.W.emptyDict).get? s.heap.objs.size=some PySem.W.emptyDict:=Heap.get?_push_size s.heap rfl
 have e2:((s.heap.push PySem.W.emptyDict).push (PySem.W.instObj C s.heap.objs.size)).get? (s.heap.objs.size+1)=some (PySem.W.instObj C s.heap.objs.size):=by
  have:=Heap.get?_push_size (s.heap.push PySem.W.emptyDict) (o:=PySem.W.instObj C s.heap.objs.size) rfl
  rwa [Heap.size_push] at this
 have e3:(s.heap.push PySem.W.emptyDict).Ns s.heap.objs.size (λ_=>none):=⟨PySem.W.emptyDict,#[],_,e1,rfl,(λe he=>absurd he (by simp)),λ_=>rfl⟩
 have I1:=I.laid (a:=s.heap.objs.size) (o:=.own (s.heap.objs.size+1)) (h':=s.heap.push PySem.W.emptyDict) (t':=s.toks) (λb u q=>Heap.get?_push_of_some _ q) (Nat.le_refl _) ⟨_,e1⟩
 refine I1.laid (a:=s.heap.objs.size+1) (o:=.ins C s.heap.objs.size []) (t':=s.toks) (λb u q=>Heap.get?_push_of_some _ q) (Nat.le_of_eq (Heap.size_push _ _)) ?_
 have ne:s.heap.objs.size≠s.heap.objs.size+1:=Nat.ne_of_lt (Nat.lt_succ_self _)
 refine⟨by rw [D6 ne,D4],Nat.zero_le _,ne,e2,λ_=>none,(Heap.Ns1.of_empty e3).at λo q=>Heap.get?_push_of_some _ q,λ_=>True.intro,λy hy=>absurd rfl hy⟩
theorem aY0 {prog:Program} {w:World} {env:Env} {e:Expr} {f:Str} {pos:Pos} {s:Shared} {Q:Value->Shared->Prop} (hb:attributeBase e f env (eval e env)=eval e env)
 (h:wpAny (model prog w) A (eval e env) (λo s₁=>wpAny (model prog w) A (getAttr o f true) Q E s₁) E s):wpAny (model prog w) A (eval (.Attribute e f pos) env) Q E s:=
 Attribute_any_ h (by rw [arm_eval_Attribute,hb])
end
noncomputable def bm7 (K:PySem.W.Frag) (ta:TE) (f:Str):TE:=λσ H Q=>ta σ H λx H1=>∃a C dx fs v,x=.ref a/\H1 a=some (.ins C dx fs)/\Cls K C/\NoAttr K C f/\fs.lookup f=some v/\Q v H1
noncomputable def sFld (K:PySem.W.Frag) (ta tv:TE) (f:Str):TS:=λD σ H=>tv σ H λy H1=>ta σ H1 λx H2=>∃a C dx fs,x=.ref a/\H2 a=some (.ins C dx fs)/\Cls K C/\NoAttr K C f/\fs.length<1000/\
 D.nx σ (upd H2 a (.ins C dx (T5 f y fs)))
section
variable {X:Cx} {o e value:Expr} {f:Str} {pos pos' tpos:Pos} {ta tv:TE}
theorem ba1 (he:PE X e ta) (hb:attributeBase e f X.env (eval e X.env)=eval e X.env):PE X (.Attribute e f pos) (bm7 X.K ta f):=by
 intro pins s σ H Q I h
 refine aY0 hb (thn (he pins s σ H _ I h) λu s1 ⟨x,H1,I1,rx,a,C,dx,fs,v,ex,ea,c,n,l,q⟩=>?_)
 subst ex
 obtain rfl:u=Value.ref a:=rx
 exact aA0 I1 ea c n l λu' s2 I2 ru=>⟨v,H1,I2,ru,q⟩
theorem ba2 (ha:PE X o ta) (hv:PE X value tv) (hs:swapsWith value (some (.Attribute o f pos')) pos.line X.env=pure false):PS X (.Assign [.Attribute o f pos'] value pos) (sFld X.K ta tv f):=by
 intro pins s σ H D I h
 refine plainObj_wpAny_Assign_Attribute (thn (hv pins s σ H _ I h) λu s1 ⟨y,H1,I1,ry,q⟩=>thn (ha pins s1 σ H1 _ I1 q) λov s2 ⟨x,H2,I2,rx,a,C,dx,fs,ex,ea,c,n,l,q2⟩=>?_) hs
 subst ex
 obtain rfl:ov=Value.ref a:=rx
 exact aA2 I2 ea c n l ry λs3 I3=>⟨σ,_,I3,q2⟩
end
section
variable {X:Cx} {pins:List (Addr×Obj)} {σ:St} {H:Hp} {s:Shared} {A:Around} {E:Value->Shared->Prop} {Q:Value->Shared->Prop} {c:Value} {b:Bool}
inductive o7 (K:PySem.W.Frag) (H:Hp):V->Value->Prop where
 | non:o7 K H .non (.type "NoneType")
 | bl (x:Bool):o7 K H (.bl x) (.type "bool")
 | int (i:Int):o7 K H (.int i) (.type "int")
 | str (x:Str):o7 K H (.str x) (.type "str")
 | flt (x:UInt64):o7 K H (.flt x) (.type "float")
 | lst {a:Addr} {xs:List V} (e:H a=some (.lst xs)):o7 K H (.ref a) (.type "list")
 | frz {a:Addr} {o:Obj} {xs:List V} (e:H a=some (.frz o (.lst xs))):o7 K H (.ref a) (.type "list")
 | tup {a:Addr} {xs:List V} (e:H a=some (.tup xs)):o7 K H (.ref a) (.type "tuple")
 | dK {a:Addr} {kvs:List (Key×V)} (e:H a=some (.dK kvs)):o7 K H (.ref a) (.type "dict")
 | dT {a:Addr} {kvs:List (List Key×V)} (e:H a=some (.dT kvs)):o7 K H (.ref a) (.type "dict")
 | ins {a C dx:Addr} {fs:List (Str×V)} (e:H a=some (.ins C dx fs)) (cl:Cls K C) (ha:PySem.W.findIn K (.ref C) "__class__" = some (some (.builtin "object.__class__")))
  (hn:PySem.W.specialIn K (.builtin "object.__class__") "__get__" = some (some (.builtin "getset_descriptor.__get__"))) (htk:PySem.W.takesIn K (.builtin "object.__class__")=some true)
  (hm:PySem.W.mroIn K C (.type "object")=some true):o7 K H (.ref a) (.ref C)
theorem ak7 {x:V} {u t:Value} (I:Inv X pins σ H s) (rx:RelV x u) (ty:o7 X.K H x t) (e:PySem.W.kitOne X.K t c=some b) (h:∀tk,Q (.bool b) { s with toks:=tk }) :
 wpAny (model X.prog X.w) A (call (.builtin "isinstance") [u,c]) Q E s:=by
 cases ty with
 | non=>cases (show u=Value.none from rx);exact PySem.W.kia_one PySem.W.kitx_none I.kIn True.intro e (λz=>nomatch z) h
 | bl y=>cases (show u=Value.bool y from rx);exact PySem.W.kia_one PySem.W.kitx_bool I.kIn True.intro e (λz=>nomatch z) h
 | int i=>obtain⟨t,q⟩:=(show ∃t,u=Value.int i t from rx);cases q;exact PySem.W.kia_one PySem.W.kitx_int I.kIn True.intro e (λz=>nomatch z) h
 | str y=>obtain⟨t,q⟩:=(show ∃t,u=Value.str y t from rx);cases q;exact PySem.W.kia_one PySem.W.kitx_str I.kIn True.intro e (λz=>nomatch z) h
 | flt y=>obtain⟨t,q⟩:=(show ∃t,u=Value.float y t from rx);cases q;exact PySem.W.kia_one PySem.W.kitx_float I.kIn True.intro e (λz=>nomatch z) h
 | @lst a xs ea=>
   cases (show u=Value.ref a from rx)
   obtain⟨_,_,n,_,h1⟩:=(show ObjOk X.prog X.w H s.heap a (.lst xs) from I.hok a _ ea)
   exact PySem.W.kia_one PySem.W.kitx_list I.kIn ⟨_,h1,rfl⟩ e (λz=>nomatch z) h
 | @frz a ob xs ea=>
   cases (show u=Value.ref a from rx)
   obtain⟨_,_,_,n,_,h1⟩:=(show ObjOk X.prog X.w H s.heap a (.frz ob (.lst xs)) from I.hok a _ ea)
   exact PySem.W.kia_one PySem.W.kitx_list I.kIn ⟨_,h1,rfl⟩ e (λz=>nomatch z) h
 | @tup a xs ea=>
   cases (show u=Value.ref a from rx)
   obtain⟨_,_,_,p⟩:=(show ObjOk X.prog X.w H s.heap a (.tup xs) from I.hok a _ ea)
   obtain⟨o,h1,h2,_⟩:=p
   exact PySem.W.kia_one PySem.W.kitx_tuple I.kIn ⟨o,h1,h2⟩ e (λz=>nomatch z) h
 | @dK a kvs ea=>
   cases (show u=Value.ref a from rx)
   obtain⟨_,_,vs,_,p⟩:=(show ObjOk X.prog X.w H s.heap a (.dK kvs) from I.hok a _ ea)
   obtain⟨o,es,ep,h1,h2,_⟩:=p
   exact PySem.W.kia_one PySem.W.kitx_dict I.kIn ⟨o,h1,h2.1⟩ e (λz=>nomatch z) h
 | @dT a kvs ea=>
   cases (show u=Value.ref a from rx)
   obtain⟨_,_,xs,_,o,es,ep,h1,h2,_⟩:=(show ObjOk X.prog X.w H s.heap a (.dT kvs) from I.hok a _ ea)
   exact PySem.W.kia_one PySem.W.kitx_dict I.kIn ⟨o,h1,h2.1⟩ e (λz=>nomatch z) h
 | @ins a C dx fs ea cl ha hn htk hm=>
   cases (show u=Value.ref a from rx)
   obtain⟨mA,O,_⟩:=o6 I.hok ea
   obtain⟨od,J,_⟩:=O.look
   exact PySem.W.kia_one (PySem.W.kitx_own (cl.get _) cl.hd ha hn htk hm) I.kIn J e (λz=>nomatch z) h
end
end L2
namespace L2
open PySem PySem.Spec PyProof.Rows
structure Room (k:Nat) (A:Around):Prop where
 hd:A.handled=none
 dp:A.depth+3*k+5<recursionLimit
 un:A.units+16*k+200<cLine
theorem Room.mono {j k:Nat} {A:Around} (r:Room k A) (h:j<=k):Room j A:=⟨r.hd,by have:=r.dp;omega,by have:=r.un;omega⟩
theorem Room.deeper {k:Nat} {A:Around} (r:Room (k+1) A) (env:Env):Room k (A.deeper env):=
 ⟨r.hd,by have:=r.dp;show A.depth+1+3*k+5<_;omega,by have:=r.un;show A.units+3+16*k+200<_;omega⟩
theorem aA3 {A:Around} {C:Addr} {us:List Value} {kw:List (Str×Value)}:(A.under (.builtin "type.__call__" ⟨.ref C::us,kw⟩)).depth=A.depth+1:=by
 first | rfl | simp [Around.under,Code.weight,Code.isCreation,Code.isGuard,Code.isCaller,Code.frames,Code.isFrame,guardIds]
theorem aA4 {A:Around} {C:Addr} {us:List Value} {kw:List (Str×Value)}:(A.under (.builtin "type.__call__" ⟨.ref C::us,kw⟩)).units=A.units+1:=by
 first | rfl | simp [Around.under,Code.cUnits,Code.frames,Code.isFrame]
theorem Room.make {k:Nat} {A:Around} (r:Room (k+1) A) (C:Addr) (us:List Value) (kw:List (Str×Value)):Room k (A.under (.builtin "type.__call__" ⟨.ref C::us,kw⟩)):=
 ⟨r.hd,by have:=r.dp;rw [aA3];omega,by have:=r.un;rw [aA4];omega⟩
theorem Room.depth {k:Nat} {A:Around} (r:Room k A):A.depth<recursionLimit:=by have:=r.dp;omega
theorem Room.units {k:Nat} {A:Around} (r:Room k A):A.units+64<cLine:=by have:=r.un;omega
noncomputable def tNil:TA:=λ_ H Q=>Q [] H
noncomputable def a55 (ta:TE) (tr:TA):TA:=λσ H Q=>ta σ H λx H1=>tr σ H1 λxs H2=>Q (x::xs) H2
section
variable {X:Cx} {e:Expr} {es:List Expr} {te:TE} {t:TA} {pos:Pos}
theorem ap4:PA X [] tNil:=λ_ _ _ _ H Q I h=>Calls.spliced_nil ⟨[],H,I,.nil,h⟩
theorem X3 (ha:PE X e te) (hr:PA X es t) (hs:starEach (e::es) X.env=(false,eval e X.env)::starEach es X.env:=by rfl):PA X (e::es) (a55 te t):=by
 intro pos pins s σ H Q I h
 rw [hs]
 show wpAny _ _ (spliced ((false,eval e X.env)::backTo pos (starEach es X.env))) _ _ s
 refine Calls.spliced_cons (thn (ha pins s σ H _ I h) λu s1 ⟨x,H1,I1,r1,q1⟩=>?_)
 exact thn (hr pos pins s1 σ H1 _ I1 q1) λus s2 ⟨xs,H2,I2,r2,q2⟩=>⟨x::xs,H2,I2,.cons r1 r2,q2⟩
noncomputable def bm8 (t:TA):TE:=λσ H Q=>t σ H λxs H1=>xs.length<=sizeLine/\∀p,H1 p=none->Q (.ref p) (upd H1 p (.tup xs))
noncomputable def bm9 (t:TA):TE:=λσ H Q=>t σ H λxs H1=>xs.length<=sizeLine/\∀p,H1 p=none->Q (.ref p) (upd H1 p (.lst xs))
theorem ba3 {x1} (h:PA X es t):PE X (.Tuple es x1 pos) (bm8 t):=by
 intro pins s σ H Q I hq
 refine wpAny_Tuple_spliced (thn (h pos pins s σ H _ I hq) λus s1 ⟨xs,H1,I1,r,z,q⟩=>⟨by rw [←r.length];exact z,?_⟩)
 have hf:H1 s1.heap.objs.size=none:=I1.hok.fresh (Nat.le_refl _)
 refine⟨.ref s1.heap.objs.size,upd H1 s1.heap.objs.size (.tup xs),I1.laid (t':=s1.toks) (λb u e=>Heap.get?_push_of_some _ e) (Nat.le_refl _) ?_,rfl,q _ hf⟩
 exact⟨z,us,r,⟨_,Heap.get?_push_size _ rfl,rfl,_,rfl⟩⟩
theorem ba4 (h:PA X es t):PE X (.List es pos) (bm9 t):=by
 intro pins s σ H Q I hq
 refine wpAny_List_spliced (thn (h pos pins s σ H _ I hq) λus s1 ⟨xs,H1,I1,r,z,q⟩=>⟨by rw [←r.length];exact z,?_⟩)
 have hf:H1 s1.heap.objs.size=none:=I1.hok.fresh (Nat.le_refl _)
 refine⟨.ref s1.heap.objs.size,upd H1 s1.heap.objs.size (.lst xs),I1.laid (t':=s1.toks) (λb u e=>Heap.get?_push_of_some _ e) (Nat.le_refl _) ?_,rfl,q _ hf⟩
 exact⟨z,us,0,r,Heap.get?_push_size _ rfl⟩
end
noncomputable abbrev Sp:=List V->Hp->VK->XK->Prop
noncomputable abbrev CXT:=List Env->Hp->Shared->XK->Value->Shared->Prop
structure Env0 (P:Program) (w:World) (K:PySem.W.Frag) (mg:Str->Option Value) (base:Heap) (A:Around) (outer:List Env) (s:Shared) (H:Hp):Prop where
 frames:A.frames=some outer
 mod:Mod K mg base
 bs:∀b o,base.get? b=some o->s.heap.get? b=some o/\H b=none
 bsz:base.objs.size<=s.heap.objs.size
 funs:s.heap.FunFrames base outer
 frf:∀b∈frs outer,H b=none
 hok:HOk P w H s.heap
 bare:AllBare s.gens
noncomputable def CE (outer:List Env) (P:Program) (w:World) (H:Hp) (s:Shared) (Q:VK) (u:Value) (s':Shared):Prop:=
 ∃v H',s'.os=s.os/\AllBare s'.gens/\Un (frs outer) [] H H' s.heap s'.heap/\HOk P w H' s'.heap/\RelV v u/\Q v H'
noncomputable def CR (CX:CXT) (outer:List Env) (P:Program) (w:World) (H:Hp) (s:Shared) (Q:VK) (E:XK) (r:Result) (s':Shared):Prop:=
 match r with
 | .ok (.ret u)=>CE outer P w H s Q u s'
 | .ok _=>False
 | .error e=>CX outer H s E e s'
structure FnOk (P:Program) (w:World) (K:PySem.W.Frag) (mg:Str->Option Value) (base:Heap) (CX:CXT) (k:Nat) (f:Addr) (fd:FuncData) (ps:List Str) (sp:Sp):Prop where
 len:∀vs H Q E,sp vs H Q E->vs.length=ps.length
 run:∀(A:Around) (outer:List Env) (s:Shared) (H:Hp) (args:Args) (us:List Value) (vs:List V) (Q:VK) (E:XK),Room k A->Env0 P w K mg base A outer s H->BindsTo s fd args (ps.zip us)->Vals vs us->sp vs H Q E->
  codeAny (model P w) A (.call (.ref f) args) (CR CX outer P w H s Q E) s
theorem FnOk.imp {P:Program} {w:World} {K:PySem.W.Frag} {mg:Str->Option Value} {base:Heap} {CX:CXT} {k:Nat} {f:Addr} {fd:FuncData} {ps:List Str} {sp sp':Sp} (F:FnOk P w K mg base CX k f fd ps sp)
 (h:∀vs H Q E,sp' vs H Q E->sp vs H Q E):FnOk P w K mg base CX k f fd ps sp':=
 ⟨λvs H Q E q=>F.len vs H Q E (h _ _ _ _ q),λA outer s H args us vs Q E hr he hb hv hs=>F.run A outer s H args us vs Q E hr he hb hv (h _ _ _ _ hs)⟩
theorem Env0.make {P:Program} {w:World} {K:PySem.W.Frag} {mg:Str->Option Value} {base:Heap} {A:Around} {outer:List Env} {s:Shared} {H:Hp} (e:Env0 P w K mg base A outer s H) (C:Addr) (us:List Value) (kw:List (Str×Value)) :
 Env0 P w K mg base (A.under (.builtin "type.__call__" ⟨.ref C::us,kw⟩)) outer s H:=⟨by first | exact e.frames | (simpa [Around.under,Code.envs,Code.isFrame,pushEnvs] using e.frames),e.mod,e.bs,e.bsz,e.funs,e.frf,e.hok,e.bare⟩
section
variable {X:Cx} {pins:List (Addr×Obj)} {σ:St} {H:Hp} {s s':Shared}
theorem Inv.env0 (I:Inv X pins σ H s):Env0 X.prog X.w X.K X.mg X.base X.A X.stack s H:=
 ⟨I.ok.frames,I.ok.mod,I.bs,Nat.le_trans I.ok.bsz I.sz,I.stack,I.stkFree,I.hok,I.bare⟩
theorem Inv.after {Q:VK} {u:Value} (I:Inv X pins σ H s) (h:CE X.stack X.prog X.w H s Q u s'):EP X pins σ Q u s':=by
 obtain⟨v,H',os,bare,un,hok,r,q⟩:=h
 obtain⟨hh,g,d,t,os'⟩:=s'
 obtain rfl:os'=s.os:=os
 exact⟨v,H',I.call (h':=hh) (g':=g) (d':=d) (t':=t) (ch:=[]) un hok bare (λb z=>absurd z (by simp)),r,q⟩
end
noncomputable def a56 (sp:Sp) (dvs:List V) (E:XK) (t:TA):TE:=λσ H Q=>t σ H λvs H1=>sp (vs++dvs) H1 Q E
noncomputable def a57 (C:Addr) (m:Str) (sp:Sp) (dvs:List V) (E:XK) (ta:TE) (t:TA):TE:=λσ H Q=>ta σ H λx H1=>∃a dx fs,x=.ref a/\H1 a=some (.ins C dx fs)/\fs.lookup m=none/\
 t σ H1 λvs H2=>sp (x::(vs++dvs)) H2 Q E
noncomputable def a58 (C:Addr) (sp:Sp) (dvs:List V) (E:XK) (t:TA):TE:=λσ H Q=>t σ H λvs H1=>∀x dx,H1 x=none->H1 dx=none->dx≠x->
 sp (.ref x::(vs++dvs)) (upd (upd H1 dx (.own x)) x (.ins C dx [])) (λv H2=>v=.non/\Q (.ref x) H2) E
noncomputable def Binds (K:PySem.W.Frag) (fd:FuncData) (ps:List Str) (ds:List Value):Prop:=
 ∀(s:Shared) (us:List Value),K.In s.heap->(us++ds).length=ps.length->BindsTo s fd ⟨us,[]⟩ (ps.zip (us++ds))
theorem Binds.all {K:PySem.W.Frag} {fd:FuncData} {ps:List Str} (h:∀us:List Value,us.length=ps.length->bindArgs fd ⟨us,[]⟩=pure (ps.zip us)):Binds K fd ps []:=λs us _ hl=>by
 rw [List.append_nil] at hl ⊢
 exact .of_eq (h us hl)
noncomputable def w8 (CX:CXT) (X:Cx) (E:XK):Prop:=∀(pins:List (Addr×Obj)) (σ:St) (H:Hp) (s:Shared) (e:Value) (s':Shared),Inv X pins σ H s->CX X.stack H s E e s'->X.xe e s'
section
variable {X:Cx} {CX:CXT} {k:Nat} {f C:Addr} {fd:FuncData} {ps:List Str} {sp:Sp} {dvs:List V} {ds:List Value} {E:XK} {x m:Str} {p pos apos:Pos} {e o:Expr} {es:List Expr} {ta:TE} {t:TA}
theorem aO8 {pins:List (Addr×Obj)} {σ:St} {H:Hp} {s:Shared} {Q:VK} {us:List Value} {vs:List V} (F:FnOk X.prog X.w X.K X.mg X.base CX k f fd ps sp) (hr:Room k X.A) (hb:Binds X.K fd ps ds) (hd:Vals dvs ds) (hx:w8 CX X E)
 (I:Inv X pins σ H s) (r:Vals vs us) (h:sp (vs++dvs) H Q E):wpAny (model X.prog X.w) X.A (call (.ref f) us) (EP X pins σ Q) X.xe s:=by
 have r2:Vals (vs++dvs) (us++ds):=r.append hd
 have hl:(us++ds).length=ps.length:=by rw [←r2.length];exact F.len _ _ _ _ h
 refine wpAny_call (codeAny_mono (F.run X.A X.stack s H ⟨us,[]⟩ (us++ds) (vs++dvs) Q E hr I.env0 (hb s us I.kIn hl) r2 h) λr s' hq=>?_)
 cases r with
 | error e=>exact hx pins σ H s e s' I hq
 | ok fl=>
   cases fl with
   | ret u=>exact I.after hq
   | next=>exact False.elim hq
   | brk=>exact False.elim hq
   | cont=>exact False.elim hq
theorem aY1 (F:FnOk X.prog X.w X.K X.mg X.base CX k f fd ps sp) (hr:Room k X.A) (hg:Gl X x) (hm:X.mg x=some (.ref f)) (hk:PySem.W.keepIn X.K (.ref f)=true) (hb:Binds X.K fd ps ds) (hd:Vals dvs ds) (hx:w8 CX X E)
 (ha:PA X (e::es) t) (hdb:(x == ("__debug__" : Str))=false:=by decide) (he:starEach (e::es) X.env=(false,eval e X.env)::starEach es X.env:=by rfl) (hpl:(backTo pos (starEach es X.env)).any (·.1)=false:=by rfl) :
 PE X (.Call (.Name x p) (e::es) [] pos) (a56 sp dvs E t):=by
 intro pins s σ H Q I h
 refine wpAny_Call_Name_kw (ao8 I hg hm ?_ hdb)
 refine PySem.W.callWith_K (h₀:=X.base) I.ok.mod.kin hk (thn (ha pos pins s σ H _ I h) λus s1 ⟨vs,H1,I1,r,q⟩=>⟨I1.kIn,?_⟩) he hpl
 exact aO8 F hr hb hd hx I1 r q
theorem aY2 {pl:Sem Bool} (he:PE X o ta) (c:Cls X.K C) (hm:aX9 X.K C m f) (F:FnOk X.prog X.w X.K X.mg X.base CX k f fd ps sp) (hr:Room k X.A) (hb:Binds X.K fd ps ds) (hd:Vals dvs ds) (hx:w8 CX X E) (ha:PA X (e::es) t)
 (hst:starEach (e::es) X.env=(false,eval e X.env)::starEach es X.env:=by rfl) (hpl:(backTo pos (starEach es X.env)).any (·.1)=false:=by rfl)
 (ht:eval (.Call (.Attribute o m apos) (e::es) [] pos) X.env=(do
  let ov ←eval o X.env
  standAt apos.atName
  let (f,first) ←holding [ov] (getMethod ov m pl)
  callWith pos f first (backTo pos (starEach (e::es) X.env)) (backToKw pos (keywordEach [] X.env))):=by rfl) :
 PE X (.Call (.Attribute o m apos) (e::es) [] pos) (a57 C m sp dvs E ta t):=by
 intro pins s σ H Q I h
 refine PySem.W.methodCall_KW (pl:=pl) (thn (he pins s σ H _ I h) λu s1 ⟨x,H1,I1,rx,a,dx,fs,ex,ea,l,q⟩=>?_) ht
 subst ex
 obtain rfl:u=Value.ref a:=rx
 refine aA1 I1 ea c hm l ?_
 refine PySem.W.callWith_K (first:=[.ref a]) (h₀:=X.base) I.ok.mod.kin hm.kp (thn (ha pos pins s1 σ H1 _ I1 q) λus s2 ⟨vs,H2,I2,r,q2⟩=>⟨I2.kIn,?_⟩) hst hpl
 exact aO8 (us:=.ref a::us) (vs:=.ref a::vs) F hr hb hd hx I2 (.cons rfl r) q2
structure Mk (K:PySem.W.Frag) (C f:Addr):Prop where
 makes:PySem.W.makesIn K C=true
 init:PySem.W.findIn K (.ref C) "__init__" = some (some (.ref f))
 fn:PySem.W.isFn K (.ref f)=true
 kp:PySem.W.keepIn K (.ref C)=true
theorem aO9 {pins:List (Addr×Obj)} {σ:St} {H:Hp} {s:Shared} {Q:VK} {us:List Value} {vs:List V} (M:Mk X.K C f) (F:FnOk X.prog X.w X.K X.mg X.base CX k f fd ps sp) (hr:Room (k+1) X.A) (hb:Binds X.K fd ps ds) (hd:Vals dvs ds)
 (hx:w8 CX X E) (I:Inv X pins σ H s) (r:Vals vs us)
 (h:∀x dx,H x=none->H dx=none->dx≠x->sp (.ref x::(vs++dvs)) (upd (upd H dx (.own x)) x (.ins C dx [])) (λv H2=>v=.non/\Q (.ref x) H2) E) :
 wpAny (model X.prog X.w) X.A (call (.ref C) us) (EP X pins σ Q) X.xe s:=by
 have hq:=h (s.heap.objs.size+1) s.heap.objs.size (I.hok.fresh (Nat.le_succ _)) (I.hok.fresh (Nat.le_refl _)) (Nat.ne_of_lt (Nat.lt_succ_self _))
 have I2:=Inv.made (C:=C) I
 have r2:Vals (V.ref (s.heap.objs.size+1)::(vs++dvs)) (Value.ref (s.heap.objs.size+1)::(us++ds)):=.cons rfl (r.append hd)
 have hl:(Value.ref (s.heap.objs.size+1)::us++ds).length=ps.length:=by
  have e:=r2.length
  rw [F.len _ _ _ _ hq] at e
  exact e.symm
 refine wpAny_call (aO7 (f:=f) I.kIn M.makes M.init (beq_iff_eq.mp M.fn) (codeAny_mono (F.run _ X.stack _ _ ⟨Value.ref (s.heap.objs.size+1)::us,[]⟩ (Value.ref (s.heap.objs.size+1)::(us++ds)) _ _ E (hr.make C us [])
  (I2.env0.make C us []) (hb _ (Value.ref (s.heap.objs.size+1)::us) I2.kIn hl) r2 hq) λr s' hq'=>?_))
 cases r with
 | error e=>exact hx pins σ _ _ e s' I2 hq'
 | ok fl=>
   cases fl with
   | ret u=>
     obtain⟨v,H',I3,rv,ev,q3⟩:=I2.after hq'
     subst ev
     exact⟨rv,⟨V.ref (s.heap.objs.size+1),H',I3,rfl,q3⟩⟩
   | next=>exact False.elim hq'
   | brk=>exact False.elim hq'
   | cont=>exact False.elim hq'
theorem aY3 (M:Mk X.K C f) (F:FnOk X.prog X.w X.K X.mg X.base CX k f fd ps sp) (hr:Room (k+1) X.A) (hg:Gl X x) (hm:X.mg x=some (.ref C)) (hb:Binds X.K fd ps ds) (hd:Vals dvs ds) (hx:w8 CX X E)
 (ha:PA X (e::es) t) (hdb:(x == ("__debug__" : Str))=false:=by decide) (he:starEach (e::es) X.env=(false,eval e X.env)::starEach es X.env:=by rfl) (hpl:(backTo pos (starEach es X.env)).any (·.1)=false:=by rfl) :
 PE X (.Call (.Name x p) (e::es) [] pos) (a58 C sp dvs E t):=by
 intro pins s σ H Q I h
 refine wpAny_Call_Name_kw (ao8 I hg hm ?_ hdb)
 refine PySem.W.callWith_K (h₀:=X.base) I.ok.mod.kin M.kp (thn (ha pos pins s σ H _ I h) λus s1 ⟨vs,H1,I1,r,q⟩=>⟨I1.kIn,?_⟩) he hpl
 exact aO9 M F hr hb hd hx I1 r q
end
noncomputable def PK (X:Cx) (kws:List Keyword) (t:TA):Prop:=
 ∀(pos:Pos) (pins:List (Addr×Obj)) (s:Shared) (σ:St) (H:Hp) (Q:List V->Hp->Prop),Inv X pins σ H s->t σ H Q->wpAny (model X.prog X.w) X.A (evalAll ((backToKw pos (keywordEach kws X.env)).map (·.2))) (AP X pins σ Q) X.xe s
section
variable {X:Cx} {CX:CXT} {k:Nat} {f C:Addr} {fd:FuncData} {ps ks:List Str} {sp:Sp} {E:XK} {x m:Str} {p pos apos kpos:Pos} {e o:Expr} {es:List Expr} {kws:List Keyword} {te ta:TE} {t tk:TA} {nm:Option Str}
theorem ba5:PK X [] tNil:=λ_ _ _ _ H Q I h=>wpAny_evalAll_nil ⟨[],H,I,.nil,h⟩
theorem aY4 (ha:PE X e te) (hr:PK X kws t):PK X (⟨nm,e,kpos⟩::kws) (a55 te t):=by
 intro pos pins s σ H Q I h
 show wpAny _ _ (evalAll ((do let v ←eval e X.env;standAt pos;pure v)::(backToKw pos (keywordEach kws X.env)).map (·.2))) _ _ s
 refine wpAny_evalAll_cons (wpAny_bind (thn (ha pins s σ H _ I h) λu s1 ⟨x,H1,I1,r1,q1⟩=>wpAny_bind (wpAny_standAt (wpAny_pure ?_))))
 exact thn (hr pos pins s1 σ H1 _ I1 q1) λus s2 ⟨xs,H2,I2,r2,q2⟩=>⟨x::xs,H2,I2,.cons r1 r2,q2⟩
variable {g:List Value->List Value->List Value} {gV:List V->List V->List V}
end
structure D5 (N P:List Str) (sc:Scope):Prop where
 kind:sc.kind=.function
 co:sc.isCoroutine=false
 gen:sc.isGenerator=false
 nd:N.Nodup
 pre:N.take P.length=P
 par:∀x∈P,sc.names.lookup x=some .local\/sc.names.lookup x=some .cell
 nofree:∀y∈sc.names,y.2≠.free
theorem ak8 {kindOf:Str->Option NameKind} {x:Str}:∀{binds:List (Str×Value)} {m:Str->Option Value},(∀v,(x,v)∉binds)->bindL kindOf binds m x=m x
 | [],_,_=>rfl
 | (n,v)::r,m,h=>by
   unfold bindL
   rw [ak8 λw hw=>h w (List.mem_cons_of_mem _ hw)]
   split
   ·have:x≠n:=by rintro rfl;exact h v List.mem_cons_self
    simp [this]
   ·rfl
theorem ak9 {kindOf:Str->Option NameKind} {x:Str}:∀{binds:List (Str×Value)} {m:Str->Option Value},(∀v,(x,v)∉binds)->bindC kindOf binds m x=m x
 | [],_,_=>rfl
 | (n,v)::r,m,h=>by
   unfold bindC
   rw [ak9 λw hw=>h w (List.mem_cons_of_mem _ hw)]
   split
   ·rfl
   ·have:x≠n:=by rintro rfl;exact h v List.mem_cons_self
    simp [this]
theorem al0 {kindOf:Str->Option NameKind} {x:Str} {v:Value}:∀{P:List Str} {vs:List Value} {i:Nat} {m:Str->Option Value},P.Nodup->P[i]?=some x->vs[i]?=some v->kindOf x=some .local->
 bindL kindOf (P.zip vs) m x=some v
 | [],_,_,_,_,h,_,_=>by simp at h
 | _::_,[],_,_,_,_,h,_=>by simp at h
 | p::P,w::vs,0,m,nd,h1,h2,hk=>by
   simp at h1 h2;subst h1;subst h2
   show bindL kindOf ((p,w)::P.zip vs) m p=_
   unfold bindL
   rw [ak8 λv hv=>(List.nodup_cons.mp nd).1 (List.of_mem_zip hv).1,if_pos hk]
   simp
 | p::P,w::vs,i+1,m,nd,h1,h2,hk=>by
   show bindL kindOf ((p,w)::P.zip vs) m x=_
   unfold bindL
   exact al0 (i:=i) (List.nodup_cons.mp nd).2 (by simpa using h1) (by simpa using h2) hk
theorem al1 {kindOf:Str->Option NameKind} {x:Str} {v:Value}:∀{P:List Str} {vs:List Value} {i:Nat} {m:Str->Option Value},P.Nodup->P[i]?=some x->vs[i]?=some v->kindOf x≠some .local->
 bindC kindOf (P.zip vs) m x=some v
 | [],_,_,_,_,h,_,_=>by simp at h
 | _::_,[],_,_,_,_,h,_=>by simp at h
 | p::P,w::vs,0,m,nd,h1,h2,hk=>by
   simp at h1 h2;subst h1;subst h2
   show bindC kindOf ((p,w)::P.zip vs) m p=_
   unfold bindC
   rw [ak9 λv hv=>(List.nodup_cons.mp nd).1 (List.of_mem_zip hv).1,if_neg hk]
   simp
 | p::P,w::vs,i+1,m,nd,h1,h2,hk=>by
   show bindC kindOf ((p,w)::P.zip vs) m x=_
   unfold bindC
   exact al1 (i:=i) (List.nodup_cons.mp nd).2 (by simpa using h1) (by simpa using h2) hk
noncomputable def start (N:List Str) (vs:List V):St:=vs.map some++List.replicate (N.length - vs.length) none
noncomputable def aA5 (CX:CXT) (P:Program) (w:World) (K:PySem.W.Frag) (mg:Str->Option Value) (base:Heap) (N:List Str) (qual:Str) (scope:Scope) (f:Addr) (cd:Value) (A:Around) (outer:List Env) (s:Shared) (H:Hp) (E:XK):Cx where
 prog:=P
 w:=w
 K:=K
 mg:=mg
 base:=base
 A:=A.deeper (envOfC qual scope s.heap.objs.size f cd)
 N:=N
 s₀:=s
 H₀:=H
 env:=envOfC qual scope s.heap.objs.size f cd
 outer:=outer
 stack:=envOfC qual scope s.heap.objs.size f cd::outer
 ex:=[]
 calm:=true
 fn:=λ_=>true
 pn:=[]
 xe:=λe s'=>wpAny (model P w) (A.deeper (envOfC qual scope s.heap.objs.size f cd)) (leaving (envOfC qual scope s.heap.objs.size f cd) e) (λ_ s''=>CX outer H s E e s'') (λe' s''=>CX outer H s E e' s'') s'
theorem au2 {sc:Scope} {n:Nat} {x:Str} (h:sc.names.lookup x=some .cell):∃c,(cellsFrom n sc.names []).lookup x=some c:=by
 have q:=PySem.W.cellsFrom_some sc.names n [] (.inl h)
 exact Option.isSome_iff_exists.mp q
theorem aJ7 {CX:CXT} {P:Program} {w:World} {K:PySem.W.Frag} {mg:Str->Option Value} {base:Heap} {N ps:List Str} {qual:Str} {scope:Scope} {f:Addr} {cd:Value} {A:Around} {outer:List Env} {s s1:Shared} {H:Hp} {E:XK} {us:List Value} {vs:List V}
 (S:D5 N ps scope) (hd:A.handled=none) (e0:Env0 P w K mg base A outer s H) (hl:vs.length=ps.length) (r:Vals vs us)
 (x:InCallC s s.heap.objs.size (bindL (envOfC qual scope s.heap.objs.size f cd).kindOf (ps.zip us) λ_=>none) (cellsFrom (s.heap.objs.size+1) scope.names []) (bindC (envOfC qual scope s.heap.objs.size f cd).kindOf (ps.zip us) λ_=>none) s1) :
 Inv (aA5 CX P w K mg base N qual scope f cd A outer s H E) [] (start N vs) H s1:=by
 have hpl:ps.length<=N.length:=by have:=congrArg List.length S.pre;rw [List.length_take] at this;omega
 obtain⟨h1,tk,rfl,hk⟩:=x.done
 have noA:∀b:Addr,b∉(aA5 CX P w K mg base N qual scope f cd A outer s H E).ex:=λb z=>absurd (show b∈([]:List Addr) from z) (by simp)
 refine⟨⟨e0.mod,S.kind,rfl,rfl,Nat.le_refl _,λy z c h1 h2=>?_,λy hy=>?_,λy c _ h=>?_,λ_=>hd,Around.frames_deeper e0.frames,.inr ⟨rfl,rfl⟩,λb z=>absurd z (noA b),e0.bs,e0.bsz,λb _ _=>noA b,λb z=>absurd z (noA b),e0.funs,e0.frf⟩,
  rfl,e0.bare,Un.kept hk,⟨_,x.toInCall.ns,λi y v h1 h2 h3=>?_⟩,λy c h=>⟨_,x.cell y c h⟩,e0.hok.fresh (Nat.le_refl _),λy c h=>?_,λp hp=>absurd (show p∈([]:List (Addr×Obj)) from hp) (by simp),e0.hok.kept hk,?_⟩
 ·exact name_of_addr x.apart (PySem.mem_of_lookup h1) (PySem.mem_of_lookup h2)
 ·have hy:scope.names.lookup y=some .cell\/scope.names.lookup y=some .free:=hy
  rcases hy with hy | hy
  ·exact au2 hy
  ·exact absurd rfl (S.nofree _ (PySem.mem_of_lookup hy))
 ·exact Nat.le_of_lt (x.above y c (PySem.mem_of_lookup h))
 ·have hi:i<vs.length:=by
   unfold start at h2
   by_cases hi:i<vs.length
   ·exact hi
   ·rw [List.getElem?_append_right (by simpa using hi)] at h2
    rw [List.getElem?_replicate] at h2
    split at h2 <;> cases h2
  have ha:vs[i]?=some v:=by
   unfold start at h2
   rw [List.getElem?_append_left (by simpa using hi),List.getElem?_map] at h2
   cases e:vs[i]? with
   | none=>rw [e] at h2;cases h2
   | some a=>rw [e] at h2;cases h2;rfl
  obtain⟨u,hu,rv⟩:=r.get ha
  have hp:ps[i]?=some y:=by
   rw [←S.pre,List.getElem?_take_of_lt (by omega)];exact h1
  have ndP:ps.Nodup:=by rw [←S.pre];exact S.nd.sublist (List.take_sublist _ _)
  refine⟨u,rv,?_⟩
  rcases S.par y (List.mem_of_getElem? hp) with k | k
  ·exact .inl ⟨k,al0 ndP hp hu k⟩
  ·obtain⟨c,e⟩:=au2 (n:=s.heap.objs.size+1) k
   refine .inr ⟨.inl k,c,e,?_⟩
   have q:=x.cell y c e
   rw [al1 ndP hp hu (by show scope.names.lookup y≠_;rw [k];decide)] at q
   exact q
 ·exact e0.hok.fresh (Nat.le_of_lt (x.above y c (PySem.mem_of_lookup h)))
 ·unfold start
  show _=N.length
  rw [List.length_append,List.length_map,List.length_replicate]
  omega
theorem bi6 {CX:CXT} {P:Program} {w:World} {K:PySem.W.Frag} {mg:Str->Option Value} {base:Heap} {k:Nat} {f:Addr} {name qual:Str} {params:Arguments} {body:List Stmt} {scope:Scope} {dV kV doc pm cdv ct oc:Value} {an od:Option Addr}
 {osl:Array (Option Value)} {N ps:List Str} {sp:Sp} (lk:K.lookup f=some ⟨oc,od,.func (PySem.W.fnOf name qual params body scope dV kV doc pm an cdv ct),osl⟩) (hcd:PySem.W.codeIn K cdv qual=true) (S:D5 N ps scope)
 (len:∀vs H Q E,sp vs H Q E->vs.length=ps.length)
 (hbody:∀(A:Around) (outer:List Env) (s:Shared) (H:Hp) (vs:List V) (Q:VK) (E:XK),Room k (A.deeper (envOfC qual scope s.heap.objs.size f cdv))->sp vs H Q E->
  ∃t,PSs (aA5 CX P w K mg base N qual scope f cdv A outer s H E) body t/\t { nx:=λ_ H'=>Q .non H',rt:=Q } (start N vs) H) :
 FnOk P w K mg base CX (k+1) f (PySem.W.fnOf name qual params body scope dV kV doc pm an cdv ct) ps sp:=by
 refine⟨len,λA outer s H args us vs Q E hr e0 hb r hsp=>?_⟩
 have hl:=len _ _ _ _ hsp
 have KX:K.In s.heap:=e0.mod.kin.keeps λb o e=>(e0.bs b o e).1
 have lim:s.heap.NoLimit:=e0.mod.nolimit.keeps λb o e=>(e0.bs b o e).1
 have hkind:∀y∈ps.zip us,scope.names.lookup y.1=some .local\/(scope.names.lookup y.1=some .cell/\((cellsFrom (s.heap.objs.size+1) scope.names []).lookup y.1).isSome=true):=λ⟨n,v⟩ hy=>by
  rcases S.par n (List.of_mem_zip hy).1 with q | q
  ·exact .inl q
  ·exact .inr ⟨q,PySem.W.cellsFrom_some _ _ _ (.inl q)⟩
 refine codeAny_call_function hr.depth (KX _ _ lk) rfl S.co S.gen rfl (PySem.W.codeRec_of KX hcd) (hb _ _ _ _ ?_)
 refine wpAny_newFunctionEnv_cells S.kind hkind λenv he s1 x=>?_
 subst he
 refine⟨lim.keeps x.toInCall.keep,codeAny_func ?_⟩
 obtain⟨t,ht,hq⟩:=hbody A outer s H vs Q E (hr.deeper _) hsp
 have I:Inv (aA5 CX P w K mg base N qual scope f cdv A outer s H E) [] (start N vs) H s1:=aJ7 S hr.hd e0 hl r x
 refine wpAny_mono (ht [] s1 (start N vs) H _ I hq) (λfl s' hs=>?_) λe s' hs=>hs
 have fin:∀{σ':St} {H':Hp} {v:V} {u:Value},Inv (aA5 CX P w K mg base N qual scope f cdv A outer s H E) [] σ' H' s'->RelV v u->Q v H'->CE outer P w H s Q u s':=
  λ{σ' H' v u} J rv q=>⟨v,H',J.os,J.bare,J.base,J.hok,rv,q⟩
 cases fl with
 | ret u=>
   obtain⟨v,σ',H',J,rv,q⟩:=hs
   exact fin J rv q
 | next=>
   obtain⟨σ',H',J,q⟩:=hs
   exact fin (v:=V.non) (u:=Value.none) J rfl q
 | brk=>
   obtain⟨_,_,_,q⟩:=hs
   exact False.elim q
 | cont=>
   obtain⟨_,_,_,q⟩:=hs
   exact False.elim q
end L2
namespace L2
open PySem PySem.Spec PyProof.Rows
section
variable {X:Cx} {x:Str} {p pos:Pos} {e:Expr} {es:List Expr} {t:TA} {id T:String} {r:List V->Hp->VK->Prop}
noncomputable def tCB (r:List V->Hp->VK->Prop) (t:TA):TE:=λσ H Q=>t σ H λvs H1=>r vs H1 Q
theorem S7 (hc:CallR X (.builtin id) r) (hg:Gl X x) (hm:X.mg x=none) (hv:bootBuiltins x=some (.builtin id)) (ha:PA X (e::es) t) (hn:x≠"__name__":=by decide) (hdb:(x == ("__debug__" : Str))=false:=by decide)
 (he:starEach (e::es) X.env=(false,eval e X.env)::starEach es X.env:=by rfl) (hpl:(backTo pos (starEach es X.env)).any (·.1)=false:=by rfl):PE X (.Call (.Name x p) (e::es) [] pos) (tCB r t):=by
 intro pins s σ H Q I h
 refine wpAny_Call_Name_kw (m5 I hg hm hv ?_ hn hdb)
 exact PyProof.Rows.callWith_builtin1 (thn (ha pos pins s σ H _ I h) λus s1 ⟨vs,H1,I1,r1,q1⟩=>hc pins s1 σ H1 vs us Q I1 r1 q1) he hpl
theorem S5 (hc:CallR X (.type T) r) (hg:Gl X x) (hm:X.mg x=none) (hv:bootBuiltins x=some (.type T)) (ha:PA X (e::es) t) (hn:x≠"__name__":=by decide) (hdb:(x == ("__debug__" : Str))=false:=by decide)
 (he:starEach (e::es) X.env=(false,eval e X.env)::starEach es X.env:=by rfl) (hpl:(backTo pos (starEach es X.env)).any (·.1)=false:=by rfl):PE X (.Call (.Name x p) (e::es) [] pos) (tCB r t):=by
 intro pins s σ H Q I h
 refine wpAny_Call_Name_kw (m5 I hg hm hv ?_ hn hdb)
 exact PyProof.Rows.callWith_type1 (thn (ha pos pins s σ H _ I h) λus s1 ⟨vs,H1,I1,r1,q1⟩=>hc pins s1 σ H1 vs us Q I1 r1 q1) he hpl
end
end L2
namespace HT
open PySem PyProof.Rows
section
variable {prog:Program} {w:World} {A:Around} {E:Value->Shared->Prop} {s:Shared}
theorem cat_tup {t b:Addr} {vs ws:List Value} {Q:Value->Shared->Prop} (ht:IsTup s.heap t vs.toArray) (hb:IsTup s.heap b ws.toArray) (hv:vs≠[])
 (h1:ws=[]->Q (.ref t) s) (h2:ws≠[]->Q (.ref s.heap.objs.size) { s with heap:=s.heap.push { cls:=.type "tuple",data:=.seq (vs++ws).toArray } })
 (hsz:vs.length+ws.length<=sizeLine):wpAny (model prog w) A (binaryOp .Add (.ref t) (.ref b)) Q E s:=by
 obtain⟨⟨cls,dd,data,sl⟩,ho,hc,n,hd⟩:=id ht
 obtain⟨⟨cls2,dd2,data2,sl2⟩,ho2,hc2,n2,hd2⟩:=id hb
 simp only at hc hd hc2 hd2
 subst hc hd hc2 hd2
 have e:vs.toArray++ws.toArray=(vs++ws).toArray:=by simp
 by_cases hw:ws=[]
 ·exact concat_meets ⟨_,ho,rfl⟩ ⟨_,ho2,rfl⟩ noFill_tuple_add seq_tuple_add PySem.F.slot_tuple_add PySem.F.entry_tuple_add (PySem.F.args_tuple_add_2 _ _)
   (tuple_addW1 t b vs.toArray ws.toArray n n2 dd dd2 sl sl2 (by simpa using hv) (by simp [hw])) ⟨ho,ho2,h1 hw⟩
 ·refine concat_meets ⟨_,ho,rfl⟩ ⟨_,ho2,rfl⟩ noFill_tuple_add seq_tuple_add PySem.F.slot_tuple_add PySem.F.entry_tuple_add (PySem.F.args_tuple_add_2 _ _)
   (tuple_addW2 t b vs.toArray ws.toArray n n2 dd dd2 sl sl2 (by simpa using hv) (by simpa using hw) (by rw [List.size_toArray,List.size_toArray];exact hsz)) ⟨ho,ho2,?_⟩
  rw [e]
  exact h2 hw
noncomputable def sIx (n d:Nat):Option Int->Nat
 | none=>d
 | some v=>if v<0 then (v+(n:Int)).toNat else min v.toNat n
theorem ba6 (n d:Nat) (hd:d<=n) (o:Option Int):sIx n d o<=n:=by
 cases o with
 | none=>exact hd
 | some v=>
   show (if v<0 then (v+(n:Int)).toNat else min v.toNat n)<=n
   by_cases hv:v<0
   ·rw [if_pos hv];omega
   ·rw [if_neg hv];exact Nat.min_le_right _ _
theorem clip_eq (v:Int) (n d:Nat):(if v<0 then max (v+(n:Int)) 0 else min v (n:Int))=((sIx n d (some v):Nat):Int):=by
 show (if v<0 then max (v+(n:Int)) 0 else min v (n:Int))=(((if v<0 then (v+(n:Int)).toNat else min v.toNat n):Nat):Int)
 by_cases hv:v<0
 ·simp only [if_pos hv];omega
 ·simp only [if_neg hv];omega
theorem aA6 (lo hi:Option Int) (n:Nat):Builtin.Slice.sliceAdjust lo hi 1 (n:Int)=(((sIx n 0 lo:Nat):Int),((sIx n n hi:Nat):Int)):=by
 have h1:¬((1:Int)<0):=by omega
 unfold Builtin.Slice.sliceAdjust
 simp only [h1,if_false]
 refine Prod.ext ?_ ?_
 ·cases lo with
  | none=>rfl
  | some v=>exact clip_eq v n 0
 ·cases hi with
  | none=>rfl
  | some v=>exact clip_eq v n n
theorem aA7 (i j:Nat):Builtin.Slice.slicePlaces (i:Int) (j:Int) 1=j - i:=by
 unfold Builtin.Slice.slicePlaces
 have h1:(1:Int) > 0:=by omega
 simp only [h1,if_true,Int.ediv_one]
 split <;> omega
theorem ad7 {v:Value} {o:Option Int} {Q:Option Int->Shared->Prop} (p:IsPart v o) (h:Q o s):wpAny (model prog w) A (Builtin.Slice.slicePartIndex v) Q E s:=by
 cases p with
 | none=>exact slicePart_none h
 | int i t=>exact slicePart_int h
theorem x8 {sl:Addr} {vl vu:Value} {lo hi:Option Int} {n:Nat} {Q:Int×Int×Nat->Shared->Prop} (hs:s.heap.IsSliceOf sl vl vu .none) (pl:IsPart vl lo) (pu:IsPart vu hi)
 (h:Q (((sIx n 0 lo:Nat):Int),1,sIx n n hi - sIx n 0 lo) s):wpAny (model prog w) A (Builtin.Slice.sliceApplied (.ref sl) (pure (n:Int))) Q E s:=by
 obtain⟨os,hos,hcs,hds⟩:=id hs
 unfold Builtin.Slice.sliceApplied Builtin.Slice.sliceFields
 refine wpAny_bind (wpAny_bind (wpAny_field hos hds (x:=vl) rfl (wpAny_bind (wpAny_field hos hds (x:=vu) rfl (wpAny_bind (wpAny_field hos hds (x:=.none) rfl (wpAny_pure ?_)))))))
 refine wpAny_bind (slicePart_none ?_)
 show wpAny _ _ (if ((1:Int) == 0)=true then _ else _) _ _ s
 rw [if_neg (by decide)]
 refine wpAny_bind (ad7 pl (wpAny_bind (ad7 pu (wpAny_bind (wpAny_pure ?_)))))
 show wpAny _ _ (match Builtin.Slice.sliceAdjust lo hi 1 (n:Int) with | (lo,hi)=>pure (lo,(1:Int),Builtin.Slice.slicePlaces lo hi 1)) _ _ s
 rw [aA6 lo hi n]
 show wpAny _ _ (pure (((sIx n 0 lo:Nat):Int),(1:Int),Builtin.Slice.slicePlaces ((sIx n 0 lo:Nat):Int) ((sIx n n hi:Nat):Int) 1)) _ _ s
 rw [aA7]
 exact wpAny_pure h
theorem aP0 (xs:Array Value) (i k:Nat):((List.range k).filterMap λ(m:Nat)=>xs[((i:Int)+(m:Int)*1).toNat]?).toArray=((xs.toList.drop i).take k).toArray:=by
 have e:(λ(m:Nat)=>xs[((i:Int)+(m:Int)*1).toNat]?)=λm=>xs[i+m]?:=by
  funext m
  have:((i:Int)+(m:Int)*1).toNat=i+m:=by omega
  rw [this]
 rw [e]
 have:=pick_run xs i k
 rw [List.filterMap_map] at this
 have e2:((λx=>xs[x]?) ∘ λx=>i+x)=λm=>xs[i+m]?:=rfl
 rw [e2] at this
 rw [this]
theorem getItem_tuple_cut {t sl:Addr} {items:Array Value} {vl vu:Value} {lo hi:Option Int} {Q:Value->Shared->Prop} (ht:IsTup s.heap t items) (hs:s.heap.IsSliceOf sl vl vu .none) (pl:IsPart vl lo) (pu:IsPart vu hi)
 (hw:¬(sIx items.size 0 lo=0/\sIx items.size items.size hi=items.size))
 (h:Q (.ref s.heap.objs.size) { s with heap:=s.heap.push { cls:=.type "tuple",data:=.seq ((items.toList.drop (sIx items.size 0 lo)).take (sIx items.size items.size hi - sIx items.size 0 lo)).toArray } })
 (hsz:items.size<=sizeLine):wpAny (model prog w) A (getItem (.ref t) (.ref sl)) Q E s:=by
 have htake:sizeOk (.seq ((items.toList.drop (sIx items.size 0 lo)).take (sIx items.size items.size hi - sIx items.size 0 lo)).toArray):=by
  show ((items.toList.drop (sIx items.size 0 lo)).take (sIx items.size items.size hi - sIx items.size 0 lo)).toArray.size<=sizeLine
  rw [List.size_toArray,List.length_take,List.length_drop,Array.length_toList]
  omega
 have hj:sIx items.size items.size hi<=items.size:=ba6 _ _ (Nat.le_refl _) hi
 obtain⟨os,hos,hcs,hds⟩:=id hs
 have hTs:s.TypeIs (.ref sl) "slice":=⟨os,hos,hcs⟩
 unfold getItem
 try with_reducible refine wpAny_holding ?_
 first | refine wpAny_bind (wpAny_pure ?_) | skip
 refine wpAny_bind (wpAny_sequenceKey ht.typeIs (by decide) ?_)
 refine wpAny_bind (wpAny_callSpecial?_slot (name:=Str.ofString "__getitem__") ht.typeIs PyProof.Rows.slot_tuple_getitem
  (wpAny_call_entry PyProof.Rows.slot_tuple_getitem ht.typeIs entry_tuple_getitem ?_ (args_tuple_getitem _ _)))
 show wpAny _ _ (Builtin.Tuple.tupleItemsOf (.ref t)>>=_) _ _ s
 refine wpAny_bind (tupleItemsOf_ ht ?_)
 refine wpAny_bind (wpAny_typeOf hTs ?_)
 rw [if_pos (by decide)]
 refine wpAny_bind (x8 hs pl pu ?_)
 have hno:¬((((sIx items.size 0 lo:Nat):Int) == 0&&(1:Int) == 1&&(sIx items.size items.size hi - sIx items.size 0 lo) == items.size)=true):=by
  intro q
  rw [Bool.and_eq_true,Bool.and_eq_true] at q
  have q1:((sIx items.size 0 lo:Nat):Int)=0:=eq_of_beq q.1.1
  have q2:sIx items.size items.size hi - sIx items.size 0 lo=items.size:=eq_of_beq q.2
  exact hw ⟨by omega,by omega⟩
 show wpAny _ _ (if (((sIx items.size 0 lo:Nat):Int) == 0&&(1:Int) == 1&&(sIx items.size items.size hi - sIx items.size 0 lo) == items.size)=true then _ else _) _ _ s
 rw [if_neg hno,aP0]
 first
  | exact wpAny_bind (m:=Builtin.Tuple.tupleExact _) (wpAny_newObj_type (wpAny_pure ⟨_,rfl,wpAny_pure h⟩) htake)
  | exact wpAny_bind (m:=Builtin.Tuple.tupleExact _) (wpAny_newObj_type (wpAny_bind (wpAny_pure (wpAny_pure ⟨_,rfl,wpAny_pure h⟩))) htake)
  | exact wpAny_bind (wpAny_bind (m:=Builtin.Tuple.tupleExact _) (wpAny_newObj_type (wpAny_pure (wpAny_pure ⟨_,rfl,wpAny_pure h⟩)) htake))
  | exact wpAny_bind (wpAny_bind (m:=Builtin.Tuple.tupleExact _) (wpAny_newObj_type (wpAny_pure ⟨_,rfl,wpAny_pure h⟩) htake))
end
end HT
namespace L2
open PySem PySem.Spec PyProof.Rows
noncomputable abbrev TO:=St->Hp->(Option Int->Hp->Prop)->Prop
noncomputable def PO (X:Cx) (e:Option Expr) (t:TO):Prop:=
 ∀(pins:List (Addr×Obj)) (s:Shared) (σ:St) (H:Hp) (Q:Option Int->Hp->Prop),Inv X pins σ H s->t σ H Q->
  wpAny (model X.prog X.w) X.A (evalPart e X.env) (λu s'=>∃o H',Inv X pins σ H' s'/\IsPart u o/\Q o H') X.xe s
noncomputable def tNoPart:TO:=λ_ H Q=>Q none H
noncomputable def bi7 (t:TE):TO:=λσ H Q=>t σ H λx H1=>∃i,x=.int i/\Q (some i) H1
theorem ad8 {ns:List Int}:∀{us:List Value},Vals (ns.map V.int) us->IntsAre us ns:=by
 induction ns with
 | nil=>intro us r;rw [List.map_nil] at r;cases r;exact .nil
 | cons n ns ih=>
   intro us r
   rw [List.map_cons] at r
   cases r with
   | cons r1 r2=>
     obtain⟨t,e⟩:=r1
     subst e
     exact .cons n t (ih r2)
section
variable {X:Cx} {e:Expr} {te:TE} {lo hi:Option Expr} {tl th:TO} {pos p2:Pos}
theorem aY5:PO X none tNoPart:=by
 intro pins s σ H Q I h
 rw [evalPart_none]
 exact wpAny_pure ⟨none,H,I,.none,h⟩
theorem aY6 (h:PE X e te):PO X (some e) (bi7 te):=by
 intro pins s σ H Q I hw
 rw [evalPart_some]
 refine thn (h pins s σ H _ I hw) λu s1 ⟨x,H1,I1,r1,q1⟩=>?_
 obtain⟨i,rfl,q⟩:=q1
 obtain⟨t,rfl⟩:=r1
 exact⟨some i,H1,I1,.int i t,q⟩
noncomputable def SlR (X:Cx) (r:V->Option Int->Option Int->Hp->VK->Prop):Prop:=
 ∀(pins:List (Addr×Obj)) (s:Shared) (σ:St) (H:Hp) (x:V) (v vl vu:Value) (lo hi:Option Int) (sl:Addr) (Q:VK),Inv X pins σ H s->RelV x v->s.heap.IsSliceOf sl vl vu .none->IsPart vl lo->IsPart vu hi->r x lo hi H Q->
  ∃T id,typeLookup (.type T) "__getitem__" = pure (some (.builtin id))/\s.TypeIs v T/\wpAny (model X.prog X.w) X.A (getItem v (.ref sl)) (EP X pins σ Q) X.xe s
theorem SlR.or {r r':V->Option Int->Option Int->Hp->VK->Prop} (h:SlR X r) (h':SlR X r'):SlR X (λx lo hi H Q=>r x lo hi H Q\/r' x lo hi H Q):=by
 intro pins s σ H x v vl vu lo hi sl Q I rx hs pl pu q
 rcases q with q | q
 ·exact h pins s σ H x v vl vu lo hi sl Q I rx hs pl pu q
 ·exact h' pins s σ H x v vl vu lo hi sl Q I rx hs pl pu q
noncomputable def tSl (r:V->Option Int->Option Int->Hp->VK->Prop) (te:TE) (tl th:TO):TE:=λσ H Q=>te σ H λx H1=>tl σ H1 λl H2=>th σ H2 λu H3=>r x l u H3 Q
theorem aP1 {r:V->Option Int->Option Int->Hp->VK->Prop} (hr:SlR X r) (he:PE X e te) (hl:PO X lo tl) (hu:PO X hi th):PE X (.Subscript e (.Slice lo hi none p2) pos) (tSl r te tl th):=by
 intro pins s σ H Q I h
 refine Subscript_ (thn (he pins s σ H _ I h) λv s1 ⟨x,H1,I1,r1,q1⟩=>?_)
 refine wpAny_Slice (thn (hl pins s1 σ H1 _ I1 q1) λvl s2 ⟨l,H2,I2,pl,q2⟩=>thn (hu pins s2 σ H2 _ I2 q2) λvu s3 ⟨u,H3,I3,pu,q3⟩=>?_)
 rw [evalPart_none]
 refine wpAny_pure ?_
 have I4:Inv X pins σ H3 { s3 with heap:=s3.heap.push { cls:=.type "slice",data:=.fields #[vl,vu,.none] } }:=I3.kept (t':=s3.toks) λb ob q=>Heap.get?_push_of_some _ q
 obtain⟨T,id,hT,ht,hg⟩:=hr pins { s3 with heap:=s3.heap.push { cls:=.type "slice",data:=.fields #[vl,vu,.none] } } σ H3 x v vl vu l u s3.heap.objs.size Q I4 r1 (Heap.IsSliceOf.new ..) pl pu q3
 show wpAny (model X.prog X.w) X.A (subscriptTail e (.Slice lo hi none p2) v (.ref s3.heap.objs.size)) (EP X pins σ Q) X.xe { s3 with heap:=s3.heap.push { cls:=.type "slice",data:=.fields #[vl,vu,.none] } }
 exact tail_any (ops:=[.ref s3.heap.objs.size,v]) ht hT hg (by with_unfolding_all rfl)
noncomputable def ap5 (xs:List V) (lo hi:Option Int):List V:=(xs.drop (HT.sIx xs.length 0 lo)).take (HT.sIx xs.length xs.length hi - HT.sIx xs.length 0 lo)
theorem aa8 (xs:List V) (lo hi:Option Int):(ap5 xs lo hi).length<=xs.length:=by
 unfold ap5
 rw [List.length_take,List.length_drop]
 omega
noncomputable def bn0 (K:PySem.W.Frag):V->Option Int->Option Int->Hp->VK->Prop:=λx lo hi H Q=>∃a xs,x=.ref a/\SqT K H a xs/\
 ¬(HT.sIx xs.length 0 lo=0/\HT.sIx xs.length xs.length hi=xs.length)/\∀p,H p=none->Q (.ref p) (upd H p (.tup (ap5 xs lo hi)))
theorem ba7:SlR X (bn0 X.K):=by
 intro pins s σ H x v vl vu lo hi sl Q I rx hs pl pu h
 obtain⟨a,xs,rfl,hx,hw,q⟩:=h
 cases rx
 obtain⟨its,r,ht,hz⟩:=I.tuple hx
 have hlen:its.toArray.size=xs.length:=by rw [List.size_toArray];exact r.length.symm
 refine⟨"tuple",_,PyProof.Rows.slot_tuple_getitem.lookup,ht.typeIs,?_⟩
 refine HT.getItem_tuple_cut ht hs pl pu (by rw [hlen];exact hw) ?_ (by rw [hlen];exact hz)
 rw [hlen]
 refine⟨.ref s.heap.objs.size,_,I.laid (t':=s.toks) (o:=.tup (ap5 xs lo hi)) (λb ob q=>Heap.get?_push_of_some _ q) (Nat.le_refl _) ?_,rfl,q _ (I.hok.fresh (Nat.le_refl _))⟩
 exact⟨Nat.le_trans (aa8 xs lo hi) hz,_,(r.drop (HT.sIx xs.length 0 lo)).take (HT.sIx xs.length xs.length hi - HT.sIx xs.length 0 lo),IsTup.new _ _⟩
noncomputable def a59 (K:PySem.W.Frag):R2:=λx y H Q=>∃a b xs ys,x=.ref a/\y=.ref b/\SqT K H a xs/\SqT K H b ys/\xs≠[]/\xs.length+ys.length<=sizeLine/\
 (ys=[]->Q (.ref a) H)/\(ys≠[]->∀p,H p=none->Q (.ref p) (upd H p (.tup (xs++ys))))
theorem Vals.nil_iff {xs:List V} {us:List Value} (r:Vals xs us):us=[]↔xs=[]:=by
 cases r with
 | nil=>simp
 | cons _ _=>simp
theorem op_catT:OpR X (binaryOp .Add) (a59 X.K):=by
 intro pins s σ H x y v u Q I rx ry h
 obtain⟨a,b,xs,ys,rfl,rfl,ha,hb,hx,hz,q1,q2⟩:=h
 cases rx
 cases ry
 obtain⟨its,r1,p1,_⟩:=I.tuple ha
 obtain⟨its2,r2,p2,_⟩:=I.tuple hb
 refine HT.cat_tup p1 p2 (λz=>hx (r1.nil_iff.mp z)) (λz=>⟨.ref a,H,I,rfl,q1 (r2.nil_iff.mp z)⟩) (λz=>?_) (by rw [←r1.length,←r2.length];exact hz)
 refine⟨.ref s.heap.objs.size,_,I.laid (t':=s.toks) (o:=.tup (xs++ys)) (λb ob q=>Heap.get?_push_of_some _ q) (Nat.le_refl _) ?_,rfl,q2 (λw=>z (r2.nil_iff.mpr w)) _ (I.hok.fresh (Nat.le_refl _))⟩
 exact⟨by rw [List.length_append];exact hz,_,r1.append r2,IsTup.new _ _⟩
end
end L2
namespace L2
open PySem PySem.Spec PyProof.Rows
noncomputable def ixN (n:Nat) (i:Int):Option Nat:=if 0<=i then (if i<n then some i.toNat else none) else if -(n:Int)<=i then some (i+n).toNat else none
noncomputable def atI {α:Type} (xs:List α) (i:Int):Option α:=(ixN xs.length i).bind λj=>xs[j]?
theorem aY7 {n:Nat} {i:Int} {j:Nat} (h:ixN n i=some j):seqIndex? i n=some j/\j<n/\-(n:Int)<=i/\i<n:=by
 unfold ixN at h
 by_cases h0:0<=i
 ·rw [if_pos h0] at h
  by_cases h1:i<n
  ·rw [if_pos h1] at h
   have e:i.toNat=j:=Option.some.inj h
   exact⟨by rw [seqIndex_of h0 h1,e],by omega,by omega,h1⟩
  ·rw [if_neg h1] at h;cases h
 ·rw [if_neg h0] at h
  by_cases h1 : -(n:Int)<=i
  ·rw [if_pos h1] at h
   have e:(i+n).toNat=j:=Option.some.inj h
   exact⟨by rw [seqIndex_neg (by omega) h1,e],by omega,h1,by omega⟩
  ·rw [if_neg h1] at h;cases h
theorem ap6 {α:Type} {xs:List α} {i:Int} {v:α} (h:atI xs i=some v):∃j,seqIndex? i xs.length=some j/\xs[j]?=some v/\j<xs.length/\-(xs.length:Int)<=i/\i<xs.length:=by
 unfold atI at h
 cases e:ixN xs.length i with
 | none=>rw [e] at h;cases h
 | some j=>
   rw [e] at h
   obtain⟨h1,h2,h3,h4⟩:=aY7 e
   exact⟨j,h1,h,h2,h3,h4⟩
noncomputable def ap7 (b:Expr):Prop:=∀o i,subscripted b false o i=operate [o,i] (getItem o i)
noncomputable def IxR (X:Cx) (r:R2):Prop:=
 ∀(value slice:Expr) (pins:List (Addr×Obj)) (s:Shared) (σ:St) (H:Hp) (x y:V) (v u:Value) (Q:VK),Inv X pins σ H s->RelV x v->RelV y u->r x y H Q->
  subscripted slice false v u=operate [v,u] (getItem v u)->wpAny (model X.prog X.w) X.A (subscriptTail value slice v u) (EP X pins σ Q) X.xe s
noncomputable def MtR (X:Cx) (id:String) (r:V->List V->Hp->VK->Prop):Prop:=
 ∀(pins:List (Addr×Obj)) (s:Shared) (σ:St) (H:Hp) (x:V) (xs:List V) (v:Value) (us:List Value) (Q:VK),Inv X pins σ H s->RelV x v->Vals xs us->r x xs H Q->
  wpAny (model X.prog X.w) X.A (call (.builtin id) (v::us)) (EP X pins σ Q) X.xe s
section
variable {X:Cx} {a b:Expr} {ta tb:TE} {pos:Pos}
theorem IxR.or {r r':R2} (h:IxR X r) (h':IxR X r'):IxR X (λx y H Q=>r x y H Q\/r' x y H Q):=by
 intro value slice pins s σ H x y v u Q I rx ry q hs
 rcases q with q | q
 ·exact h value slice pins s σ H x y v u Q I rx ry q hs
 ·exact h' value slice pins s σ H x y v u Q I rx ry q hs
theorem a60 {r:R2} (hr:IxR X r) (ha:PE X a ta) (hb:PE X b tb) (hs:ap7 b):PE X (.Subscript a b pos) (tOp r ta tb):=by
 intro pins s σ H Q I h
 exact Subscript_ (a97 ha hb I h λv u s2 x y H2 I2 rx ry q=>hr a b pins s2 σ H2 x y v u Q I2 rx ry q (hs _ _))
noncomputable def bi8 (K:PySem.W.Frag):R2:=λx y H Q=>∃p xs i v,x=.ref p/\y=.int i/\SqL K H p xs/\atI xs i=some v/\Q v H
noncomputable def bi9 (K:PySem.W.Frag):R2:=λx y H Q=>∃p xs i v,x=.ref p/\y=.int i/\SqT K H p xs/\atI xs i=some v/\Q v H
noncomputable def rIxS:R2:=λx y H Q=>∃z i c,x=.str z/\y=.int i/\z.length<=sizeLine/\atI z.cps.toList i=some c/\Q (.str ⟨#[c]⟩) H
theorem ix_list:IxR X (bi8 X.K):=by
 intro value slice pins s σ H x y v u Q I rx ry h hs
 obtain⟨p,xs,i,z,rfl,rfl,hq,he,q⟩:=h
 cases rx
 obtain⟨t,rfl⟩:=ry
 obtain⟨its,r,pl,hz⟩:=I.list hq
 obtain⟨j,h1,h2,h3,h4,h5⟩:=ap6 he
 obtain⟨w,ew,rw'⟩:=r.get h2
 have hl:=r.length
 have hn:=ad6
 have fin:EP X pins σ Q w s:=⟨z,H,I,rw',q⟩
 by_cases h0:0<=i
 ·have hj:i.toNat=j:=by
   rw [seqIndex_of h0 h5] at h1
   exact Option.some.inj h1
  exact item_listR pl.isList h0 (by omega) (by rw [hj];simpa using ew) fin hs
 ·have hj:(i+(its.toArray.size:Int)).toNat=j:=by
   rw [seqIndex_neg (by omega) h4] at h1
   rw [List.size_toArray,←hl]
   exact Option.some.inj h1
  exact subscriptTail_builtinR (x:=w) pl.isList.typeIs slot_list_getitem.lookup
   (wpAny_getItem_list_neg (Q:=λr s'=>r=w/\EP X pins σ Q r s') pl.isList (by omega) (by rw [List.size_toArray] <;> omega) (by omega) (by rw [hj];simpa using ew) ⟨rfl,fin⟩) hs
theorem ba8:IxR X (bi9 X.K):=by
 intro value slice pins s σ H x y v u Q I rx ry h hs
 obtain⟨p,xs,i,z,rfl,rfl,hq,he,q⟩:=h
 cases rx
 obtain⟨t,rfl⟩:=ry
 obtain⟨its,r,pl,hz⟩:=I.tuple hq
 obtain⟨j,h1,h2,h3,h4,h5⟩:=ap6 he
 obtain⟨w,ew,rw'⟩:=r.get h2
 have hl:=r.length
 have hn:=ad6
 have fin:EP X pins σ Q w s:=⟨z,H,I,rw',q⟩
 exact subscriptTail_builtinR (x:=w) pl.typeIs slot_tuple_getitem.lookup
  (getItem_tuple (j:=j) (Q:=λr s'=>r=w/\EP X pins σ Q r s') pl (by omega) (by omega) (by rw [List.size_toArray,←hl];exact h1) (by simpa using ew) ⟨rfl,fin⟩) hs
theorem ba9:IxR X rIxS:=by
 intro value slice pins s σ H x y v u Q I rx ry h hs
 obtain⟨z,i,c,rfl,rfl,hz,he,q⟩:=h
 obtain⟨t,rfl⟩:=rx
 obtain⟨t',rfl⟩:=ry
 obtain⟨j,h1,h2,h3,h4,h5⟩:=ap6 he
 have hl:z.cps.toList.length=z.length:=by simp [Str.length]
 rw [hl] at h1 h4 h5
 have hn:=ad6
 exact tail_any (typeIs_str s z t) slot_str_getitem.lookup (getItem_str (c:=c) (by
  have e1:decide (i < -(2 ^ 63:Int))=false:=decide_eq_false (by omega)
  have e2:decide (i≥2 ^ 63)=false:=decide_eq_false (by omega)
  rw [e1,e2,Bool.or_false]) (by rw [h1];simpa using h2) ⟨.str ⟨#[c]⟩,H,I.tok _,⟨_,rfl⟩,q⟩) hs
theorem ap8 (lo hi:Option Int) (n:Nat):(sliceBounds lo hi none n).1=((HT.sIx n 0 lo:Nat):Int)/\(sliceBounds lo hi none n).2.1=((HT.sIx n n hi:Nat):Int)/\(sliceBounds lo hi none n).2.2=1:=by
 refine⟨?_,?_,rfl⟩
 ·cases lo with
  | none=>simp [sliceBounds,HT.sIx]
  | some i=>
    simp only [sliceBounds,HT.sIx,Option.getD_none,show (1:Int) > 0 by decide,if_true]
    by_cases h:i<0
    ·simp only [h,if_true] <;> omega
    ·simp only [h,if_false] <;> omega
 ·cases hi with
  | none=>simp [sliceBounds,HT.sIx]
  | some i=>
    simp only [sliceBounds,HT.sIx,Option.getD_none,show (1:Int) > 0 by decide,if_true]
    by_cases h:i<0
    ·simp only [h,if_true] <;> omega
    ·simp only [h,if_false] <;> omega
theorem aj4 (its:List Value) (lo hi:Option Int):slicePick its.toArray lo hi none=((its.drop (HT.sIx its.length 0 lo)).take (HT.sIx its.length its.length hi - HT.sIx its.length 0 lo)).toArray:=by
 obtain⟨h1,h2,h3⟩:=ap8 lo hi its.toArray.size
 unfold slicePick
 rw [h1,h2,h3]
 simp only [sliceRange_one,pick_run,List.size_toArray] <;> rfl
noncomputable def bn1 (K:PySem.W.Frag):V->Option Int->Option Int->Hp->VK->Prop:=λx lo hi H Q=>∃a xs,x=.ref a/\SqL K H a xs/\∀p,H p=none->Q (.ref p) (upd H p (.lst (ap5 xs lo hi)))
theorem sl_list:SlR X (bn1 X.K):=by
 intro pins s σ H x v vl vu lo hi sl Q I rx hs pl pu h
 obtain⟨a,xs,rfl,hx,q⟩:=h
 cases rx
 obtain⟨its,r,ht,hz⟩:=I.list hx
 have hlen:=r.length
 refine⟨"list",_,slot_list_getitem.lookup,ht.isList.typeIs,?_⟩
 refine wpAny_getItem_list_slice ht.isList hs pl pu .none (by simp) ?_ (by rw [List.size_toArray] <;> omega)
 rw [aj4,←hlen]
 refine⟨.ref s.heap.objs.size,_,I.laid (t':=s.toks) (o:=.lst (ap5 xs lo hi)) (λb ob q=>Heap.get?_push_of_some _ q) (Nat.le_refl _) ?_,rfl,q _ (I.hok.fresh (Nat.le_refl _))⟩
 exact⟨Nat.le_trans (aa8 xs lo hi) hz,_,0,(r.drop (HT.sIx xs.length 0 lo)).take (HT.sIx xs.length xs.length hi - HT.sIx xs.length 0 lo),Heap.get?_push_size _ rfl⟩
noncomputable def aE5:V->Bool
 | .non=>true
 | .bl _=>true
 | .int _=>true
 | .str _=>true
 | _=>false
noncomputable def eqV:V->V->Bool
 | .non,.non=>true
 | .bl a,.bl b=>a == b
 | .bl a,.int b=>(if a then 1 else 0) == b
 | .int a,.bl b=>a == (if b then 1 else 0)
 | .int a,.int b=>a == b
 | .str a,.str b=>a == b
 | _,_=>false
theorem bb0 {A:Around} {s:Shared} {y x:V} {u v:Value} (ry:RelV y u) (rx:RelV x v) (fy:aE5 y=true) (fx:aE5 x=true):SeqAt.EqAt A s u v (eqV y x):=by
 cases y with
 | non=>
   cases ry
   cases x with
   | non=>cases rx;exact SeqAt.EqAt.same _
   | bl b=>cases rx;exact SeqAt.EqAt.none_bool b
   | int b=>obtain⟨t,rfl⟩:=rx;exact SeqAt.EqAt.none_int b t
   | str b=>obtain⟨t,rfl⟩:=rx;exact SeqAt.EqAt.none_str b t
   | _=>exact absurd (show false=true from fx) Bool.false_ne_true
 | bl a=>
   cases ry
   cases x with
   | non=>cases rx;exact SeqAt.EqAt.bool_none a
   | bl b=>cases rx;exact SeqAt.EqAt.bool_bool a b
   | int b=>obtain⟨t,rfl⟩:=rx;exact SeqAt.EqAt.bool_int a b t
   | str b=>obtain⟨t,rfl⟩:=rx;exact SeqAt.EqAt.bool_str a b t
   | _=>exact absurd (show false=true from fx) Bool.false_ne_true
 | int a=>
   obtain⟨t',rfl⟩:=ry
   cases x with
   | non=>cases rx;exact SeqAt.EqAt.int_none a t'
   | bl b=>cases rx;exact SeqAt.EqAt.int_bool a t' b
   | int b=>obtain⟨t,rfl⟩:=rx;exact SeqAt.EqAt.int_int a t' b t
   | str b=>obtain⟨t,rfl⟩:=rx;exact SeqAt.EqAt.int_str a t' b t
   | _=>exact absurd (show false=true from fx) Bool.false_ne_true
 | str a=>
   obtain⟨t',rfl⟩:=ry
   cases x with
   | non=>cases rx;exact SeqAt.EqAt.str_none a t'
   | bl b=>cases rx;exact SeqAt.EqAt.str_bool a t' b
   | int b=>obtain⟨t,rfl⟩:=rx;exact SeqAt.EqAt.str_int a t' b t
   | str b=>obtain⟨t,rfl⟩:=rx;exact SeqAt.EqAt.str_str a t' b t
   | _=>exact absurd (show false=true from fx) Bool.false_ne_true
 | _=>exact absurd (show false=true from fy) Bool.false_ne_true
theorem ap9:CallR X (.builtin "len") (λxs H Q=>∃p ys,xs=[.ref p]/\(SqL X.K H p ys\/SqT X.K H p ys)/\Q (.int ys.length) H):=by
 intro pins s σ H xs us Q I r h
 obtain⟨p,ys,rfl,hq,q⟩:=h
 obtain⟨u,rfl,rx⟩:=R8 r
 cases rx
 have hn:=ad6
 rcases hq with hq | hq
 ·obtain⟨its,r',pl,hz⟩:=I.list hq
  have hlen:=r'.length
  exact Calls.call_len_list pl.isList (by simp only [List.size_toArray] <;> omega) ⟨.int ys.length,H,I.tok _,⟨s.toks+1,by rw [List.size_toArray,hlen]⟩,q⟩
 ·obtain⟨its,r',pl,hz⟩:=I.tuple hq
  have hlen:=r'.length
  exact len_tuple pl (by simp only [List.size_toArray] <;> omega) ⟨.int ys.length,H,I.tok _,⟨s.toks+1,by rw [List.size_toArray,hlen]⟩,q⟩
theorem aq0:CallR X (.builtin "len") (λxs H Q=>∃z,xs=[.str z]/\z.length<=sizeLine/\Q (.int z.length) H):=by
 intro pins s σ H xs us Q I r h
 obtain⟨z,rfl,hz,q⟩:=h
 obtain⟨u,rfl,t,rfl⟩:=R8 r
 have hn:=ad6
 exact len_str (by omega) ⟨.int z.length,H,I.tok _,⟨_,rfl⟩,q⟩
theorem CallR.or {f:Value} {r r':List V->Hp->VK->Prop} (h:CallR X f r) (h':CallR X f r'):CallR X f (λxs H Q=>r xs H Q\/r' xs H Q):=by
 intro pins s σ H xs us Q I rs q
 rcases q with q | q
 ·exact h pins s σ H xs us Q I rs q
 ·exact h' pins s σ H xs us Q I rs q
theorem aq1:CallR X (.type "list") (λxs H Q=>∃p ys,xs=[.ref p]/\(SqL X.K H p ys\/SqT X.K H p ys)/\∀l,H l=none->Q (.ref l) (upd H l (.lst ys))):=by
 intro pins s σ H xs us Q I r h
 obtain⟨p,ys,rfl,hq,q⟩:=h
 obtain⟨u,rfl,rx⟩:=R8 r
 cases rx
 have fin:∀(its:List Value),Vals ys its->ys.length<=sizeLine->∀(h':Heap) (c':Nat),(∀b o',s.heap.get? b=some o'->h'.get? b=some o')->
  h'.get? s.heap.objs.size=some { cls:=.type "list",dict:=none,data:=.seq its.toArray c',slots:=#[] }->EP X pins σ Q (.ref s.heap.objs.size) { s with heap:=h' }:=λits r' hz h' c' kp e=>
  ⟨.ref s.heap.objs.size,_,I.laid (t':=s.toks) kp (Nat.le_refl _) (show ObjOk X.prog X.w _ h' _ (.lst ys) from ⟨hz,its,c',r',e⟩),rfl,q _ (I.hok.fresh (Nat.le_refl _))⟩
 rcases hq with hq | hq
 ·obtain⟨its,r',pl,hz⟩:=I.list hq
  have hlen:=r'.length
  obtain⟨o,ho,hc,n,hd⟩:=pl.isList
  exact call_list_seq p (.inl rfl) ho hc hd (λh' c' kp e=>fin its r' hz h' c' kp e) (by simp only [List.size_toArray] <;> omega)
 ·obtain⟨its,r',pl,hz⟩:=I.tuple hq
  have hlen:=r'.length
  obtain⟨o,ho,hc,n,hd⟩:=pl
  exact call_list_seq p (.inr rfl) ho hc hd (λh' c' kp e=>fin its r' hz h' c' kp e) (by simp only [List.size_toArray] <;> omega)
noncomputable def tyV (K:PySem.W.Frag) (T:String) (x:V) (H:Hp):Prop:=match x with
 | .str _=>T="str"
 | .int _=>T="int"
 | .ref p=>(T="list"/\∃xs,SqL K H p xs)\/(T="tuple"/\∃o,K.lookup p=some o/\o.cls=.type "tuple"/\o.dict=none)\/
  (T="dict"/\((∃kvs,H p=some (.dK kvs))\/∃kvs,H p=some (.dT kvs)))\/(T="set"/\∃S n,H p=some (.set S n))
 | _=>False
theorem bb1 {pins:List (Addr×Obj)} {σ:St} {H:Hp} {s:Shared} {T:String} {x:V} {v:Value} (I:Inv X pins σ H s) (r:RelV x v) (ty:tyV X.K T x H) :
 s.TypeIs v T/\∀a,v=.ref a->∃ob,s.heap.get? a=some ob/\ob.dict=none:=by
 cases x with
 | str z=>
   obtain⟨t,rfl⟩:=r
   cases (show T="str" from ty)
   exact⟨typeIs_str s z t,λ_ e=>nomatch e⟩
 | int i=>
   obtain⟨t,rfl⟩:=r
   cases (show T="int" from ty)
   exact⟨typeIs_int s i t,λ_ e=>nomatch e⟩
 | ref p=>
   cases r
   rcases ty with ⟨rfl,xs,hq⟩ | ⟨rfl,o,hk,hc,hd⟩ | ⟨rfl,hk⟩ | ⟨rfl,S,n,hk⟩
   ·obtain⟨its,_,pl,_⟩:=I.list hq
    refine⟨pl.isList.typeIs,λa e=>?_⟩
    cases e
    obtain⟨o,n,e,c,hd,_⟩:=pl
    exact⟨o,e,hd⟩
   ·refine⟨⟨o,I.kIn p o hk,hc⟩,λa e=>?_⟩
    cases e
    exact⟨o,I.kIn _ o hk,hd⟩
   ·have z:∃o,s.heap.get? p=some o/\o.ExactDict:=by
     rcases hk with ⟨kvs,hk⟩ | ⟨kvs,hk⟩
     ·obtain⟨_,_,_,_,o,_,_,e,ex,_⟩:=I.hok p _ hk
      exact⟨o,e,ex⟩
     ·obtain⟨_,_,_,_,o,_,_,e,ex,_⟩:=I.hok p _ hk
      exact⟨o,e,ex⟩
    obtain⟨o,e,ex⟩:=z
    refine⟨⟨o,e,ex.1⟩,λa e2=>?_⟩
    cases e2
    exact⟨o,e,ex.2.1⟩
   ·obtain⟨o,_,_,_,e,ex,_⟩:=I.hok p _ hk
    refine⟨⟨o,e,ex.1⟩,λa e2=>?_⟩
    cases e2
    exact⟨o,e,ex.2.1⟩
 | _=>exact False.elim ty
noncomputable def tBM (K:PySem.W.Frag) (T:String) (r:V->List V->Hp->VK->Prop) (to:TE) (t:TA):TE:=λσ H Q=>to σ H λx H1=>tyV K T x H1/\t σ H1 λxs H2=>r x xs H2 Q
variable {o e:Expr} {es:List Expr} {to:TE} {t:TA} {name:Str} {apos cpos:Pos} {T id:String} {r:V->List V->Hp->VK->Prop}
theorem aP2 (pa:PlainAttrs T) (slot:Slot T name id) (hty:typeOf (.builtin id)=pure (.type "method_descriptor")) (hm:MtR X id r) (ho:PE X o to) (ha:PA X (e::es) t)
 (hbase:attributeBase o name X.env (eval o X.env)=eval o X.env:=by rfl)
 (hfew:((backTo cpos (starEach (e::es) X.env)).all (λx=>!x.1)&&(backToKw cpos (keywordEach [] X.env)).all (λx=>x.1.isSome)
  &&decide ((e::es).length+([]:List Keyword).length+(if ([]:List Keyword).isEmpty then 0 else 1)<30))=true:=by rfl)
 (hline:(apos.endLine == cpos.line)=true:=by rfl) (hs:starEach (e::es) X.env=(false,eval e X.env)::starEach es X.env:=by rfl) (hplain:(backTo cpos (starEach es X.env)).any (·.1)=false:=by rfl) :
 PE X (.Call (.Attribute o name apos) (e::es) [] cpos) (tBM X.K T r to t):=by
 intro pins s σ H Q I h
 refine wpAny_Call_method_late hbase hfew hline rfl (thn (ho pins s σ H _ I h) λv s1 ⟨x,H1,I1,r1,ty,q1⟩=>?_)
 obtain⟨h1,h2⟩:=bb1 I1 r1 ty
 refine⟨T,id,pa,slot,hty,h1,h2,?_⟩
 have hA:=ha cpos pins s1 σ H1 _ I1 q1
 rw [hs] at hA ⊢
 refine Calls.callWith_builtin (by show (false||(backTo cpos (starEach es X.env)).any (·.1))=false;rw [hplain] <;> rfl) (Calls.evalArgs_plain ?_)
 exact thn hA λus s2 ⟨vs,H2,I2,r2,q2⟩=>hm pins s2 σ H2 x vs v us Q I2 r1 r2 q2
/- xs.append(e),list.index on a module's tuple .. are MtR facts of 06m -/
end
end L2
namespace L2
open PySem PySem.Spec PyProof.Rows
noncomputable def MtM (X:Cx) (id:String) (r:V->List V->Hp->VK->Prop):Prop:=
 ∀(pins:List (Addr×Obj)) (s:Shared) (σ:St) (H:Hp) (x:V) (xs:List V) (v:Value) (us:List Value) (Q:VK),Inv X pins σ H s->RelV x v->Vals xs us->r x xs H Q->
  wpAny (model X.prog X.w) X.A (call (.builtin id) (v::us)) (EP X pins σ Q) X.xe s
theorem Vals.one:∀{x:V} {us:List Value},Vals [x] us->∃u,us=[u]/\RelV x u
 | _,_,.cons r .nil=>⟨_,rfl,r⟩
section
variable {X:Cx} {pins:List (Addr×Obj)} {σ:St} {H:Hp} {s:Shared} {l b:Addr} {xs ys zs:List V}
theorem Inv.lset {its its':List Value} {n:Nat} {f:Array Value->Array Value} {t':Nat} (I:Inv X pins σ H s) (hH:H l=some (.lst xs))
 (e:s.heap.get? l=some { cls:=.type "list",data:=.seq its.toArray n }) (hf:f its.toArray=its'.toArray) (hv:Vals ys its') (hz:ys.length<=sizeLine) :
 Inv X pins σ (upd H l (.lst ys)) { s with heap:=s.heap.update l (Obj.mapSeq f),toks:=t' }:=by
 have q:=PySem.IsL.update e f
 rw [hf] at q
 refine I.write (x:=l) (e:=l) (by rw [hH];exact trivial) (.inl rfl) (λb' u hb hu=>(Heap.get?_update_other s.heap (Obj.mapSeq f) (Ne.symm hb)).trans hu) ⟨_,q⟩ ?_
 exact⟨hz,its',_,hv,q⟩
theorem Inv.lnew {its:List Value} {t':Nat} (I:Inv X pins σ H s) (hv:Vals ys its) (hz:ys.length<=sizeLine) :
 Inv X pins σ (upd H s.heap.objs.size (.lst ys)) { s with heap:=s.heap.push { cls:=.type "list",data:=.seq its.toArray },toks:=t' }:=
 I.laid (λ_ _ q=>Heap.get?_push_of_some _ q) (Nat.le_refl _) ⟨hz,its,0,hv,Heap.get?_push_size _ rfl⟩
theorem Inv.fresh (I:Inv X pins σ H s):H s.heap.objs.size=none:=I.hok.fresh (Nat.le_refl _)
theorem Inv.lstM (I:Inv X pins σ H s) (hH:H l=some (.lst xs)):xs.length<=sizeLine/\∃(its:List Value) (n:Nat),Vals xs its/\xs.length=its.length/\s.heap.get? l=some { cls:=.type "list",data:=.seq its.toArray n }:=by
 obtain⟨z,its,n,r,e⟩:=I.hok l _ hH
 exact⟨z,its,n,r,r.length,e⟩
end
section
variable {X:Cx}
noncomputable def rAppend:V->List V->Hp->VK->Prop:=λx vs H Q=>∃l xs y,x=.ref l/\vs=[y]/\H l=some (.lst xs)/\xs.length<sizeLine/\Q .non (upd H l (.lst (xs++[y])))
theorem aJ8:MtM X "list.append" rAppend:=by
 intro pins s σ H x vs v us Q I rx rv h
 obtain⟨l,xs,y,rfl,rfl,hH,hz,q⟩:=h
 cases rx
 obtain⟨u,rfl,ru⟩:=rv.one
 obtain⟨z,its,n,r,hl,e⟩:=I.lstM hH
 refine call_meets F.slot_list_append ⟨_,e,rfl⟩ F.entry_list_append (F.args_list_append_2 _ _) (PySem.list_append l its.toArray n u (by rw [List.size_toArray];omega)) ⟨e,?_⟩
 refine⟨.non,_,I.lset (its':=its++[u]) hH e (by simp) (r.append (.cons ru .nil)) ?_,rfl,q⟩
 rw [List.length_append,List.length_singleton]
 omega
noncomputable def rCat:R2:=λx y H Q=>∃l b xs zs,x=.ref l/\y=.ref b/\H l=some (.lst xs)/\H b=some (.lst zs)/\xs.length+zs.length<=sizeLine/\∀p,H p=none->Q (.ref p) (upd H p (.lst (xs++zs)))
theorem bb2:OpR X (binaryOp .Add) rCat:=by
 intro pins s σ H x y v u Q I rx ry h
 obtain⟨l,b,xs,zs,rfl,rfl,hH,hB,hz,q⟩:=h
 cases rx
 cases ry
 obtain⟨z,its,n,r,hl,e⟩:=I.lstM hH
 obtain⟨z2,its2,n2,r2,hl2,e2⟩:=I.lstM hB
 refine PySem.P.add_list e e2 ?_ (by rw [List.size_toArray,List.size_toArray];omega)
 have ea:its.toArray++its2.toArray=(its++its2).toArray:=by simp
 rw [ea]
 exact⟨.ref _,_,I.lnew (t':=s.toks) (r.append r2) (by rw [List.length_append];omega),rfl,q _ I.fresh⟩
end
end L2
namespace Att
open PySem PySem.W PySem.Calls PyProof.Rows
theorem ac0 {P:Params} {h:Heap}:∀(ns:List Int) (vs:List Value),WellAll P h vs (ns.map WData.int)->IntsAre vs ns:=by
 intro ns
 induction ns with
 | nil=>
   intro vs w
   rw [List.map_nil] at w
   cases w
   exact .nil
 | cons n ns ih=>
   intro vs w
   rw [List.map_cons] at w
   cases w with
   | cons a b=>
     cases a
     exact .cons _ _ (ih _ b)
theorem aJ9 {l:OpenLaw} {n:Nat} (hn:l.most=some n) {P:Params} {h:Heap} {args:List WData} {vals:List Value}
 (hpre:l.row.toRowW.claim.pre args=true) (hwl:WellAll P h vals args) :
 ∃a vs ns,vals=[Value.ref a]/\args=[WData.list (ns.map WData.int)]/\h.get? a=some { cls:=.type "list",data:=.seq vs.toArray }/\IntsAre vs ns/\ns.length<=n:=by
 have hsh:WShape.hasAll [] args [.list .int]=true:=(pre_splitW hpre).1
 have hc:l.pre.holds [] { args:=args }=true:=(pre_splitW hpre).2
 obtain⟨d,r,rfl,h1,h2⟩:=hasAllW_cons hsh
 obtain rfl:=hasAllW_nil h2
 obtain⟨xs,rfl,h3⟩:=hasW_list h1
 obtain⟨ns,rfl⟩:=items_int h3
 have hlen:ns.length<=n:=by
  unfold OpenLaw.pre at hc
  have h4:(WTm.not (.lt (.lit (.int (n:Int))) (.len (.arg 0)))).holds [] { args:=[.list (ns.map .int)] }=true:=by
   have h4:=(holds_andW hc).1
   rw [hn] at h4
   exact h4
  have h5:=condW_of h4 (w_not (w_lt w_lit (w_len_list (w_arg rfl))))
  rw [List.length_map] at h5
  refine Nat.le_of_not_lt λq=>?_
  have q':(n:Int)<((ns.length:Nat):Int):=by omega
  first
   | (rw [decide_eq_true q'] at h5;exact absurd h5 (by decide))
   | (simp at h5;omega)
 cases hwl with
 | cons w1 w2=>
   cases w2
   cases w1 with
   | list ho hall=>exact⟨_,_,ns,rfl,rfl,ho,ac0 ns _ hall,hlen⟩
theorem aK0 (l:OpenLaw) (args:List WData):l.row.toRowW.claim.post args (.bool true) args=true:=
 postW_of (r:=l.row.toRowW) (X:=(true == true))
  (show WShape.has [] (.bool true) .bool=true by first | rfl | decide | simp [WShape.has,WShape.arms,WShape.armsAll])
  (show (WTm.eq .res (.lit (.bool true))).value [] { args:=args,res:=some (.bool true),after:=args }=some (.bool (true == true)) from w_eq_bool (w_res rfl) w_lit) rfl
theorem au3 {l:OpenLaw} {n:Nat} {q:Program} {loose:List Str} {XP:(Str->Option Value)->Heap->Prop} {YP:World->Heap->Prop} {d:DefRec}
 (hn:l.most=some n) (hdf:d.params.defaults=[])
 (call:∀(w:World) (s₀ s₁:Shared) (mg mb:Str->Option Value) (fa:Addr) (o:Obj) (pm cd doc:Value) (a:Addr) (vs:List Value) (ns:List Int),
  Ground q loose [] XP w s₀ mg mb s₁.heap->YP w s₁.heap->
  s₁.heap.get? fa=some o->o.data=.func (docDef d.name d.params d.body d.scope pm cd doc)->s₁.heap.CodeRec cd d.name->mg d.name=some (.ref fa)->
  s₁.heap.get? a=some { cls:=.type "list",data:=.seq vs.toArray }->IntsAre vs ns->ns.length<=n->s₁.gens=#[]->
  codeAny (model l.prog w) callerA (.call (.ref fa) ⟨[.ref a],[]⟩) (λr s'=>r=.ok (.ret (.bool true))/\OldK s₁.heap s'.heap/\s'.os=s₁.os/\AllBare s'.gens) s₁) :
 WalkO q loose XP YP l.row.toRowW d [] (λf vs=>PySem.call f vs):=by
 intro w s₀ s₁ mg mb G Y fa o pm cd doc dV kV ho hd hcd hD hmg hg args vals as hpre hlay hrd hwl hlo
 obtain rfl:dV=.none:=Dflts.none hD hdf
 obtain rfl:kV=.none:=Dflts.noKw hD
 obtain⟨a,vs,ns,rfl,rfl,hobj,hints,hlen⟩:=aJ9 hn hpre hwl
 refine enter_call (codeAny_mono (call w s₀ s₁ mg mb fa o pm cd doc a vs ns G Y ho (fd_plain hd) hcd hmg hobj hints hlen hg) λr s' hq=>?_)
 obtain⟨rfl,h2,h3,h4⟩:=hq
 exact⟨.inl ⟨.bool true,.bool true,[],rfl,λ_=>rfl,.bool true,aK0 l _,λ_=>⟨List.Pairwise.nil,λ_ hm=>(nomatch hm)⟩⟩,h2,h3,h4⟩
end Att
namespace L2
open PySem PySem.Spec PyProof.Rows
theorem x9:∀{vs:List Value} {ns:List Int},IntsAre vs ns->Vals (ns.map V.int) vs
 | _,_,.nil=>.nil
 | _,_,.cons n t h=>.cons ⟨t,rfl⟩ (x9 h)
noncomputable def bb3 (H:Hp):Prop:=∀b,H b=none\/∃o xs,H b=some (.frz o (.lst xs))
theorem aP3 {P:Program} {w:World} {K:PySem.W.Frag} {mg mb:Str->Option Value} {CX:CXT} {k:Nat} {fa a:Addr} {fd:FuncData} {x:Str} {sp:Sp} {s₁:Shared} {vs:List Value} {ns:List Int}
 (KX:K.In s₁.heap) (hns:s₁.heap.Ns mainGlobals mg) (hb:s₁.heap.Ns builtinsNs mb) (hbb:∀x:Str,x≠"__name__"->mb x=bootBuiltins x) (hlim:s₁.heap.NoLimit) (hg:s₁.gens=#[])
 (ha:s₁.heap.get? a=some { cls:=.type "list",data:=.seq vs.toArray }) (hi:IntsAre vs ns) (hl:ns.length<=sizeLine) (hr:Room k callerA)
 (F:∀base:Heap,K.In base->base.Ns mainGlobals mg->FnOk P w K mg base CX k fa fd [x] sp) (hbind:∀(s:Shared) (u:Value),BindsTo s fd ⟨[u],[]⟩ [(x,u)])
 (hsp:∀H:Hp,bb3 H->SqL K H a (ns.map V.int)->sp [.ref a] H (λv _=>v=.bl true) λ_ _ _=>False)
 (hCX:∀H e s',CX [] H s₁ (λ_ _ _=>False) e s'->False) :
 codeAny (model P w) callerA (.call (.ref fa) ⟨[.ref a],[]⟩) (λr s'=>r=.ok (.ret (.bool true))/\OldK s₁.heap s'.heap/\s'.os=s₁.os/\AllBare s'.gens) s₁:=by
 have rv:=x9 hi
 have lenV:=hi.length
 have core:∀H:Hp,bb3 H->SqL K H a (ns.map V.int)->HOk P w H s₁.heap->(∀b,H b≠none->b=a)->(H a≠none->K.lookup a=none)->
  codeAny (model P w) callerA (.call (.ref fa) ⟨[.ref a],[]⟩) (λr s'=>r=.ok (.ret (.bool true))/\OldK s₁.heap s'.heap/\s'.os=s₁.os/\AllBare s'.gens) s₁:=by
  intro H hO hS hok hA hK
  have base_of:∀{b:Addr} {o:Obj},s₁.heap.get? b=some o->H b=none->(ao7 s₁.heap H).get? b=some o:=λe n=>aN5 e n
  have noA:∀{b:Addr} {o:Obj} {es:Array DictEntry} {ep:Nat},s₁.heap.get? b=some o->o.data=.dict es ep->H b=none:=λ{b o es ep} e d=>by
   cases q:H b with
   | none=>rfl
   | some u=>
     have e':b=a:=hA b (by rw [q];simp)
     subst e'
     rw [ha] at e;cases e
     have d':Data.seq vs.toArray _=Data.dict es ep:=d
     cases d'
  have nsK:∀{b:Addr} {m:Str->Option Value},s₁.heap.Ns b m->(ao7 s₁.heap H).Ns b m:=λ{b m} ⟨o,es,ep,e,d,r⟩=>⟨o,es,ep,base_of e (noA e d),d,r⟩
  have hKb:K.In (ao7 s₁.heap H):=λb o e=>base_of (KX b o e) (by
   cases q:H b with
   | none=>rfl
   | some u=>
     have e':b=a:=hA b (by rw [q];simp)
     subst e'
     rw [hK (by rw [q];simp)] at e;cases e)
  have hM:Mod K mg (ao7 s₁.heap H):=⟨hKb,nsK hns,⟨mb,nsK hb,hbb⟩,let ⟨mc,h1,h2⟩:=hlim;⟨mc,nsK h1,h2⟩⟩
  have e0:Env0 P w K mg (ao7 s₁.heap H) callerA [] s₁ H:=⟨rfl,hM,λb o e=>aW6 e,Nat.le_of_eq (aJ0 _ _),trivial,λb hb=>absurd (show b∈([]:List Addr) from hb) (by simp),hok,.of_eq hg⟩
  refine codeAny_mono ((F _ hKb (nsK hns)).run callerA [] s₁ H ⟨[.ref a],[]⟩ [.ref a] [.ref a] _ _ hr e0 (hbind s₁ (.ref a)) (.cons rfl .nil) (hsp H hO hS)) λr s' h=>?_
  cases r with
  | error e=>exact (hCX H e s' h).elim
  | ok fl=>
    cases fl with
    | next=>exact False.elim h
    | brk=>exact False.elim h
    | cont=>exact False.elim h
    | ret u=>
      obtain⟨v,H',os,bare,un,hok',r',q⟩:=h
      have q':v=.bl true:=q
      subst q'
      obtain rfl:u=Value.bool true:=r'
      refine⟨rfl,OldK.of_keep λb o e=>?_,os,bare⟩
      cases q:H b with
      | none=>exact un.keep b o e q (by intro z;exact absurd (show b∈([]:List Addr) from z) (by simp)) (by simp)
      | some u=>
        rcases hO b with z | ⟨ob,xs,z⟩
        ·rw [q] at z;cases z
        ·have z2:=un.frzs b ob _ z
         obtain⟨e1,_⟩:=hok b _ z
         obtain⟨e2,_⟩:=hok' b _ z2
         rw [e] at e1;cases e1
         exact e2
 cases hk:K.lookup a with
 | some o=>
   have e:=KX a o hk
   rw [ha] at e
   cases e
   refine core (λ_=>none) (λ_=>.inl rfl) (.inr ⟨_,vs.toArray,_,hk,rfl,rfl,rfl,by rw [List.size_toArray,lenV];exact hl,by simpa using rv⟩) (λb u z=>by have z':(none:Option HO)=some u:=z;cases z') (λb z=>absurd rfl z) λz=>absurd rfl z
 | none=>
   refine core (λb=>if b=a then some (.frz { cls:=.type "list",data:=.seq vs.toArray } (.lst (ns.map V.int))) else none) (λb=>?_) (.inl (.inr ⟨{ cls:=.type "list",data:=.seq vs.toArray },if_pos rfl⟩)) (λb u z=>?_) (λb z=>?_) λ_=>hk
   ·by_cases hb:b=a
    ·exact .inr ⟨_,_,if_pos hb⟩
    ·exact .inl (if_neg hb)
   ·by_cases hb:b=a
    ·have z':=(if_pos hb).symm.trans z
     cases z'
     subst hb
     exact⟨ha,by rw [List.length_map];exact hl,vs,_,rv,ha⟩
    ·have z':=(if_neg hb).symm.trans z
     cases z'
   ·by_cases hb:b=a
    ·exact hb
    ·exact absurd (if_neg hb) z
end L2
namespace L2
open PySem PySem.Spec PyProof.Rows
end L2
namespace L2
open PySem PySem.Spec PyProof.Rows
noncomputable def E6 (s:Stmt) (j:Nat):Stmt:=match s with
 | .ClassDef _ _ _ body _ _ _ _ _ _ _=>body.getD j (.Pass ⟨0,0,0,0⟩)
 | _=>.Pass ⟨0,0,0,0⟩
noncomputable def C4 (s:Stmt):Arguments:=match s with
 | .FunctionDef _ a _ _ _ _ _ _ _ _=>a
 | _=>{ posonlyargs:=[],args:=[],vararg:=none,kwonlyargs:=[],kw_defaults:=[],kwarg:=none,defaults:=[] }
noncomputable def C2 (s:Stmt):List Stmt:=match s with
 | .FunctionDef _ _ b _ _ _ _ _ _ _=>b
 | _=>[]
noncomputable def B9 (s:Stmt):Scope:=match s with
 | .FunctionDef _ _ _ _ _ _ sc _ _ _=>sc
 | _=>{ kind:=.function,names:=[],isGenerator:=false,isCoroutine:=false }
noncomputable abbrev CX0:CXT:=λ_ _ _ _ _ _=>False
noncomputable abbrev E0:XK:=λ_ _ _=>False
theorem aP4 {X:Cx}:w8 CX0 X E0:=λ_ _ _ _ _ _ _ h=>h.elim
structure Fun (K:PySem.W.Frag) (x qual:Str) (st:Stmt) (f:Addr) (fd:FuncData):Prop where
 ex:∃(oc:Value) (od:Option Addr) (kV doc pm:Value) (an:Option Addr) (cdv ct:Value) (osl:Array (Option Value)),
  fd=PySem.W.fnOf x qual (C4 st) (C2 st) (B9 st) .none kV doc pm an cdv ct/\K.lookup f=some ⟨oc,od,.func fd,osl⟩/\PySem.W.codeIn K cdv qual=true
 kp:PySem.W.keepIn K (.ref f)=true
section
variable {P:Program} {w:World} {K:PySem.W.Frag} {mg:Str->Option Value} {base:Heap}
theorem Fun.ok {x qual:Str} {st:Stmt} {f:Addr} {fd:FuncData} {N ps:List Str} {k:Nat} {sp:Sp} (F:Fun K x qual st f fd) (S:D5 N ps (B9 st)) (len:∀vs H Q E,sp vs H Q E->vs.length=ps.length)
 (hbody:∀(cdv:Value) (A:Around) (outer:List Env) (s:Shared) (H:Hp) (vs:List V) (Q:VK) (E:XK),Room k (A.deeper (envOfC qual (B9 st) s.heap.objs.size f cdv))->sp vs H Q E->
  ∃t,PSs (aA5 CX0 P w K mg base N qual (B9 st) f cdv A outer s H E).nox (C2 st) t/\t { nx:=λ_ H'=>Q .non H',rt:=Q } (start N vs) H):FnOk P w K mg base CX0 (k+1) f fd ps sp:=by
 obtain⟨oc,od,kV,doc,pm,an,cdv,ct,osl,rfl,lk,hcd⟩:=F.ex
 refine bi6 lk hcd S len λA outer s H vs Q E hr hsp=>?_
 obtain⟨t,h,q⟩:=hbody cdv A outer s H vs Q E hr hsp
 exact⟨t,h.nox,q⟩
theorem Fun.binds {x qual:Str} {st:Stmt} {f:Addr} {fd:FuncData} {ps:List Str} (F:Fun K x qual st f fd)
 (h:∀(kV doc pm:Value) (an:Option Addr) (cdv ct:Value) (us:List Value),us.length=ps.length->bindArgs (PySem.W.fnOf x qual (C4 st) (C2 st) (B9 st) .none kV doc pm an cdv ct) ⟨us,[]⟩=pure (ps.zip us)):Binds K fd ps []:=by
 obtain⟨oc,od,kV,doc,pm,an,cdv,ct,osl,rfl,lk,hcd⟩:=F.ex
 exact .all (h kV doc pm an cdv ct)
theorem G4 {x qual:Str} {st:Stmt} {f:Addr} {oc:Value} {od an:Option Addr} {osl:Array (Option Value)} {kV doc pm cdv ct:Value} (l:K.lookup f=some ⟨oc,od,.func (PySem.W.fnOf x qual (C4 st) (C2 st) (B9 st) .none kV doc pm an cdv ct),osl⟩)
 (c:PySem.W.codeIn K cdv qual=true) (k:PySem.W.keepIn K (.ref f)=true):Fun K x qual st f (PySem.W.fnOf x qual (C4 st) (C2 st) (B9 st) .none kV doc pm an cdv ct):=⟨⟨oc,od,kV,doc,pm,an,cdv,ct,osl,rfl,l,c⟩,k⟩
end
section
variable {X:Cx}
theorem pv (i:Nat) {x:Str} {pos:Pos} (hN:X.N[i]?=some x:=by rfl) (hv:Vis X.env.scope x:=by first | exact Or.inl rfl | exact Or.inr (Or.inl rfl) | exact Or.inr (Or.inr rfl)) (hd:(x == ("__debug__" : Str))=false:=by decide)
 (hcd:(x == ("__classdict__" : Str))=false:=by decide):PE X (.Name x pos) (a78 i):=a79 hN hv hd hcd
end
end L2
namespace L2
open PySem PySem.Spec PyProof.Rows
section
variable {κ:Type} [DecidableEq κ]
noncomputable def o8 (kvs:List (κ×V)) (k:κ):Option V:=(kvs.find? λkv=>decide (kv.1=k)).map (·.2)
noncomputable def m6 (kvs:List (κ×V)) (k:κ) (v:V):List (κ×V):=
 if (kvs.any λkv=>decide (kv.1=k))=true then kvs.map (λkv=>if kv.1=k then (kv.1,v) else kv) else kvs++[(k,v)]
theorem o9 {p:κ×V} {r:List (κ×V)} {k:κ} (e:p.1=k):o8 (p::r) k=some p.2:=by simp [o8,List.find?_cons,e]
theorem q8 {p:κ×V} {r:List (κ×V)} {k:κ} (e:¬p.1=k):o8 (p::r) k=o8 r k:=by simp [o8,List.find?_cons,e]
theorem ad9 (k:κ):∀kvs:List (κ×V),(kvs.any λkv=>decide (kv.1=k))=(o8 kvs k).isSome
 | []=>rfl
 | p::r=>by
   rw [List.any_cons]
   by_cases e:p.1=k
   ·simp only [o9 e,decide_eq_true e,Bool.true_or,Option.isSome_some]
   ·rw [q8 e,decide_eq_false e,Bool.false_or];exact ad9 k r
theorem aa9 (kvs:List (κ×V)) (k:κ) (v:V):(m6 kvs k v).length<=kvs.length+1:=by
 unfold m6
 split
 ·rw [List.length_map];omega
 ·rw [List.length_append,List.length_cons,List.length_nil];omega
theorem RelO.isSome_eq {o:Option V} {u:Option Value} (r:RelO o u):o.isSome=u.isSome:=by
 cases o with
 | none=>cases u with
   | none=>rfl
   | some _=>exact (show False from r).elim
 | some _=>cases u with
   | none=>exact (show False from r).elim
   | some _=>rfl
theorem RelO.getD {o:Option V} {u:Option Value} {d:V} {d':Value} (r:RelO o u) (rd:RelV d d'):RelV (o.getD d) (u.getD d'):=by
 cases o with
 | none=>cases u with
   | none=>exact rd
   | some _=>exact (show False from r).elim
 | some _=>cases u with
   | none=>exact (show False from r).elim
   | some _=>exact r
theorem KV.val {kvs:List (κ×V)} {vs:List (κ×Value)} (r:KV kvs vs) (k:κ):RelO (o8 kvs k) (valueAt vs k):=by
 unfold KV at r
 induction r with
 | nil=>exact True.intro
 | @cons p q ps qs h t ih=>
   obtain⟨h1,h2⟩:=h
   by_cases e:p.1=k
   ·have e':q.1=k:=h1.symm.trans e
    have b:valueAt (q::qs) k=some q.2:=by simp [valueAt,List.find?_cons,e']
    rw [o9 e,b];exact h2
   ·have e':¬q.1=k:=λz=>e (h1.trans z)
    have b:valueAt (q::qs) k=valueAt qs k:=by simp [valueAt,List.find?_cons,e']
    rw [q8 e,b];exact ih
theorem KV.any {kvs:List (κ×V)} {vs:List (κ×Value)} (r:KV kvs vs) (k:κ):(kvs.any λkv=>decide (kv.1=k))=vs.any λkv=>decide (kv.1=k):=by
 unfold KV at r
 induction r with
 | nil=>rfl
 | cons h t ih=>rw [List.any_cons,List.any_cons,ih,h.1]
theorem KV.repl {kvs:List (κ×V)} {vs:List (κ×Value)} (r:KV kvs vs) (k:κ) {y:V} {u:Value} (ry:RelV y u) :
 KV (kvs.map λkv=>if kv.1=k then (kv.1,y) else kv) (vs.map λkv=>if kv.1=k then (kv.1,u) else kv):=by
 unfold KV at r ⊢
 induction r with
 | nil=>exact .nil
 | @cons p q ps qs h t ih=>
   rw [List.map_cons,List.map_cons]
   refine .cons ?_ ih
   obtain⟨h1,h2⟩:=h
   by_cases e:p.1=k
   ·rw [if_pos e,if_pos (h1.symm.trans e)];exact⟨h1,ry⟩
   ·rw [if_neg e,if_neg (λz=>e (h1.trans z))];exact⟨h1,h2⟩
theorem KV.put {kvs:List (κ×V)} {vs:List (κ×Value)} (r:KV kvs vs) (k:κ) {y:V} {u:Value} (ry:RelV y u):KV (m6 kvs k y) (stored vs k u):=by
 unfold m6 stored
 rw [r.any k]
 by_cases e:(vs.any λkv=>decide (kv.1=k))=true
 ·rw [if_pos e,if_pos e];exact r.repl k ry
 ·rw [if_neg e,if_neg e];exact Paired.snoc r ⟨rfl,ry⟩
theorem KV.length {kvs:List (κ×V)} {vs:List (κ×Value)} (r:KV kvs vs):kvs.length=vs.length:=Paired.length r
end
theorem aE6 {P:Program} {w:World} {k:Key} {u:Value} (r:RelV (kV k) u):(J6 P w).is k u=true:=by
 cases k with
 | inl i=>obtain⟨t,e⟩:=(show ∃t,u=Value.int i t from r);subst e;exact at7 P w i t
 | inr x=>obtain⟨t,e⟩:=(show ∃t,u=Value.str x t from r);subst e;exact at8 P w x t
theorem al2 {P:Program} {w:World}:∀{ks:List Key} {us:List Value},Vals (ks.map kV) us->ItemsAre (J6 P w) ks us
 | [],_,r=>by rw [List.map_nil] at r;cases r;exact .nil
 | k::ks,_,r=>by
   rw [List.map_cons] at r
   cases r with
   | cons h t=>exact .cons (aE6 h) (al2 t)
noncomputable abbrev KT (H:Hp):List (List Key×V)->List (List Key×Addr×Value)->Prop:=Paired λp q=>p.1=q.1/\H q.2.1=some (.tup (p.1.map kV))/\RelV p.2 q.2.2
theorem KT.val {H:Hp} {kvs:List (List Key×V)} {xs:List (List Key×Addr×Value)} (r:KT H kvs xs) (k:List Key):RelO (o8 kvs k) ((atKey xs k).map (·.2)):=by
 induction r with
 | nil=>exact True.intro
 | @cons p q ps qs h t ih=>
   obtain⟨h1,_,h2⟩:=h
   by_cases e:p.1=k
   ·have e':q.1=k:=h1.symm.trans e
    have b:atKey (q::qs) k=some q.2:=by simp [atKey,List.find?_cons,e']
    rw [o9 e,b];exact h2
   ·have e':¬q.1=k:=λz=>e (h1.trans z)
    have b:atKey (q::qs) k=atKey qs k:=by simp [atKey,List.find?_cons,e']
    rw [q8 e,b];exact ih
theorem KT.repl {H:Hp} {kvs:List (List Key×V)} {xs:List (List Key×Addr×Value)} (r:KT H kvs xs) (k:List Key) {y:V} {u:Value} (ry:RelV y u) :
 KT H (kvs.map λkv=>if kv.1=k then (kv.1,y) else kv) (xs.map (putAt k u)):=by
 induction r with
 | nil=>exact .nil
 | @cons p q ps qs h t ih=>
   rw [List.map_cons,List.map_cons]
   refine .cons ?_ ih
   obtain⟨h1,h2,h3⟩:=h
   unfold putAt
   by_cases e:p.1=k
   ·rw [if_pos e,if_pos (h1.symm.trans e)];exact⟨h1,h2,ry⟩
   ·rw [if_neg e,if_neg (λz=>e (h1.trans z))];exact⟨h1,h2,h3⟩
theorem KT.put {H:Hp} {kvs:List (List Key×V)} {xs:List (List Key×Addr×Value)} (r:KT H kvs xs) (k:List Key) {b:Addr} {y:V} {u:Value} (hb:H b=some (.tup (k.map kV))) (ry:RelV y u) :
 KT H (m6 kvs k y) (storedH xs k b u):=by
 have e:(kvs.any λkv=>decide (kv.1=k))=(atKey xs k).isSome:=by
  rw [ad9,(r.val k).isSome_eq,Option.isSome_map]
 unfold m6 storedH
 rw [e]
 by_cases q:(atKey xs k).isSome=true
 ·rw [if_pos q,if_pos q];exact r.repl k ry
 ·rw [if_neg q,if_neg q];exact Paired.snoc r ⟨rfl,hb,ry⟩
theorem KT.keeps {H H':Hp} {kvs:List (List Key×V)} {xs:List (List Key×Addr×Value)} (r:KT H kvs xs) (ht:∀b ys,H b=some (.tup ys)->H' b=some (.tup ys)):KT H' kvs xs:=
 Paired.mapP r λ_ _ z=>⟨z.1,ht _ _ z.2.1,z.2.2⟩
section
variable {P:Program} {w:World} {H:Hp} {h:Heap} {a:Addr}
theorem a61 {u:HO} (ok:HOk P w H h) (e:Rd H a u):ObjOk P w H h a u:=e.ok ok
theorem au4 {kvs:List (Key×V)} (ok:HOk P w H h) (e:Rd H a (.dK kvs)):kvs.length<=sizeLine/\(a == sysModules)=false/\∃vs,KV kvs vs/\h.DictOf (J6 P w) a vs:=
 show ObjOk P w H h a (.dK kvs) from a61 ok e
theorem bj0 {kvs:List (Key×V)} (ok:HOk P w H h) (e:H a=some (.dK kvs)):kvs.length<=sizeLine/\(a == sysModules)=false/\∃vs,KV kvs vs/\h.DictOf (J6 P w) a vs:=au4 ok (.inl e)
theorem aq2 {ks:List Key} (ok:HOk P w H h) (e:H a=some (.tup (ks.map kV))):(tupleKind (J6 P w)).is h ks a:=by
 obtain⟨_,its,r,o,h1,h2,n,h3⟩:=(show ObjOk P w H h a (.tup (ks.map kV)) from ok a _ e)
 exact⟨o,its.toArray,n,h1,h2,h3,by simpa using al2 r⟩
theorem au5 {kvs:List (List Key×V)} (ok:HOk P w H h) (e:Rd H a (.dT kvs)):kvs.length<=sizeLine/\(a == sysModules)=false/\
 ∃xs,KT H kvs xs/\h.DictOfH (tupleKind (J6 P w)) a xs:=by
 obtain⟨z,y,xs,r,o,es,ep,h1,h2,h3,h4,h5⟩:=(show ObjOk P w H h a (.dT kvs) from a61 ok e)
 refine⟨z,y,xs,r,o,es,ep,h1,h2,h3,h4,λx hx=>?_,h5⟩
 have all:∀{l:List (List Key×V)} {m:List (List Key×Addr×Value)},KT H l m->∀x∈m,(tupleKind (J6 P w)).is h x.1 x.2.1:=by
  intro l m q
  induction q with
  | nil=>intro x hx;exact nomatch hx
  | @cons p q ps qs hq t ih=>
    intro x hx
    rcases List.mem_cons.mp hx with e | hx
    ·subst e
     exact aq2 ok (by rw [←hq.1];exact hq.2.1)
    ·exact ih x hx
 exact all r x hx
theorem au6 {kvs:List (List Key×V)} (ok:HOk P w H h) (e:H a=some (.dT kvs)):kvs.length<=sizeLine/\(a == sysModules)=false/\
 ∃xs,KT H kvs xs/\h.DictOfH (tupleKind (J6 P w)) a xs:=au5 ok (.inl e)
end
noncomputable def DGet (H:Hp) (a:Addr) (y:V) (r:Option V):Prop:=
 (∃kvs k,Rd H a (.dK kvs)/\y=kV k/\r=o8 kvs k)\/∃kvs k b,Rd H a (.dT kvs)/\y=.ref b/\H b=some (.tup (k.map kV))/\r=o8 kvs k
noncomputable def DPut (H:Hp) (a:Addr) (y v:V) (H':Hp):Prop:=
 (∃kvs k,H a=some (.dK kvs)/\y=kV k/\kvs.length<sizeLine/\H'=upd H a (.dK (m6 kvs k v)))\/
 ∃kvs k b,H a=some (.dT kvs)/\y=.ref b/\H b=some (.tup (k.map kV))/\kvs.length<sizeLine/\H'=upd H a (.dT (m6 kvs k v))
theorem DGet.t {H:Hp} {a b:Addr} {kvs:List (List Key×V)} {k:List Key} (e:H a=some (.dT kvs)) (eb:H b=some (.tup (k.map kV))):DGet H a (.ref b) (o8 kvs k):=.inr ⟨kvs,k,b,.inl e,rfl,eb,rfl⟩
theorem DPut.t {H:Hp} {a b:Addr} {kvs:List (List Key×V)} {k:List Key} {v:V} (e:H a=some (.dT kvs)) (eb:H b=some (.tup (k.map kV))) (hl:kvs.length<sizeLine) :
 DPut H a (.ref b) v (upd H a (.dT (m6 kvs k v))):=.inr ⟨kvs,k,b,e,rfl,eb,hl,rfl⟩
section
variable {X:Cx} {pins:List (Addr×Obj)} {σ:St} {H:Hp} {s:Shared} {a:Addr} {y v:V} {u r:Value} {o:Option V} {A:Around} {E:Value->Shared->Prop}
theorem Inv.big (I:Inv X pins σ H s):sysModules<s.heap.objs.size:=by
 have h:mainGlobals<s.heap.objs.size:=(I.mod.glob.keeps I.bk).lt
 exact Nat.lt_trans (by decide) h
theorem aK1 {Q:Value->Shared->Prop} (hu:A.units+1<cLine) (I:Inv X pins σ H s) (g:DGet H a y (some v)) (ry:RelV y u) (h:∀w' s',Inv X pins σ H s'->RelV v w'->Q w' s') :
 wpAny (model X.prog X.w) A (getItem (.ref a) u) Q E s:=by
 rcases g with ⟨kvs,k,e,ey,l⟩ | ⟨kvs,k,b,e,ey,eb,l⟩
 ·subst ey
  obtain⟨z,hd,vs,rel,dd⟩:=au4 I.hok e
  obtain⟨w',hw,rw'⟩:=RelO.some_of (v:=v) (o:=valueAt vs k) (by rw [l];exact rel.val k)
  exact wpAny_getItem_of (aE6 ry) dd.mapOf hw (h w' _ (I.tok _) rw')
 ·subst ey
  cases (show u=Value.ref b from ry)
  obtain⟨z,hd,xs,rel,dd⟩:=au5 I.hok e
  obtain⟨w',hw,rw'⟩:=RelO.some_of (v:=v) (o:=(atKey xs k).map (·.2)) (by rw [l];exact rel.val k)
  obtain⟨p,hp,hp2⟩:=Option.map_eq_some_iff.mp hw
  refine wpAny_getItem_heap (tupleKind_room_in1 hu) (aq2 I.hok eb) dd hp ?_
  rw [hp2]
  exact h w' _ (I.tok _) rw'
theorem aE7 {h':Heap} {t':Nat} {ob:HO} (I:Inv X pins σ H s) (mu:Mut (H a)) (hs:Heap.SameBut a s.heap h') (he:∃q,h'.get? a=some q) (new:ObjOk X.prog X.w (upd H a ob) h' a ob) :
 Inv X pins σ (upd H a ob) { s with heap:=h',toks:=t' }:=
 I.write (x:=a) (e:=a) mu (.inl rfl) (λb q hb z=>(hs.2 b hb).trans z) he new
theorem bb4 {P:Program} {w:World} {H':Hp} {h':Heap} {kvs:List (Key×V)} {vs:List (Key×Value)} (z:kvs.length<=sizeLine) (hd:(a == sysModules)=false) (rel:KV kvs vs) (dd:h'.DictOf (J6 P w) a vs) :
 ObjOk P w H' h' a (.dK kvs):=⟨z,hd,vs,rel,dd⟩
theorem aK2 {H':Hp} {Q:Unit->Shared->Prop} (hu:A.units+1<cLine) (I:Inv X pins σ H s) (g:DPut H a y v H') (ry:RelV y u) (rv:RelV v r) (h:∀s',Inv X pins σ H' s'->Q () s') :
 wpAny (model X.prog X.w) A (setItem (.ref a) u r) Q E s:=by
 rcases g with ⟨kvs,k,e,ey,l,eH⟩ | ⟨kvs,k,b,e,ey,eb,l,eH⟩
 ·subst ey eH
  obtain⟨z,hd,vs,rel,dd⟩:=bj0 I.hok e
  have hz:vs.length<=sizeLine:=by rw [←rel.length];exact z
  have hl:(m6 kvs k v).length<=sizeLine:=by have:=aa9 kvs k v;omega
  refine wpAny_setItem_pairs (hsz:=hz) (aE6 ry) dd λh' dd' hs=>h _ ?_
  have he:∃q,h'.get? a=some q:=let ⟨q,_,_,hq,_⟩:=dd';⟨q,hq⟩
  exact aE7 I (by rw [e];exact True.intro) hs he (bb4 hl hd (rel.put k rv) dd')
 ·subst ey eH
  cases (show u=Value.ref b from ry)
  obtain⟨z,hd,xs,rel,dd⟩:=au6 I.hok e
  have hz:xs.length<=sizeLine:=by rw [←Paired.length rel];exact z
  have hl:(m6 kvs k v).length<=sizeLine:=by have:=aa9 kvs k v;omega
  refine wpAny_setItem_heap (hsz:=hz) (tupleKind_room_in1 hu) (aq2 I.hok eb) dd λh' dd' hs=>h _ ?_
  obtain⟨q,es,ep,hq,h2,h3,h4,_,h5⟩:=dd'
  refine aE7 I (by rw [e];exact True.intro) hs ⟨q,hq⟩ ⟨hl,hd,_,(rel.put k eb rv).keeps λc ys ec=>?_,q,es,ep,hq,h2,h3,h4,h5⟩
  rw [D6 (ne_of ec e (λz=>nomatch z))]
  exact ec
end
noncomputable def bb5 (i:Expr):Prop:=∀ov iv,subscripted i false ov iv=operate [ov,iv] (getItem ov iv)
theorem aY8 {prog:Program} {w:World} {A:Around} {E:Value->Shared->Prop} {s:Shared} {env:Env} {value slice:Expr} {pos:Pos} {T id:String} {Q:Value->Shared->Prop}
 (hl:typeLookup (.type T) "__getitem__" = pure (some (.builtin id))) (hs:bb5 slice)
 (h:wpAny (model prog w) A (eval value env) (λo s₁=>wpAny (model prog w) A (eval slice env) (λi s₂=>s₂.TypeIs o T/\wpAny (model prog w) A (getItem o i) Q E s₂) E s₁) E s) :
 wpAny (model prog w) A (eval (.Subscript value slice pos) env) Q E s:=by
 refine Subscript_ (wpAny_mono h (λo s₁ h₁=>wpAny_mono h₁ (λi s₂ h₂=>?_) λ_ _ x=>x) λ_ _ x=>x)
 obtain⟨hT,h₂⟩:=h₂
 unfold subscriptTail
 refine wpAny_bind ?_
 rw [getitemInPython_of_ne hT.not_modules]
 refine wpAny_bind (wpAny_specialOf hT hl ?_)
 have fin:wpAny (model prog w) A (subscripted slice false o i) (λr s₃=>wpAny (model prog w) A (letTemporaryGo value o r>>=λ_=>pure r) Q E s₃) E s₂:=by
  rw [hs o i]
  exact wpAny_operating (wpAny_mono h₂ (λr s₃ h₃=>wpAny_bind (wpAny_letTemporaryGo (wpAny_pure h₃))) λ_ _ x=>x)
 first
  | exact wpAny_pure (wpAny_bind fin)
  | exact wpAny_bind (wpAny_pure (wpAny_bind fin))
  | exact wpAny_bind fin
theorem au7 {X:Cx} {pins:List (Addr×Obj)} {σ:St} {H:Hp} {s:Shared} {a:Addr} {y:V} {o:Option V} (I:Inv X pins σ H s) (g:DGet H a y o):s.TypeIs (.ref a) "dict":=by
 rcases g with ⟨kvs,k,e,_,_⟩ | ⟨kvs,k,b,e,_,_,_⟩
 ·obtain⟨_,_,vs,_,dd⟩:=au4 I.hok e
  exact dd.typeIs
 ·obtain⟨_,_,xs,_,dd⟩:=au5 I.hok e
  exact dd.typeIs
noncomputable def bj1 (td ty:TE):TE:=λσ H Q=>td σ H λx H1=>ty σ H1 λy H2=>∃a v,x=.ref a/\DGet H2 a y (some v)/\Q v H2
noncomputable def bj2 (td ty tv:TE):TS:=λD σ H=>tv σ H λv H1=>td σ H1 λx H2=>ty σ H2 λy H3=>∃a H4,x=.ref a/\DPut H3 a y v H4/\D.nx σ H4
section
variable {X:Cx} {o i e value:Expr} {pos pos' tpos:Pos} {td ty tv:TE}
theorem aY9 (hu:X.A.units+1<cLine) (ho:PE X o td) (hi:PE X i ty) (hs:bb5 i):PE X (.Subscript o i pos) (bj1 td ty):=by
 intro pins s σ H Q I h
 refine aY8 PySem.F.slot_dict_getitem.lookup hs (thn (ho pins s σ H _ I h) λu s1 ⟨x,H1,I1,rx,q1⟩=>thn (hi pins s1 σ H1 _ I1 q1) λiv s2 ⟨y,H2,I2,ry,a,v,ex,g,q2⟩=>?_)
 subst ex
 obtain rfl:u=Value.ref a:=rx
 exact⟨au7 I2 g,aK1 hu I2 g ry λw' s3 I3 rw'=>⟨v,H2,I3,rw',q2⟩⟩
theorem aZ0 (hu:X.A.units+1<cLine) (ho:PE X o td) (hi:PE X i ty) (hv:PE X value tv) (hs:swapsWith value (some (.Subscript o i pos')) pos.line X.env=pure false) :
 PS X (.Assign [.Subscript o i pos'] value pos) (bj2 td ty tv):=by
 intro pins s σ H D I h
 refine wpAny_Assign_Subscript (thn (hv pins s σ H _ I h) λr s1 ⟨v,H1,I1,rv,q1⟩=>thn (ho pins s1 σ H1 _ I1 q1) λu s2 ⟨x,H2,I2,rx,q2⟩=>thn (hi pins s2 σ H2 _ I2 q2) λiv s3 ⟨y,H3,I3,ry,a,H4,ex,g,q3⟩=>?_) hs
 subst ex
 obtain rfl:u=Value.ref a:=rx
 exact aK2 hu I3 g ry rv λs4 I4=>⟨σ,H4,I4,q3⟩
end
theorem aP5 {P:Program} {w:World} {H:Hp} (h:Heap) (hb:sysModules<h.objs.size):ObjOk P w H (h.push { cls:=.type "dict",data:=.dict #[] }) h.objs.size (.dT []):=
 ⟨Nat.zero_le _,beq_eq_false_iff_ne.mpr (Ne.symm (Nat.ne_of_lt hb)),[],.nil,_,#[],0,Heap.get?_push_size _ rfl,⟨rfl,rfl,rfl⟩,rfl,rfl,List.nodup_nil⟩
noncomputable def tDNewT:TE:=λ_ H Q=>∀p,H p=none->Q (.ref p) (upd H p (.dT []))
section
variable {X:Cx} {pos:Pos}
theorem aP6:PE X (.Dict [] [] pos) tDNewT:=λpins s σ H Q I h=>
 wpAny_Dict_empty ⟨.ref s.heap.objs.size,_,I.laid (a:=s.heap.objs.size) (o:=.dT []) (t':=s.toks) (λ_ _ q=>Heap.get?_push_of_some _ q) (Nat.le_refl _) (aP5 s.heap I.big),rfl,h _ (I.hok.fresh (Nat.le_refl _))⟩
end
structure M1 (X:Cx) (o:Expr) (m:Str) (apos:Pos) (e:Expr) (cpos:Pos):Prop where
 base:attributeBase o m X.env (eval o X.env)=eval o X.env
 few:((backTo cpos (starEach [e] X.env)).all (λx=>!x.1)&&(backToKw cpos (keywordEach [] X.env)).all (λx=>x.1.isSome)
  &&decide (([e]:List Expr).length+([]:List Keyword).length+(if ([]:List Keyword).isEmpty then 0 else 1)<30))=true
 line:(apos.endLine == cpos.line)=true
 trees:backTo cpos (starEach [e] X.env)=[(false,eval e X.env)]
noncomputable def IsD (H:Hp) (a:Addr):Prop:=(∃kvs,Rd H a (.dK kvs))\/∃kvs,Rd H a (.dT kvs)
theorem bb6 {X:Cx} {pins:List (Addr×Obj)} {σ:St} {H:Hp} {s:Shared} {a:Addr} (I:Inv X pins σ H s) (d:IsD H a) :
 s.TypeIs (.ref a) "dict"/\(∀b,Value.ref a=.ref b->∃ob,s.heap.get? b=some ob/\ob.dict=none)/\(a == sysModules)=false:=by
 rcases d with ⟨kvs,e⟩ | ⟨kvs,e⟩
 ·obtain⟨_,hd,vs,_,dd⟩:=au4 I.hok e
  refine⟨dd.typeIs,λb q=>?_,hd⟩
  cases q
  obtain⟨ob,_,_,h1,h2,_⟩:=dd
  exact⟨ob,h1,h2.2.1⟩
 ·obtain⟨_,hd,xs,_,dd⟩:=au5 I.hok e
  refine⟨dd.typeIs,λb q=>?_,hd⟩
  cases q
  obtain⟨ob,_,_,h1,h2,_⟩:=dd
  exact⟨ob,h1,h2.2.1⟩
section
variable {X:Cx} {pins:List (Addr×Obj)} {σ:St} {H:Hp} {s:Shared} {a:Addr} {y d:V} {u r:Value} {o:Option V} {A:Around} {E:Value->Shared->Prop}
theorem bb7 {Q:Value->Shared->Prop} (hu:A.units+1<cLine) (I:Inv X pins σ H s) (g:DGet H a y o) (ry:RelV y u) (h:∀w' s',Inv X pins σ H s'->RelV (o.getD .non) w'->Q w' s') :
 wpAny (model X.prog X.w) A (call (.builtin "dict.get") [.ref a,u]) Q E s:=by
 rcases g with ⟨kvs,k,e,ey,l⟩ | ⟨kvs,k,b,e,ey,eb,l⟩
 ·subst ey
  obtain⟨z,hd,vs,rel,dd⟩:=au4 I.hok e
  refine call_meetsIn PySem.F.slot_dict_get dd.typeIs PySem.F.entry_dict_get (PySem.F.args_dict_get_2 _ _) (meets_dict_get (J6 X.prog X.w) a (aE6 ry) hd) ⟨_,dd.mapOf,h _ _ (I.tok _) ?_⟩
  rw [l]
  exact (rel.val k).getD rfl
 ·subst ey
  cases (show u=Value.ref b from ry)
  obtain⟨z,hd,xs,rel,dd⟩:=au5 I.hok e
  refine call_meetsIn PySem.F.slot_dict_get dd.typeIs PySem.F.entry_dict_get (PySem.F.args_dict_get_2 _ _) (meetsH_dict_get (tupleKind (J6 X.prog X.w)) a b hd) ⟨tupleKind_room_in1 hu,k,xs,aq2 I.hok eb,dd,h _ _ (I.tok _) ?_⟩
  rw [l]
  exact (rel.val k).getD rfl
end
noncomputable def bb8 (td ty:TE):TE:=λσ H Q=>td σ H λx H1=>∃a,x=.ref a/\IsD H1 a/\ty σ H1 λy H2=>∃o,DGet H2 a y o/\Q (o.getD .non) H2
section
variable {X:Cx} {o e f:Expr} {apos cpos:Pos} {td ty tx:TE}
theorem aP7 (hu:X.A.units+1<cLine) (ho:PE X o td) (he:PE X e ty) (m:M1 X o "get" apos e cpos):PE X (.Call (.Attribute o "get" apos) [e] [] cpos) (bb8 td ty):=by
 intro pins s σ H Q I h
 refine wpAny_Call_method m.base m.few m.line PySem.F.plainAttrs_dict PySem.F.slot_dict_get PySem.F.type_dict_get (thn (ho pins s σ H _ I h) λu s1 ⟨x,H1,I1,rx,a,ex,d,q1⟩=>?_)
 subst ex
 obtain rfl:u=Value.ref a:=rx
 obtain⟨t1,t2,_⟩:=bb6 I1 d
 refine⟨t1,t2,?_⟩
 rw [m.trees]
 refine Calls.callWith_builtin rfl (Calls.evalArgs_plain (Calls.spliced_cons (thn (he pins s1 σ H1 _ I1 q1) λiv s2 ⟨y,H2,I2,ry,ov,g,q2⟩=>Calls.spliced_nil ?_)))
 exact bb7 hu I2 g ry λw' s3 I3 rw'=>⟨_,H2,I3,rw',q2⟩
end
end L2
set_option maxRecDepth 100000
namespace Ws
noncomputable section
inductive PV where
 | non | bl (b:Bool) | int (i:Int) | str (x:PySem.Str) | tup (l:List PV) | ref (n:Nat)
inductive PO where
 | lst (l:List PV)
 | ro (l:List PV)
 | dI (kvs:List (Int×PV))
 | ins (c:Nat) (fs:List (Nat×PV))
   | dT (kvs:List (List Int×PV))
   | exc (c:Nat) (v:PV)
noncomputable abbrev PHp:=List PO
inductive R (α:Type) where
 | ok (a:α) (A:PHp)
 | ex (c:Nat) (v:PV) (A:PHp)
 | no
noncomputable abbrev M (α:Type):=PHp->R α
@[simp] noncomputable def ret {α:Type} (a:α):M α:=λA=>.ok a A
@[simp] noncomputable def stuck {α:Type}:M α:=λ_=>.no
@[simp] noncomputable def bnd {α β:Type} (m:M α) (f:α->M β):M β:=λA=>match m A with
  | .ok a A'=>f a A'
  | .ex c v A'=>.ex c v A'
  | .no=>.no
noncomputable def D2 {α:Type} (P:Prop) (m:M α):M α:=@ite _ P (Classical.propDecidable P) m stuck
theorem J0 {α:Type} {P:Prop} {m:M α} (h:P):D2 P m=m:=if_pos h
@[simp] theorem bb9 {α:Type} {m:M α}:D2 True m=m:=if_pos trivial
theorem C5 {α:Type} {P:Prop} {m:M α} {A A':PHp} {a:α} (h:D2 P m A=.ok a A'):P/\m A=.ok a A':=by
 by_cases p:P
 ·rw [J0 p] at h;exact⟨p,h⟩
 ·rw [show D2 P m=stuck from if_neg p] at h;cases h
theorem bnd_ok {α β:Type} {m:M α} {f:α->M β} {A A':PHp} {a:α} (h:m A=.ok a A'):bnd m f A=f a A':=by unfold bnd;rw [h]
theorem B0 {α β:Type} {m:M α} {f:α->M β} {A A':PHp} {b:β} (h:bnd m f A=.ok b A'):∃a A1,m A=.ok a A1/\f a A1=.ok b A':=by
 unfold bnd at h
 cases e:m A with
 | ok a A1=>rw [e] at h;exact⟨a,A1,rfl,h⟩
 | ex c v A1=>rw [e] at h;cases h
 | no=>rw [e] at h;cases h
noncomputable abbrev PSt:=List (Option PV)
noncomputable abbrev ED:=PSt->M PV
noncomputable abbrev TD:=PSt->M Bool
noncomputable abbrev AD:=PSt->M (List PV)
noncomputable abbrev Fun:=List PV->M PV
inductive Fl where
 | nx (σ:PSt) | rt (v:PV) | bk (σ:PSt) | ct (σ:PSt)
noncomputable abbrev SD:=PSt->M Fl
noncomputable abbrev GD:=PV->PSt->M PSt
@[irreducible] noncomputable def LIM:Nat:=100000
theorem lim_le {n:Nat} (h:n<=10000):n<=LIM:=by unfold LIM;omega
theorem lim_lt {n:Nat} (h:n<10000):n<LIM:=by unfold LIM;omega
@[simp] theorem bo9:0<=LIM:=Nat.zero_le _
@[simp] theorem bp0:1<=LIM:=lim_le (by omega)
@[simp] theorem bp1:2<=LIM:=lim_le (by omega)
@[simp] theorem bp2:3<=LIM:=lim_le (by omega)
@[simp] theorem bp3:4<=LIM:=lim_le (by omega)
mutual
noncomputable def eqv:PV->PV->Bool
 | .non,.non=>true
 | .bl a,.bl b=>a == b
 | .int i,.int j=>decide (i=j)
 | .str x,.str y=>decide (x=y)
 | .tup l,.tup m=>R4 l m
 | _,_=>false
noncomputable def R4:List PV->List PV->Bool
 | [],[]=>true
 | x::xs,y::ys=>eqv x y&&R4 xs ys
 | _,_=>false
end
mutual
noncomputable def X4:PV->Bool
 | .non=>true
 | .int _=>true
 | .str _=>true
 | .tup l=>r6 l
 | _=>false
noncomputable def r6:List PV->Bool
 | []=>true
 | x::xs=>X4 x&&r6 xs
end
@[simp] noncomputable def L1:PV->Bool
  | .non=>true
  | .int _=>true
  | .str _=>true
  | _=>false
noncomputable def aE8:PV->Bool
 | .tup l=>l.all L1
 | x=>L1 x
noncomputable def al3:PV->Bool
 | .tup l=>l.all aE8
 | x=>L1 x
noncomputable def plain:PV->Bool
 | .tup l=>l.all al3
 | x=>L1 x
noncomputable def K9 (l:List PV):Bool:=l.all plain
@[simp] theorem bg8 (i:Int):plain (.int i)=true:=rfl
@[simp] theorem bg9:plain .non=true:=rfl
@[simp] noncomputable def alloc (o:PO):M PV:=λA=>.ok (.ref A.length) (A++[o])
@[simp] noncomputable def D0 (n:Nat):M (List PV):=λA=>match A[n]? with
  | some (.lst l)=>.ok l A
  | some (.ro l)=>.ok l A
  | _=>.no
@[simp] noncomputable def Q9 (n:Nat):M (List PV):=λA=>match A[n]? with
  | some (.lst l)=>.ok l A
  | _=>.no
@[simp] noncomputable def put (n:Nat) (o:PO):M Unit:=λA=>.ok () (A.set n o)
@[simp] noncomputable def T7 (n:Nat):M (Nat×List (Nat×PV)):=λA=>match A[n]? with
  | some (.ins c fs)=>.ok (c,fs) A
  | _=>.no
@[simp] noncomputable def P0 (v:PV):M (List PV):=match v with
  | .ref n=>D0 n
  | .tup l=>ret l
  | _=>stuck
@[simp] noncomputable def eVar (i:Nat):ED:=λσ=>match σ[i]? with
  | some (some v)=>ret v
  | _=>stuck
@[simp] noncomputable def eK (v:PV):ED:=λ_=>ret v
@[simp] noncomputable def aNil:AD:=λ_=>ret []
@[simp] noncomputable def aCons (e:ED) (es:AD):AD:=λσ=>bnd (e σ) λx=>bnd (es σ) λxs=>ret (x::xs)
@[simp] noncomputable def U7 (es:AD):ED:=λσ=>bnd (es σ) λxs=>D2 (xs.length<=LIM) (ret (.tup xs))
@[simp] noncomputable def j4 (es:AD):ED:=λσ=>bnd (es σ) λxs=>D2 (xs.length<=LIM) (alloc (.lst xs))
noncomputable abbrev OD:=PV->PV->M PV
@[simp] noncomputable def C3 (f:OD) (a b:ED):ED:=λσ=>bnd (a σ) λx=>bnd (b σ) λy=>f x y
@[simp] noncomputable def P4:OD
  | .int i,.int j=>ret (.int (i+j))
  | .tup l,.tup m=>D2 (l≠[]/\l.length+m.length<=LIM) (ret (.tup (l++m)))
  | .ref n,.ref k=>bnd (Q9 n) λl=>bnd (Q9 k) λm=>D2 (l.length+m.length<=LIM) (alloc (.lst (l++m)))
  | _,_=>stuck
@[simp] noncomputable def aZ1:OD
  | .int i,.int j=>ret (.int (i - j))
  | _,_=>stuck
@[simp] noncomputable def aq3:OD
  | .int i,.int j=>D2 ((-(2 ^ 64)<i/\i<2 ^ 64)\/(-(2 ^ 64)<j/\j<2 ^ 64)) (ret (.int (i*j)))
  | _,_=>stuck
@[simp] noncomputable def Q0:OD
  | .int i,.int j=>D2 (0<j) (ret (.int (i%j)))
  | _,_=>stuck
@[simp] noncomputable def aE9:OD
  | .int i,.int j=>D2 (0<j/\j<1073741824) (ret (.int (i / j)))
  | _,_=>stuck
@[simp] noncomputable def oLt:OD
  | .int i,.int j=>ret (.bl (decide (i<j)))
  | _,_=>stuck
@[simp] noncomputable def oLe:OD
  | .int i,.int j=>ret (.bl (decide (i<=j)))
  | _,_=>stuck
@[simp] noncomputable def oGt:OD
  | .int i,.int j=>ret (.bl (decide (j<i)))
  | _,_=>stuck
@[simp] noncomputable def oGe:OD
  | .int i,.int j=>ret (.bl (decide (j<=i)))
  | _,_=>stuck
@[simp] noncomputable def aq4:PV->PV->Bool
  | .bl _,.bl _=>true
  | _,_=>false
@[simp] noncomputable def pEq (x y:PV):M Bool:=match x,y with
  | .ref n,.ref k=>bnd (D0 n) λl=>bnd (D0 k) λm=>D2 (K9 l=true/\K9 m=true) (ret (R4 l m))
  | x,y=>D2 (aq4 x y=true\/(plain x=true/\plain y=true)) (ret (eqv x y))
@[simp] noncomputable def oEq:OD:=λx y=>bnd (pEq x y) λb=>ret (.bl b)
@[simp] noncomputable def oNe:OD:=λx y=>bnd (pEq x y) λb=>ret (.bl (!b))
noncomputable def pIn (x:PV) (l:List PV):Bool:=l.any λy=>eqv y x
@[simp] noncomputable def oIn:OD:=λx y=>bnd (P0 y) λl=>D2 (plain x=true/\K9 l=true) (ret (.bl (pIn x l)))
@[simp] noncomputable def aA8:OD:=λx y=>bnd (P0 y) λl=>D2 (plain x=true/\K9 l=true) (ret (.bl (!pIn x l)))
@[simp] noncomputable def au8:PV->Bool
  | .non=>true
  | _=>false
@[simp] noncomputable def aP8 (a:ED):ED:=λσ=>bnd (a σ) λx=>ret (.bl (au8 x))
@[simp] noncomputable def a62 (a:ED):ED:=λσ=>bnd (a σ) λx=>ret (.bl (!au8 x))
@[simp] noncomputable def m7 (f g:OD) (a b c:ED):ED:=λσ=>bnd (a σ) λx=>bnd (b σ) λy=>bnd (f x y) λz=>match z with
  | .bl true=>bnd (c σ) λu=>g y u
  | .bl false=>ret (.bl false)
  | _=>stuck
@[simp] noncomputable def asB (v:PV):M Bool:=match v with
  | .bl b=>ret b
  | _=>stuck
@[simp] noncomputable def G1 (e:ED):TD:=λσ=>bnd (e σ) asB
@[simp] noncomputable def tAnd (a b:TD):TD:=λσ=>bnd (a σ) λc=>if c=true then b σ else ret false
@[simp] noncomputable def tOr (a b:TD):TD:=λσ=>bnd (a σ) λc=>if c=true then ret true else b σ
@[simp] noncomputable def tNot (a:TD):TD:=λσ=>bnd (a σ) λc=>ret (!c)
@[simp] noncomputable def aq5 (a b:ED):ED:=λσ=>bnd (bnd (a σ) asB) λc=>if c=true then b σ else ret (.bl false)
@[simp] noncomputable def eOr (a b:ED):ED:=λσ=>bnd (bnd (a σ) asB) λc=>if c=true then ret (.bl true) else b σ
@[simp] noncomputable def bj3 (a:ED):ED:=λσ=>bnd (bnd (a σ) asB) λc=>ret (.bl (!c))
@[simp] noncomputable def eIf (t:TD) (a b:ED):ED:=λσ=>bnd (t σ) λc=>if c=true then a σ else b σ
noncomputable def ixN (n:Nat) (i:Int):Option Nat:=if 0<=i then (if i<n then some i.toNat else none) else if -(n:Int)<=i then some (i+n).toNat else none
noncomputable def atI {α:Type} (xs:List α) (i:Int):Option α:=(ixN xs.length i).bind λj=>xs[j]?
@[simp] noncomputable def oIx:OD:=λx y=>match y with
  | .int i=>bnd (P0 x) λl=>match atI l i with
    | some v=>ret v
    | none=>stuck
  | _=>stuck
noncomputable def j6 (n d:Nat):Option Int->Nat
 | none=>d
 | some v=>if v<0 then (max (v+n) 0).toNat else (min v n).toNat
noncomputable def cut {α:Type} (xs:List α) (lo hi:Option Int):List α:=(xs.drop (j6 xs.length 0 lo)).take (j6 xs.length xs.length hi - j6 xs.length 0 lo)
noncomputable abbrev LD:=PSt->M (Option Int)
@[simp] noncomputable def lNo:LD:=λ_=>ret none
@[simp] noncomputable def lAt (e:ED):LD:=λσ=>bnd (e σ) λx=>match x with
  | .int i=>ret (some i)
  | _=>stuck
@[simp] noncomputable def X5 (a:ED) (lo hi:LD):ED:=λσ=>bnd (a σ) λx=>bnd (lo σ) λl=>bnd (hi σ) λh=>match x with
  | .ref n=>bnd (D0 n) λxs=>alloc (.lst (cut xs l h))
  | .tup xs=>D2 (¬(j6 xs.length 0 l=0/\j6 xs.length xs.length h=xs.length)) (ret (.tup (cut xs l h)))
  | _=>stuck
@[simp] noncomputable def ae0 (a:ED):ED:=λσ=>bnd (a σ) λx=>bnd (P0 x) λl=>ret (.int l.length)
@[simp] noncomputable def r8 (a:ED):ED:=λσ=>bnd (a σ) λx=>bnd (P0 x) λl=>alloc (.lst l)
noncomputable def M4:List PV->Option (List Int)
 | []=>some []
 | .int i::r=>(M4 r).map (i :: ·)
 | _=>none
noncomputable def S8:List PV->Option (List (List Int))
 | []=>some []
 | .tup (x::l)::r=>match M4 (x::l),S8 r with
   | some z,some zs=>some (z::zs)
   | _,_=>none
 | _=>none
noncomputable def E4:List Int->List Int->Bool
 | _,[]=>false
 | [],_::_=>true
 | x::xs,y::ys=>if x=y then E4 xs ys else decide (x<y)
noncomputable def j7 {α:Type} (lt:α->α->Bool) (a:α):List α->List α
 | []=>[a]
 | b::r=>if lt b a=true then b::j7 lt a r else a::b::r
noncomputable def G2 {α:Type} (lt:α->α->Bool):List α->List α
 | []=>[]
 | a::r=>j7 lt a (G2 lt r)
noncomputable def ltI (i j:Int):Bool:=decide (i<j)
noncomputable def T8 (l:List PV):M (List PV):=D2 (l.length<64) (match M4 l with
 | some ns=>ret ((G2 ltI ns).map .int)
 | none=>match S8 l with
   | some ts=>ret ((G2 E4 ts).map λt=>.tup (t.map .int))
   | none=>stuck)
@[simp] noncomputable def X6 (a:ED):ED:=λσ=>bnd (a σ) λx=>match x with
  | .ref n=>bnd (D0 n) λl=>bnd (T8 l) λm=>alloc (.lst m)
  | _=>stuck
inductive Ty where
 | int | bool | tuple | list
@[simp] noncomputable def bc0 (t:Ty) (v:PV):M Bool:=match t,v with
  | .int,.int _=>ret true
  | .int,.bl _=>ret true
  | .bool,.bl _=>ret true
  | .tuple,.tup _=>ret true
  | .list,.ref n=>bnd (Q9 n) λ_=>ret true
  | _,.ref n=>bnd (Q9 n) λ_=>ret false
  | _,_=>ret false
@[simp] noncomputable def aK3 (a:ED) (t:Ty):ED:=λσ=>bnd (a σ) λx=>bnd (bc0 t x) λb=>ret (.bl b)
@[simp] noncomputable def U8 (f:Nat):List (Nat×PV)->Option PV
  | []=>none
  | (g,u)::r=>if g=f then some u else U8 f r
@[simp] noncomputable def j5 (a:ED) (f:Nat):ED:=λσ=>bnd (a σ) λx=>match x with
  | .ref n=>bnd (T7 n) λo=>match U8 f o.2 with
    | some v=>ret v
    | none=>stuck
  | _=>stuck
@[simp] noncomputable def putFld (f:Nat) (v:PV):List (Nat×PV)->List (Nat×PV)
  | []=>[(f,v)]
  | (g,u)::r=>if g=f then (g,v)::r else (g,u)::putFld f v r
@[simp] noncomputable def sFld (a:ED) (f:Nat) (e:ED):SD:=λσ=>bnd (e σ) λv=>bnd (a σ) λx=>match x with
  | .ref n=>bnd (T7 n) λo=>D2 (o.2.length<900) (bnd (put n (.ins o.1 (putFld f v o.2))) λ_=>ret (.nx σ))
  | _=>stuck
@[simp] noncomputable def E5 (f:Fun) (es:AD):ED:=λσ=>bnd (es σ) f
@[simp] noncomputable def s8 (c:Nat) (init:Fun) (es:AD):ED:=λσ=>bnd (es σ) λvs=>bnd (alloc (.ins c [])) λx=>bnd (init (x::vs)) λ_=>ret x
@[simp] noncomputable def al4 (c:Nat) (f:Fun) (a:ED) (es:AD):ED:=λσ=>bnd (a σ) λx=>match x with
  | .ref n=>bnd (T7 n) λo=>D2 (o.1=c) (bnd (es σ) λvs=>f (x::vs))
  | _=>stuck
@[simp] noncomputable def P5 (a e:ED):ED:=λσ=>bnd (a σ) λx=>match x with
  | .ref n=>bnd (Q9 n) λ_=>bnd (e σ) λv=>bnd (Q9 n) λl=>D2 (l.length<LIM) (bnd (put n (.lst (l++[v]))) λ_=>ret .non)
  | _=>stuck
@[simp] noncomputable def gName (i:Nat):GD:=λv σ=>ret (σ.set i (some v))
noncomputable abbrev GDs:=List PV->PSt->M PSt
@[simp] noncomputable def gNil:GDs:=λvs σ=>match vs with
  | []=>ret σ
  | _=>stuck
@[simp] noncomputable def gCons (g:GD) (r:GDs):GDs:=λvs σ=>match vs with
  | v::w=>bnd (g v σ) λσ'=>r w σ'
  | _=>stuck
@[simp] noncomputable def gTup (n:Nat) (g:GDs):GD:=λv σ=>match v with
  | .tup l=>D2 (l.length=n) (g l σ)
  | _=>stuck
inductive It where
 | rng (lo:Int) (n:Nat) | lst (n:Nat) | tup (l:List PV) | enm (n:Nat)
   | fix (l:List PV)
   | zip (x y:PV)
   | enk (k n:Nat)
noncomputable abbrev ID:=PSt->M It
@[simp] noncomputable def y3 (a:ED):ID:=λσ=>bnd (a σ) λx=>match x with
  | .ref n=>bnd (D0 n) λ_=>ret (.lst n)
  | .tup l=>ret (.tup l)
  | _=>stuck
@[simp] noncomputable def iRng1 (a:ED):ID:=λσ=>bnd (a σ) λx=>match x with
  | .int j=>D2 (-(2 ^ 62)<=j/\j<2 ^ 62) (ret (.rng 0 j.toNat))
  | _=>stuck
@[simp] noncomputable def bj4 (a:ED):ID:=λσ=>bnd (a σ) λx=>match x with
  | .ref n=>bnd (D0 n) λ_=>ret (.enm n)
  | _=>stuck
@[simp] noncomputable def bc1 (k:Nat) (a:ED):ID:=λσ=>bnd (a σ) λx=>match x with
  | .ref n=>bnd (D0 n) λ_=>ret (.enk k n)
  | _=>stuck
@[simp] noncomputable def item (J:It) (i:Nat):M (Option PV):=match J with
  | .rng lo n=>ret (if i<n then some (.int (lo+i)) else none)
  | .lst a=>bnd (D0 a) λl=>ret l[i]?
  | .tup l=>ret l[i]?
  | .enm a=>bnd (D0 a) λl=>ret (l[i]?.map λx=>.tup [.int i,x])
  | .fix l=>ret l[i]?
  | .zip x y=>bnd (P0 x) λl=>bnd (P0 y) λm=>ret (match l[i]?,m[i]? with
    | some u,some v=>some (.tup [u,v])
    | _,_=>none)
  | .enk k a=>bnd (D0 a) λl=>ret (l[i]?.map λx=>.tup [.int ((k+i:Nat):Int),x])
@[simp] noncomputable def m8 (J:It):M Nat:=match J with
  | .rng _ n=>ret n
  | .lst a=>bnd (D0 a) λl=>ret l.length
  | .tup l=>ret l.length
  | .enm a=>bnd (D0 a) λl=>ret l.length
  | .fix l=>ret l.length
  | .zip x _=>bnd (P0 x) λl=>ret l.length
  | .enk _ a=>bnd (D0 a) λl=>ret l.length
@[simp] noncomputable def sPass:SD:=λσ=>ret (.nx σ)
@[simp] noncomputable def D9 (a b:SD):SD:=λσ=>bnd (a σ) λf=>match f with
  | .nx σ'=>b σ'
  | o=>ret o
@[simp] noncomputable def ab0 (e:ED):SD:=λσ=>bnd (e σ) λ_=>ret (.nx σ)
@[simp] noncomputable def K8 (e:ED):SD:=λσ=>bnd (e σ) λv=>ret (.rt v)
@[simp] noncomputable def sIf (t:TD) (a b:SD):SD:=λσ=>bnd (t σ) λc=>if c=true then a σ else b σ
@[simp] noncomputable def J7 (e:ED) (g:GD):SD:=λσ=>bnd (e σ) λv=>bnd (g v σ) λσ'=>ret (.nx σ')
@[simp] noncomputable def sNever:SD:=λ_=>stuck
noncomputable def aA9 (J:It) (g:GD) (body:SD):Nat->Nat->PSt->M Fl
 | 0,_,_=>stuck
 | f+1,i,σ=>bnd (item J i) λx=>match x with
   | none=>ret (.nx σ)
   | some v=>bnd (g v σ) λσ1=>bnd (body σ1) λo=>match o with
     | .nx σ2=>aA9 J g body f (i+1) σ2
     | .ct σ2=>aA9 J g body f (i+1) σ2
     | .bk σ2=>ret (.nx σ2)
     | .rt v=>ret (.rt v)
theorem ae1:∃T:It->GD->SD->Nat->Nat->PSt->M Fl,(∀J g body i σ,T J g body 0 i σ=stuck)/\∀J g body f i σ,T J g body (f+1) i σ=bnd (item J i) λx=>match x with
 | none=>ret (.nx σ)
 | some v=>bnd (g v σ) λσ1=>bnd (body σ1) λo=>match o with
   | .nx σ2=>T J g body f (i+1) σ2
   | .ct σ2=>T J g body f (i+1) σ2
   | .bk σ2=>ret (.nx σ2)
   | .rt v=>ret (.rt v):=⟨aA9,λ_ _ _ _ _=>rfl,λ_ _ _ _ _ _=>rfl⟩
noncomputable def turns:It->GD->SD->Nat->Nat->PSt->M Fl:=Classical.choose ae1
theorem ae2 (J:It) (g:GD) (body:SD) (i:Nat) (σ:PSt):turns J g body 0 i σ=stuck:=(Classical.choose_spec ae1).1 J g body i σ
theorem Q4 (J:It) (g:GD) (body:SD) (f i:Nat) (σ:PSt):turns J g body (f+1) i σ=bnd (item J i) λx=>match x with
 | none=>ret (.nx σ)
 | some v=>bnd (g v σ) λσ1=>bnd (body σ1) λo=>match o with
   | .nx σ2=>turns J g body f (i+1) σ2
   | .ct σ2=>turns J g body f (i+1) σ2
   | .bk σ2=>ret (.nx σ2)
   | .rt v=>ret (.rt v):=(Classical.choose_spec ae1).2 J g body f i σ
@[simp] noncomputable def X7 (it:ID) (g:GD) (body:SD):SD:=λσ=>bnd (it σ) λJ=>bnd (m8 J) λn=>turns J g body (n+1) 0 σ
noncomputable def bst {α:Type} (js:List (Option Nat)) (σ:List (Option α)):List (Option α):=js.map λo=>match o with
 | none=>none
 | some j=>σ.getD j none
noncomputable def aq6 (J:It) (g:GD) (t:TD) (e:ED):Nat->Nat->PSt->M (List PV)
 | 0,_,_=>stuck
 | f+1,i,σ=>bnd (item J i) λx=>match x with
   | none=>ret []
   | some v=>bnd (g v σ) λσ1=>bnd (t σ1) λc=>if c=true then bnd (e σ1) λy=>bnd (aq6 J g t e f (i+1) σ1) λys=>ret (y::ys)
     else aq6 J g t e f (i+1) σ1
theorem y4:∃T:It->GD->TD->ED->Nat->Nat->PSt->M (List PV),(∀J g t e i σ,T J g t e 0 i σ=stuck)/\∀J g t e f i σ,T J g t e (f+1) i σ=bnd (item J i) λx=>match x with
 | none=>ret []
 | some v=>bnd (g v σ) λσ1=>bnd (t σ1) λc=>if c=true then bnd (e σ1) λy=>bnd (T J g t e f (i+1) σ1) λys=>ret (y::ys)
   else T J g t e f (i+1) σ1:=⟨aq6,λ_ _ _ _ _ _=>rfl,λ_ _ _ _ _ _ _=>rfl⟩
noncomputable def X8:It->GD->TD->ED->Nat->Nat->PSt->M (List PV):=Classical.choose y4
theorem ab1 (J:It) (g:GD) (t:TD) (e:ED) (i:Nat) (σ:PSt):X8 J g t e 0 i σ=stuck:=(Classical.choose_spec y4).1 J g t e i σ
theorem U0 (J:It) (g:GD) (t:TD) (e:ED) (f i:Nat) (σ:PSt):X8 J g t e (f+1) i σ=bnd (item J i) λx=>match x with
 | none=>ret []
 | some v=>bnd (g v σ) λσ1=>bnd (t σ1) λc=>if c=true then bnd (e σ1) λy=>bnd (X8 J g t e f (i+1) σ1) λys=>ret (y::ys)
   else X8 J g t e f (i+1) σ1:=(Classical.choose_spec y4).2 J g t e f i σ
@[simp] noncomputable def Z5:TD:=λ_=>ret true
@[simp] noncomputable def Q1 (it:ID) (mk:PSt->PSt) (g:GD) (t:TD) (e:ED):ED:=λσ=>bnd (it σ) λJ=>bnd (m8 J) λn=>bnd (X8 J g t e (n+1) 0 (mk σ)) λys=>D2 (ys.length<=LIM) (alloc (.lst ys))
@[simp] noncomputable def start (n:Nat) (vs:List PV):PSt:=vs.map some++List.replicate (n - vs.length) none
noncomputable def fin (o:Fl):M PV:=match o with
 | .rt v=>ret v
 | .nx _=>ret .non
 | _=>stuck
@[simp] theorem bn2 (v:PV):fin (.rt v)=ret v:=rfl
@[simp] theorem bn3 (σ:PSt):fin (.nx σ)=ret .non:=rfl
@[simp] noncomputable def fn (n p:Nat) (body:SD):Fun:=λvs=>D2 (vs.length=p) (bnd (body (start n vs)) fin)
end
end Ws
namespace Ws
theorem pre_get {A B:PHp} {n:Nat} {o:PO} (h:A<+:B) (e:A[n]?=some o):B[n]?=some o:=by
 obtain⟨t,rfl⟩:=h
 rw [List.getElem?_append_left (List.getElem?_eq_some_iff.mp e).1];exact e
theorem y6 {A:PHp} {n:Nat} {o:PO} (e:A[n]?=some o):n<A.length:=(List.getElem?_eq_some_iff.mp e).1
theorem R9 {A B:PHp} {n:Nat} {o:PO} (h:A<+:B) (e:A.length<=n):A<+:B.set n o:=by
 obtain⟨t,rfl⟩:=h
 rw [List.set_append_right _ _ e];exact List.prefix_append _ _
theorem E9 {A B:PHp} {o:PO} (h:A<+:B):A<+:B++[o]:=h.trans (List.prefix_append _ _)
theorem i3 {A B:PHp} (h:A<+:B):A.length<=B.length:=h.length_le
theorem C7 {A:PHp} {o:PO}:(A++[o])[A.length]?=some o:=by simp
theorem get_app_of {A:PHp} {o p:PO} {n:Nat} (e:A[n]?=some p):(A++[o])[n]?=some p:=pre_get (List.prefix_append _ _) e
theorem L0 {A:PHp} {o:PO} {n m:Nat} (h:m≠n):(A.set n o)[m]?=A[m]?:=by
 rw [List.getElem?_set];simp [Ne.symm h]
theorem get_set {A:PHp} {o p:PO} {n:Nat} (h:A[n]?=some p):(A.set n o)[n]?=some o:=by
 rw [List.getElem?_set];simp [y6 h]
noncomputable def Comes (r:R Fl) (P:PSt->PHp->Prop) (Q:PV->PHp->Prop):Prop:=
 (∃σ A,r=.ok (.nx σ) A/\P σ A)\/∃v A,r=.ok (.rt v) A/\Q v A
noncomputable def Turns (r:R Fl) (P:PSt->PHp->Prop) (Q:PV->PHp->Prop):Prop:=
 (∃σ A,(r=.ok (.nx σ) A\/r=.ok (.ct σ) A)/\P σ A)\/∃v A,r=.ok (.rt v) A/\Q v A
theorem turns_inv {J:It} {g:GD} {body:SD} {n:Nat} (P:Nat->PSt->PHp->Prop) (Q:PV->PHp->Prop)
 (hend:∀σ A,P n σ A->item J n A=.ok none A)
 (hs:∀i σ A,i<n->P i σ A->∃v,item J i A=.ok (some v) A/\Turns (bnd (g v σ) body A) (P (i+1)) Q) :
 ∀k i σ A,i+k=n->P i σ A->Comes (turns J g body (k+1) i σ A) (P n) Q
 | 0,i,σ,A,e,h=>by
   obtain rfl:i=n:=by omega
   refine .inl ⟨σ,A,?_,h⟩
   rw [Q4,bnd_ok (hend σ A h)];rfl
 | k+1,i,σ,A,e,h=>by
   obtain⟨v,hv,t⟩:=hs i σ A (by omega) h
   have key:turns J g body (k+1+1) i σ A=bnd (bnd (g v σ) body) (λo=>match o with
    | .nx σ2=>turns J g body (k+1) (i+1) σ2
    | .ct σ2=>turns J g body (k+1) (i+1) σ2
    | .bk σ2=>ret (.nx σ2)
    | .rt v=>ret (.rt v)) A:=by
    rw [Q4,bnd_ok hv]
    show bnd (g v σ) _ A=_
    unfold bnd
    cases g v σ A <;> rfl
   rw [key]
   rcases t with ⟨σ2,A2,e2,h2⟩ | ⟨u,A2,e2,h2⟩
   ·rcases e2 with e2 | e2 <;> (rw [bnd_ok e2];exact turns_inv P Q hend hs k (i+1) σ2 A2 (by omega) h2)
   ·rw [bnd_ok e2];exact .inr ⟨u,A2,rfl,h2⟩
theorem aZ2 {it:ID} {g:GD} {body:SD} {lo:Int} {n:Nat} {σ:PSt} {A A1:PHp} (hi:it σ A=.ok (.rng lo n) A1) (P:Nat->PSt->PHp->Prop) (Q:PV->PHp->Prop) (h0:P 0 σ A1)
 (hs:∀(i:Nat) σ A,i<n->P i σ A->Turns (bnd (g (.int (lo+i)) σ) body A) (P (i+1)) Q):Comes (X7 it g body σ A) (P n) Q:=by
 show Comes (bnd (it σ) _ A) _ _
 rw [bnd_ok hi]
 exact turns_inv (J:=.rng lo n) P Q (λσ A _=>by simp) (λi σ A hi h=>⟨_,by simp [hi],hs i σ A hi h⟩) n 0 σ A1 (by omega) h0
theorem aZ3 {it:ID} {g:GD} {body:SD} {a:Nat} {l:List PV} {σ:PSt} {A A1:PHp} (hi:it σ A=.ok (.enm a) A1) (P:Nat->PSt->PHp->Prop) (Q:PV->PHp->Prop) (h0:P 0 σ A1)
 (hl:∀i σ A,P i σ A->D0 a A=.ok l A)
 (hs:∀(i:Nat) v σ A,l[i]?=some v->P i σ A->Turns (bnd (g (.tup [.int i,v]) σ) body A) (P (i+1)) Q):Comes (X7 it g body σ A) (P l.length) Q:=by
 show Comes (bnd (it σ) _ A) _ _
 rw [bnd_ok hi]
 show Comes (bnd (bnd (D0 a) _) _ A1) _ _
 rw [bnd_ok (show bnd (D0 a) (λl=>ret l.length) A1=.ok l.length A1 by rw [bnd_ok (hl 0 σ A1 h0)];rfl)]
 refine turns_inv (J:=.enm a) P Q (λσ A h=>?_) (λi σ A hi h=>⟨.tup [.int i,l[i]],?_,hs i _ σ A (by simp [hi]) h⟩) l.length 0 σ A1 (by omega) h0
 ·show bnd (D0 a) _ A=_
  rw [bnd_ok (hl _ _ _ h)];simp
 ·show bnd (D0 a) _ A=_
  rw [bnd_ok (hl _ _ _ h)];simp [hi]
theorem Comes.end {r:R Fl} {P:PSt->PHp->Prop} (h:Comes r P λ_ _=>False):∃σ A,r=.ok (.nx σ) A/\P σ A:=by
 rcases h with h | ⟨_,_,_,h⟩
 ·exact h
 ·exact h.elim
theorem Turns.nx {r:R Fl} {P:PSt->PHp->Prop} {Q:PV->PHp->Prop} {σ:PSt} {A:PHp} (e:r=.ok (.nx σ) A) (h:P σ A):Turns r P Q:=.inl ⟨σ,A,.inl e,h⟩
theorem Comes.turns {r:R Fl} {P:PSt->PHp->Prop} {Q:PV->PHp->Prop} (h:Comes r P Q):Turns r P Q:=by
 rcases h with ⟨σ,A,e,h⟩ | h
 ·exact .inl ⟨σ,A,.inl e,h⟩
 ·exact .inr h
theorem Comes.mono {r:R Fl} {P P':PSt->PHp->Prop} {Q Q':PV->PHp->Prop} (h:Comes r P Q) (hp:∀σ A,P σ A->P' σ A) (hq:∀v A,Q v A->Q' v A):Comes r P' Q':=by
 rcases h with ⟨σ,A,e,h⟩ | ⟨v,A,e,h⟩
 ·exact .inl ⟨σ,A,e,hp _ _ h⟩
 ·exact .inr ⟨v,A,e,hq _ _ h⟩
theorem d4 {it:ID} {g:GD} {body:SD} {lo:Int} {n:Nat} {σ:PSt} {A A1:PHp} {P':PSt->PHp->Prop} {Q:PV->PHp->Prop} (hi:it σ A=.ok (.rng lo n) A1) (P:Nat->PSt->PHp->Prop) (h0:P 0 σ A1)
 (hs:∀(i:Nat) σ A,i<n->P i σ A->Turns (bnd (g (.int (lo+i)) σ) body A) (P (i+1)) Q) (hd:∀σ A,P n σ A->P' σ A):Comes (X7 it g body σ A) P' Q:=
 (aZ2 hi P Q h0 hs).mono hd λ_ _ h=>h
theorem y7 {J:It} {g:GD} {t:TD} {e:ED} {l:List PV} {S:PSt->Prop} {p:PV->Bool} {f:PV->PV} {A:PHp}
 (hit:∀i,item J i A=.ok l[i]? A)
 (h:∀v∈l,∀σ,S σ->∃σ1,g v σ A=.ok σ1 A/\S σ1/\t σ1 A=.ok (p v) A/\(p v=true->e σ1 A=.ok (f v) A)) :
 ∀k i σ,i+k=l.length->S σ->X8 J g t e (k+1) i σ A=.ok (((l.drop i).filter p).map f) A
 | 0,i,σ,hk,hσ=>by
   have:l.length<=i:=by omega
   rw [U0,bnd_ok (hit i)]
   simp [List.drop_eq_nil_of_le this,this]
 | k+1,i,σ,hk,hσ=>by
   have hi:i<l.length:=by omega
   obtain⟨σ1,h1,h2,h3,h4⟩:=h l[i] (List.getElem_mem hi) σ hσ
   have ih:=y7 hit h k (i+1) σ1 (by omega) h2
   have ed:l.drop i=l[i]::l.drop (i+1):=List.drop_eq_getElem_cons hi
   rw [U0,bnd_ok (hit i),List.getElem?_eq_getElem hi]
   show bnd (g l[i] σ) _ A=_
   rw [bnd_ok h1,bnd_ok h3,ed]
   cases hp:p l[i] with
   | true=>
     rw [if_pos rfl,bnd_ok (h4 hp),bnd_ok ih,List.filter_cons_of_pos hp]
     rfl
   | false=>
     rw [if_neg (by simp),ih,List.filter_cons_of_neg (by simp [hp])]
theorem aP9 {it:ID} {mk:PSt->PSt} {g:GD} {t:TD} {e:ED} {a:Nat} {l:List PV} {S:PSt->Prop} {p:PV->Bool} {f:PV->PV} {σ:PSt} {A A1:PHp} (hi:it σ A=.ok (.lst a) A1) (hl:D0 a A1=.ok l A1) (hn:l.length<=LIM) (hσ:S (mk σ))
 (h:∀v∈l,∀σ,S σ->∃σ1,g v σ A1=.ok σ1 A1/\S σ1/\t σ1 A1=.ok (p v) A1/\(p v=true->e σ1 A1=.ok (f v) A1)) :
 Q1 it mk g t e σ A=.ok (.ref A1.length) (A1++[.lst ((l.filter p).map f)]):=by
 show bnd (it σ) _ A=_
 rw [bnd_ok hi]
 show bnd (bnd (D0 a) _) _ A1=_
 rw [bnd_ok (show bnd (D0 a) (λl=>ret l.length) A1=.ok l.length A1 by rw [bnd_ok hl];rfl)]
 have c:=y7 (J:=.lst a) (g:=g) (t:=t) (e:=e) (l:=l) (S:=S) (p:=p) (f:=f) (A:=A1) (λi=>by show bnd (D0 a) _ A1=_;rw [bnd_ok hl];rfl) h l.length 0 (mk σ) (by omega) hσ
 rw [bnd_ok c,List.drop_zero,J0]
 ·rfl
 ·rw [List.length_map];exact Nat.le_trans (List.length_filter_le _ _) hn
theorem aQ0 {it:ID} {mk:PSt->PSt} {g:GD} {t:TD} {e:ED} {lo:Int} {n:Nat} {S:PSt->Prop} {p:PV->Bool} {f:PV->PV} {σ:PSt} {A A1:PHp} (hi:it σ A=.ok (.rng lo n) A1) (hn:n<=LIM) (hσ:S (mk σ))
 (h:∀(i:Nat),i<n->∀σ,S σ->∃σ1,g (.int (lo+i)) σ A1=.ok σ1 A1/\S σ1/\t σ1 A1=.ok (p (.int (lo+i))) A1/\(p (.int (lo+i))=true->e σ1 A1=.ok (f (.int (lo+i))) A1)) :
 Q1 it mk g t e σ A=.ok (.ref A1.length) (A1++[.lst ((((List.range n).map λ(i:Nat)=>PV.int (lo+i)).filter p).map f)]):=by
 show bnd (it σ) _ A=_
 rw [bnd_ok hi]
 show bnd (ret n) _ A1=_
 rw [bnd_ok (show ret n A1=.ok n A1 from rfl)]
 have c:=y7 (J:=.rng lo n) (g:=g) (t:=t) (e:=e) (l:=(List.range n).map λ(i:Nat)=>PV.int (lo+i)) (S:=S) (p:=p) (f:=f) (A:=A1) (λi=>by
  by_cases hi:i<n <;> simp [hi]) (λv hv=>by
  obtain⟨i,hi,rfl⟩:=List.mem_map.mp hv
  exact h i (List.mem_range.mp hi)) n 0 (mk σ) (by simp) hσ
 rw [bnd_ok c,List.drop_zero,J0]
 ·rfl
 ·rw [List.length_map];exact Nat.le_trans (List.length_filter_le _ _) (by simpa using hn)
theorem aQ1 {n p:Nat} {body:SD} {vs:List PV} {A A':PHp} {v:PV} (hl:vs.length=p) (h:body (start n vs) A=.ok (.rt v) A'):fn n p body vs A=.ok v A':=by
 show D2 (vs.length=p) (bnd (body (start n vs)) fin) A=_
 rw [J0 hl,bnd_ok h];rfl
theorem N2 {a b:SD} {σ σ':PSt} {A A':PHp} (h:a σ A=.ok (.nx σ') A'):D9 a b σ A=b σ' A':=by
 show bnd (a σ) _ A=_
 rw [bnd_ok h]
theorem bc2 {a b:SD} {σ:PSt} {v:PV} {A A':PHp} (h:a σ A=.ok (.rt v) A'):D9 a b σ A=.ok (.rt v) A':=by
 show bnd (a σ) _ A=_
 rw [bnd_ok h];rfl
theorem d5 {e:ED} {g:GD} {σ σ':PSt} {A A' A'':PHp} {v:PV} (h:e σ A=.ok v A') (hg:g v σ A'=.ok σ' A''):J7 e g σ A=.ok (.nx σ') A'':=by
 show bnd (e σ) _ A=_
 rw [bnd_ok h,bnd_ok hg];rfl
theorem ae3 (A:PHp) (σ:PSt):j4 aNil σ A=.ok (.ref A.length) (A++[.lst []]):=by
 simp
theorem bc3 {t:TD} {a b:SD} {σ:PSt} {A A':PHp} (h:t σ A=.ok true A'):sIf t a b σ A=a σ A':=by
 show bnd (t σ) _ A=_
 rw [bnd_ok h];rfl
theorem bc4 {t:TD} {a b:SD} {σ:PSt} {A A':PHp} (h:t σ A=.ok false A'):sIf t a b σ A=b σ A':=by
 show bnd (t σ) _ A=_
 rw [bnd_ok h];rfl
theorem au9 {A:PHp} {o p:PO}:(A++[o]).set A.length p=A++[p]:=by
 rw [List.set_append_right _ _ (Nat.le_refl _)];simp
theorem aK4 {e:ED} {σ:PSt} {A A1:PHp} {n:Nat} {l m:List PV} (h:e σ A=.ok (.ref n) A1) (hl:D0 n A1=.ok l A1) (hs:T8 l A1=.ok m A1):X6 e σ A=.ok (.ref A1.length) (A1++[.lst m]):=by
 show bnd (e σ) _ A=_
 rw [bnd_ok h]
 show bnd (D0 n) _ A1=_
 rw [bnd_ok hl,bnd_ok hs];rfl
theorem aZ4 {e:ED} {σ:PSt} {A A1:PHp} {n:Nat} {l:List PV} (h:e σ A=.ok (.ref n) A1) (hl:D0 n A1=.ok l A1):y3 e σ A=.ok (.lst n) A1:=by
 show bnd (e σ) _ A=_
 rw [bnd_ok h]
 show bnd (D0 n) _ A1=_
 rw [bnd_ok hl];rfl
theorem D8 {A:PHp} {n:Nat} {l:List PV} (h:A[n]?=some (.lst l)):D0 n A=.ok l A:=by
 unfold D0;rw [h]
theorem ae4 {A:PHp} {l:List PV}:D0 A.length (A++[.lst l])=.ok l (A++[.lst l]):=D8 C7
theorem V2 {A:PHp} {n:Nat} {l:List PV} (h:A[n]?=some (.lst l)):Q9 n A=.ok l A:=by
 unfold Q9;rw [h]
mutual
theorem av0:∀x y:PV,X4 x=true->(eqv x y=true↔x=y)
 | .non,y,_=>by cases y <;> simp [eqv]
 | .bl _,_,h=>by simp [X4] at h
 | .int i,y,_=>by cases y <;> simp [eqv]
 | .str s,y,_=>by cases y <;> simp [eqv]
 | .tup l,y,h=>by
   cases y with
   | tup m=>simp only [eqv,PV.tup.injEq];exact i4 l m (by simpa [X4] using h)
   | _=>simp [eqv]
 | .ref _,_,h=>by simp [X4] at h
theorem i4:∀l m:List PV,r6 l=true->(R4 l m=true↔l=m)
 | [],m,_=>by cases m <;> simp [R4]
 | x::xs,m,h=>by
   cases m with
   | nil=>simp [R4]
   | cons y ys=>
     simp only [r6,Bool.and_eq_true] at h
     simp only [R4,Bool.and_eq_true,List.cons.injEq]
     rw [av0 x y h.1,i4 xs ys h.2]
end
theorem R0 {f:PV->Bool} (h:∀x,f x=true->X4 x=true):∀l:List PV,l.all f=true->r6 l=true
 | [],_=>rfl
 | x::xs,e=>by
   rw [List.all_cons,Bool.and_eq_true] at e
   simp only [r6,Bool.and_eq_true]
   exact⟨h x e.1,R0 h xs e.2⟩
theorem av1 (x:PV) (h:L1 x=true):X4 x=true:=by cases x <;> simp_all [L1,X4]
theorem a63 (x:PV) (h:aE8 x=true):X4 x=true:=by
 cases x with
 | tup l=>exact R0 av1 l h
 | _=>exact av1 _ h
theorem a64 (x:PV) (h:al3 x=true):X4 x=true:=by
 cases x with
 | tup l=>exact R0 a63 l h
 | _=>exact av1 _ h
theorem X9 (x:PV) (h:plain x=true):X4 x=true:=by
 cases x with
 | tup l=>exact R0 a64 l h
 | _=>exact av1 _ h
theorem aF0 (x y:PV) (h:plain x=true):eqv x y=true↔x=y:=av0 x y (X9 x h)
theorem av2 (l m:List PV) (h:K9 l=true):R4 l m=true↔l=m:=i4 l m (R0 X9 l h)
theorem ae5 (l:List PV):K9 l=true↔∀x∈l,plain x=true:=List.all_eq_true
theorem N5 (ns:List Int):K9 (ns.map .int)=true:=by
 rw [ae5];intro x hx;obtain⟨i,_,rfl⟩:=List.mem_map.mp hx;rfl
theorem insBy_perm {α:Type} (lt:α->α->Bool) (a:α):∀l:List α,(j7 lt a l).Perm (a::l)
 | []=>.refl _
 | b::r=>by
   unfold j7
   split
   ·exact ((insBy_perm lt a r).cons b).trans (.swap a b r)
   ·exact .refl _
theorem K0 {α:Type} (lt:α->α->Bool):∀l:List α,(G2 lt l).Perm l
 | []=>.refl _
 | a::r=>(insBy_perm lt a _).trans ((K0 lt r).cons a)
theorem m9 (ns:List Int):M4 (ns.map .int)=some ns:=by
 induction ns with
 | nil=>rfl
 | cons i r ih=>simp [M4,ih]
theorem ae6:∀(ts:List (List Int)),(∀t∈ts,t≠[])->S8 (ts.map λt=>PV.tup (t.map .int))=some ts
 | [],_=>rfl
 | t::r,h=>by
   have ih:=ae6 r λu hu=>h u (List.mem_cons_of_mem _ hu)
   cases t with
   | nil=>exact absurd rfl (h [] List.mem_cons_self)
   | cons x l=>
     have e:=m9 (x::l)
     simp only [List.map_cons] at e
     simp only [List.map_cons,S8,e,ih]
theorem s9 {ts:List (List Int)} {A:PHp} (h:ts.length<64) (h0:∀t∈ts,t≠[]):T8 (ts.map λt=>PV.tup (t.map .int)) A=.ok ((G2 E4 ts).map λt=>PV.tup (t.map .int)) A:=by
 unfold T8
 rw [List.length_map,J0 h]
 cases ts with
 | nil=>rfl
 | cons t r=>
   have e:M4 ((t::r).map λt=>PV.tup (t.map .int))=none:=by simp [M4]
   rw [e,ae6 _ h0];rfl
theorem t0 {α:Type} {lt:α->α->Bool} (asym:∀a b,lt a b=true->lt b a=false) (tr:∀a b c,lt b a=false->lt c b=false->lt c a=false) (a:α) :
 ∀l:List α,l.Pairwise (λx y=>lt y x=false)->(j7 lt a l).Pairwise (λx y=>lt y x=false)
 | [],_=>by simp [j7]
 | b::r,h=>by
   rw [List.pairwise_cons] at h
   unfold j7
   split
   ·rename_i hb
    rw [List.pairwise_cons]
    refine⟨λc hc=>?_,t0 asym tr a r h.2⟩
    rcases List.mem_cons.mp ((insBy_perm lt a r).mem_iff.mp hc) with rfl | hc
    ·exact asym _ _ hb
    ·exact h.1 c hc
   ·rename_i hb
    have hb':lt b a=false:=by simpa using hb
    rw [List.pairwise_cons]
    refine⟨λc hc=>?_,List.pairwise_cons.mpr h⟩
    rcases List.mem_cons.mp hc with rfl | hc
    ·exact hb'
    ·exact tr a b c hb' (h.1 c hc)
theorem Q7 {α:Type} {lt:α->α->Bool} (asym:∀a b,lt a b=true->lt b a=false) (tr:∀a b c,lt b a=false->lt c b=false->lt c a=false) :
 ∀l:List α,(G2 lt l).Pairwise (λx y=>lt y x=false)
 | []=>by simp [G2]
 | a::r=>t0 asym tr a _ (Q7 asym tr r)
theorem aq7 (l:List Int):(G2 ltI l).Pairwise (·<=·):=by
 refine (Q7 (lt:=ltI) ?_ ?_ l).imp ?_
 ·intro a b h;simp [ltI] at *;omega
 ·intro a b c h1 h2;simp [ltI] at *;omega
 ·intro a b h;simp [ltI] at h;exact h
theorem al5:∀{l m:List Int},l.Perm m->l.Pairwise (·<=·)->m.Pairwise (·<=·)->l=m
 | [],m,h,_,_=>(List.nil_perm.mp h).symm
 | x::l,[],h,_,_=>absurd h.length_eq (by simp)
 | x::l,y::m,h,h1,h2=>by
   rw [List.pairwise_cons] at h1 h2
   have e:x=y:=by
    have a1:x∈y::m:=h.mem_iff.mp List.mem_cons_self
    have a2:y∈x::l:=h.mem_iff.mpr List.mem_cons_self
    rcases List.mem_cons.mp a1 with e | e
    ·exact e
    ·rcases List.mem_cons.mp a2 with e' | e'
     ·exact e'.symm
     ·have:=h2.1 x e;have:=h1.1 y e';omega
   subst e
   rw [al5 (List.perm_cons _ |>.mp h) h1.2 h2.2]
theorem y8 {α:Type} {lt:α->α->Bool} (tot:∀a b,lt a b=false->lt b a=false->a=b):∀{l m:List α},l.Perm m->l.Pairwise (λx y=>lt y x=false)->m.Pairwise (λx y=>lt y x=false)->l=m
 | [],m,h,_,_=>(List.nil_perm.mp h).symm
 | x::l,[],h,_,_=>absurd h.length_eq (by simp)
 | x::l,y::m,h,h1,h2=>by
   rw [List.pairwise_cons] at h1 h2
   have e:x=y:=by
    have a1:x∈y::m:=h.mem_iff.mp List.mem_cons_self
    have a2:y∈x::l:=h.mem_iff.mpr List.mem_cons_self
    rcases List.mem_cons.mp a1 with e | e
    ·exact e
    ·rcases List.mem_cons.mp a2 with e' | e'
     ·exact e'.symm
     ·exact tot _ _ (h2.1 x e) (h1.1 y e') |>.symm ▸ rfl
   subst e
   rw [y8 tot (List.perm_cons _ |>.mp h) h1.2 h2.2]
theorem ae7:∀a b:List Int,E4 a b=true->E4 b a=false
 | _,[],h=>by simp [E4] at h
 | [],_::_,_=>rfl
 | x::xs,y::ys,h=>by
   simp only [E4] at h ⊢
   by_cases e:x=y
   ·subst e;simp only [if_true] at h ⊢;exact ae7 xs ys h
   ·rw [if_neg e] at h;rw [if_neg (Ne.symm e)];simp at h ⊢;omega
theorem aq8:∀a b:List Int,E4 a b=false->E4 b a=false->a=b
 | [],[],_,_=>rfl
 | [],_::_,h,_=>by simp [E4] at h
 | _::_,[],_,h=>by simp [E4] at h
 | x::xs,y::ys,h,h'=>by
   simp only [E4] at h h'
   by_cases e:x=y
   ·subst e;simp only [if_true] at h h';rw [aq8 xs ys h h']
   ·rw [if_neg e] at h;rw [if_neg (Ne.symm e)] at h';simp at h h';omega
theorem aB0:∀a b c:List Int,E4 b a=false->E4 c b=false->E4 c a=false
 | [],_,_,_,_=>by simp [E4]
 | _::_,[],_,h,_=>by simp [E4] at h
 | _::_,_::_,[],_,h=>by simp [E4] at h
 | x::xs,y::ys,z::zs,h,h'=>by
   simp only [E4] at h h' ⊢
   by_cases e:y=x
   ·subst e
    simp only [if_true] at h
    by_cases e2:z=y
    ·subst e2;simp only [if_true] at h' ⊢;exact aB0 xs ys zs h h'
    ·rw [if_neg e2] at h' ⊢;exact h'
   ·rw [if_neg e] at h
    by_cases e2:z=y
    ·subst e2;rw [if_neg e];exact h
    ·rw [if_neg e2] at h'
     simp at h h'
     rw [if_neg (by omega)];simp;omega
theorem aB1 (ts:List (List Int)):(G2 E4 ts).Pairwise (λx y=>E4 y x=false):=Q7 ae7 aB0 ts
end Ws
namespace Ws
@[simp] noncomputable def bp6 (a:ED):ED:=λσ=>bnd (a σ) λx=>match x with
  | .ref n=>bnd (Q9 n) λl=>match l[l.length - 1]? with
    | some y=>bnd (put n (.lst l.dropLast)) λ_=>ret y
    | none=>stuck
  | _=>stuck
end Ws
namespace Ws
noncomputable def j8:List PV->Option (List Bool)
 | []=>some []
 | .bl b::r=>(j8 r).map (b :: ·)
 | _=>none
@[simp] noncomputable def aK5 (a:ED):ED:=λσ=>bnd (a σ) λx=>match x with
  | .ref n=>bnd (D0 n) λl=>match j8 l with
    | some bs=>ret (.bl (bs.all id))
    | none=>stuck
  | _=>stuck
@[simp] noncomputable def ae8 (a:ED):ED:=λσ=>bnd (a σ) λx=>match x with
  | .ref n=>bnd (D0 n) λl=>D2 (l.length<=LIM) (ret (.tup l))
  | _=>stuck
end Ws
namespace Ws
@[simp] noncomputable def bc5 (a b:ED):ID:=λσ=>bnd (a σ) λx=>bnd (b σ) λy=>bnd (P0 x) λ_=>bnd (P0 y) λ_=>ret (.zip x y)
end Ws
namespace Ws
end Ws
namespace Ws
noncomputable section
@[simp] noncomputable def bp4 (a b:ED):ED:=λσ=>bnd (a σ) λx=>bnd (b σ) λy=>match x,y with
  | .int i,.int j=>ret (.int (if j > i then j else i))
  | _,_=>stuck
@[simp] noncomputable def bc6:OD:=λx y=>match x,y with
  | .int i,.int j=>D2 (0<=j/\j<=1000/\i.natAbs<1000) (ret (.int (i ^ j.toNat)))
  | _,_=>stuck
end
end Ws
namespace Ws
noncomputable section
end
end Ws
namespace Ws
noncomputable section
end
end Ws
namespace Ws
noncomputable section
noncomputable def T6:PV->Option (List Int)
 | .tup l=>M4 l
 | _=>none
noncomputable def R1 (n:Nat):M (List (List Int×PV)):=λA=>match A[n]? with
 | some (.dT m)=>.ok m A
 | _=>.no
noncomputable def N8:List (List Int×PV)->List Int->Option PV
 | [],_=>none
 | p::r,k=>if p.1=k then some p.2 else N8 r k
noncomputable def av3 (kvs:List (List Int×PV)) (k:List Int) (x:PV):List (List Int×PV):=
 if (kvs.any λp=>decide (p.1=k))=true then kvs.map (λp=>if p.1=k then (p.1,x) else p) else kvs++[(k,x)]
noncomputable def bp7 (y d:ED):ED:=λσ=>bnd (y σ) λk=>bnd (d σ) λx=>match T6 k,x with
 | some i,.ref n=>bnd (R1 n) λm=>ret (.bl (N8 m i).isSome)
 | _,_=>stuck
noncomputable def al6 (d y e:ED):SD:=λσ=>bnd (e σ) λv=>bnd (d σ) λx=>bnd (y σ) λk=>match x,T6 k with
 | .ref n,some i=>bnd (R1 n) λm=>D2 (m.length<LIM) (bnd (put n (.dT (av3 m i v))) λ_=>ret (.nx σ))
 | _,_=>stuck
noncomputable def al7 (d y:ED):ED:=λσ=>bnd (d σ) λx=>bnd (y σ) λk=>match x,T6 k with
 | .ref n,some i=>bnd (R1 n) λm=>match N8 m i with
   | some v=>ret v
   | none=>stuck
 | _,_=>stuck
noncomputable def av4:ED:=λ_=>alloc (.dT [])
noncomputable def aB2 (d y:ED):ED:=λσ=>bnd (d σ) λx=>match x with
 | .ref n=>bnd (R1 n) λ_=>bnd (y σ) λk=>match T6 k with
   | some i=>bnd (R1 n) λm=>ret ((N8 m i).getD .non)
   | _=>stuck
 | _=>stuck
end
end Ws
namespace Ws
noncomputable section
noncomputable def small:List (List Int):=((List.range 10).map λa=>(List.range 10).map λb=>[((a:Nat):Int),((b:Nat):Int)]).flatten
noncomputable def bp5 (a:ED):ED:=λσ=>bnd (a σ) λx=>match x with
 | .ref n=>bnd (R1 n) λm=>ret (.int m.length)
 | _=>stuck
noncomputable def aq9 (a:ED):ED:=λσ=>bnd (a σ) λx=>match x with
 | .ref n=>bnd (R1 n) λm=>D2 ((m.map (·.1)).Nodup/\∀p∈m,p.1∈small) (alloc (.dT m))
 | _=>stuck
end
end Ws
namespace Ws
noncomputable section
end
end Ws
namespace Ws
noncomputable section
noncomputable def isI:PV->Bool
 | .int _=>true
 | _=>false
noncomputable def t3 (m:List (List Int×PV)):Prop:=∀p∈m,isI p.2=true
noncomputable def ab2 (m m':List (List Int×PV)):Bool:=m.length == m'.length&&m.all λp=>match N8 m' p.1 with
 | some v=>eqv p.2 v
 | none=>false
noncomputable def bn4 (n k:Nat):M Bool:=bnd (R1 n) λm=>bnd (R1 k) λm'=>D2 (t3 m/\t3 m'/\(n=k->ab2 m m'=true)) (ret (ab2 m m'))
end
end Ws
namespace Ws
noncomputable section
end
end Ws
namespace Ws
noncomputable section
end
end Ws
namespace Ws
noncomputable section
noncomputable def ar0 (x:PV):M Bool:=match x with
 | .str _=>ret true
 | .ref n=>bnd (Q9 n) λ_=>ret false
 | _=>ret false
noncomputable def aB3 (a:ED):ED:=λσ=>bnd (a σ) λx=>bnd (ar0 x) λb=>ret (.bl b)
end
end Ws
namespace Ws
noncomputable section
end
end Ws
namespace Ws
noncomputable section
noncomputable def bj5 (a:ED):ED:=λσ=>bnd (a σ) λx=>match x with
 | .ref n=>bnd (R1 n) λm=>D2 (m.length<64/\∀p∈m,p.1≠[]) (alloc (.lst ((G2 E4 (m.map (·.1))).map λt=>.tup (t.map .int))))
 | _=>stuck
noncomputable def aZ5 (c k:Nat):Bool:=decide (c=k)||(decide (k=3)&&(decide (c=4)||decide (c=5)))
noncomputable def bc7 (cs:List Nat) (d:ED) (k:Nat):ED:=λσ=>bnd (d σ) λx=>match x with
 | .ref n=>bnd (T7 n) λp=>D2 (p.1∈cs) (ret (.bl (aZ5 p.1 k)))
 | _=>stuck
end
end Ws
namespace Ws
noncomputable section
noncomputable def av5 (a:ED):ED:=λσ=>bnd (a σ) λx=>match x with
 | .int i=>D2 (i.natAbs<10000000000) (ret (.str (PySem.Str.ofString (toString i))))
 | _=>stuck
noncomputable def aQ2 (a:ED):ED:=λσ=>bnd (a σ) λx=>match x with
 | .str z=>match PySem.intText? z with
   | some n=>D2 (z.length<=640) (ret (.int n))
   | none=>stuck
 | _=>stuck
noncomputable def Y0:List PV->Option (List PySem.Str)
 | []=>some []
 | .str z::r=>(Y0 r).map (z :: ·)
 | _=>none
noncomputable def al8 (a b:ED):ED:=λσ=>bnd (a σ) λx=>match x with
 | .str z=>bnd (b σ) λy=>match y with
   | .ref n=>bnd (D0 n) λl=>match Y0 l with
     | some ys=>D2 (z.length<=16/\(ys.map (·.length)).sum+ys.length<=1048576) (ret (.str (PySem.Txt.join z ys)))
     | none=>stuck
   | _=>stuck
 | _=>stuck
noncomputable def ar1 (a b:ED):ED:=λσ=>bnd (a σ) λx=>match x with
 | .str z=>bnd (b σ) λy=>match y with
   | .str u=>D2 ((u.length == 0)=false/\z.length<=LIM/\(PySem.Txt.split z u).length<=LIM/\(PySem.Builtin.Str.partsBetween z (PySem.Builtin.Str.occurrences z u 0 z.length (z.length+1)) u.length).length<=LIM) (alloc (.lst ((PySem.Txt.split z u).map .str)))
   | _=>stuck
 | _=>stuck
noncomputable def ab3:OD
 | .str x,.str y=>D2 (x.length+y.length<=LIM) (ret (.str (x++y)))
 | _,_=>stuck
noncomputable def bc8:OD
 | .str x,.str y=>ret (.bl (!(PySem.Builtin.Str.occurrences y x 0 y.length 1).isEmpty))
 | _,_=>stuck
noncomputable def aQ3 (a:ED):ED:=λσ=>bnd (a σ) λx=>match x with
 | .str z=>D2 (z.length<=LIM) (ret (.int z.length))
 | _=>stuck
noncomputable def aK6:OD
 | .str z,.int i=>match atI z.cps.toList i with
   | some c=>D2 (z.length<=LIM) (ret (.str ⟨#[c]⟩))
   | none=>stuck
 | _,_=>stuck
noncomputable def bc9 (a:ED):ID:=λσ=>bnd (a σ) λx=>match x with
 | .str z=>D2 (z.cps.all (·< 128)=true) (ret (.fix (z.cps.toList.map λc=>.str ⟨#[c]⟩)))
 | _=>stuck
end
end Ws
namespace Ws
noncomputable section
end
end Ws
namespace Ws
noncomputable section
noncomputable def aB4 (a:ED):ED:=λσ=>bnd (a σ) λx=>match x with
 | .ref n=>bnd (R1 n) λm=>D2 (m.length<=LIM/\∀p∈m,p.1≠[]) (alloc (.lst (m.map λp=>.tup (p.1.map .int))))
 | _=>stuck
noncomputable def bd0:OD
 | .ref n,.ref k=>bnd (bn4 n k) λb=>ret (.bl (!b))
 | _,_=>stuck
noncomputable def aQ4:OD
 | .tup [.int i,.int j],.tup [.int k,.int m]=>ret (.bl (if i=k then decide (j<=m) else decide (i<k)))
 | .tup [.int i,.int j],.tup []=>ret (.bl false)
 | _,_=>stuck
end
end Ws
namespace Ws
open PySem
noncomputable def bd1:Expr->Bool
 | .Starred _ _=>true
 | _=>false
theorem G0 {e:Expr} {es:List Expr} {env:Env} (h:bd1 e=false):starEach (e::es) env=(false,eval e env)::starEach es env:=by
 cases e <;> first | rfl | cases h
mutual
inductive RV (ρ:List Addr) (H:L2.Hp):PV->L2.V->Prop
 | non:RV ρ H .non .non
 | bl (b:Bool):RV ρ H (.bl b) (.bl b)
 | int (i:Int):RV ρ H (.int i) (.int i)
 | str (x:Str):RV ρ H (.str x) (.str x)
 | tup {l:List PV} {a:Addr} {vs:List L2.V} (h:H a=some (.tup vs)) (r:RVs ρ H l vs):RV ρ H (.tup l) (.ref a)
 | ref {n:Nat} {a:Addr} (h:ρ[n]?=some a):RV ρ H (.ref n) (.ref a)
inductive RVs (ρ:List Addr) (H:L2.Hp):List PV->List L2.V->Prop
 | nil:RVs ρ H [] []
 | cons {x:PV} {v:L2.V} {l:List PV} {vs:List L2.V} (h:RV ρ H x v) (r:RVs ρ H l vs):RVs ρ H (x::l) (v::vs)
end
structure Ext (ρ:List Addr) (H:L2.Hp) (ρ':List Addr) (H':L2.Hp):Prop where
 pre:ρ<+:ρ'
 tup:∀a vs,H a=some (.tup vs)->H' a=some (.tup vs)
 xd:∀a fs,H a=some (.xd fs)->H' a=some (.xd fs)
theorem Ext.refl (ρ:List Addr) (H:L2.Hp):Ext ρ H ρ H:=⟨List.prefix_refl _,λ_ _ h=>h,λ_ _ h=>h⟩
theorem Ext.trans {ρ ρ1 ρ2:List Addr} {H H1 H2:L2.Hp} (a:Ext ρ H ρ1 H1) (b:Ext ρ1 H1 ρ2 H2):Ext ρ H ρ2 H2:=⟨a.pre.trans b.pre,λc vs h=>b.tup c vs (a.tup c vs h),λc vs h=>b.xd c vs (a.xd c vs h)⟩
theorem ae9 {ρ ρ':List Addr} {n:Nat} {a:Addr} (h:ρ<+:ρ') (e:ρ[n]?=some a):ρ'[n]?=some a:=by
 obtain⟨t,rfl⟩:=h
 rw [List.getElem?_append_left (List.getElem?_eq_some_iff.mp e).1];exact e
section
variable {ρ ρ':List Addr} {H H':L2.Hp}
mutual
theorem RV.mono (e:Ext ρ H ρ' H'):∀{x:PV} {v:L2.V},RV ρ H x v->RV ρ' H' x v
 | _,_,.non=>.non
 | _,_,.bl b=>.bl b
 | _,_,.int i=>.int i
 | _,_,.str x=>.str x
 | _,_,.tup h r=>.tup (e.tup _ _ h) (RVs.mono e r)
 | _,_,.ref h=>.ref (ae9 e.pre h)
theorem RVs.mono (e:Ext ρ H ρ' H'):∀{l:List PV} {vs:List L2.V},RVs ρ H l vs->RVs ρ' H' l vs
 | _,_,.nil=>.nil
 | _,_,.cons h r=>.cons (RV.mono e h) (RVs.mono e r)
end
theorem RVs.length:∀{l:List PV} {vs:List L2.V},RVs ρ H l vs->l.length=vs.length
 | _,_,.nil=>rfl
 | _,_,.cons _ r=>by simp [RVs.length r]
theorem RVs.get:∀{l:List PV} {vs:List L2.V} {i:Nat} {x:PV},RVs ρ H l vs->l[i]?=some x->∃v,vs[i]?=some v/\RV ρ H x v
 | _,_,_,_,.nil,e=>by simp at e
 | _,_,0,_,.cons h _,e=>by simp at e;subst e;exact⟨_,rfl,h⟩
 | _,_,i+1,_,.cons _ r,e=>by
   obtain⟨v,h1,h2⟩:=RVs.get (i:=i) r (by simpa using e)
   exact⟨v,by simpa using h1,h2⟩
theorem RVs.get':∀{l:List PV} {vs:List L2.V} {i:Nat} {v:L2.V},RVs ρ H l vs->vs[i]?=some v->∃x,l[i]?=some x/\RV ρ H x v
 | _,_,_,_,.nil,e=>by simp at e
 | _,_,0,_,.cons h _,e=>by simp at e;subst e;exact⟨_,rfl,h⟩
 | _,_,i+1,_,.cons _ r,e=>by
   obtain⟨x,h1,h2⟩:=RVs.get' (i:=i) r (by simpa using e)
   exact⟨x,by simpa using h1,h2⟩
theorem RVs.append:∀{l m:List PV} {vs ws:List L2.V},RVs ρ H l vs->RVs ρ H m ws->RVs ρ H (l++m) (vs++ws)
 | _,_,_,_,.nil,s=>s
 | _,_,_,_,.cons h r,s=>.cons h (RVs.append r s)
theorem RVs.take:∀{l:List PV} {vs:List L2.V} (n:Nat),RVs ρ H l vs->RVs ρ H (l.take n) (vs.take n)
 | _,_,0,_=>by simpa using .nil
 | _,_,_+1,.nil=>.nil
 | _,_,n+1,.cons h r=>.cons h (RVs.take n r)
theorem RVs.drop:∀{l:List PV} {vs:List L2.V} (n:Nat),RVs ρ H l vs->RVs ρ H (l.drop n) (vs.drop n)
 | _,_,0,r=>r
 | _,_,_+1,.nil=>.nil
 | _,_,n+1,.cons _ r=>RVs.drop n r
theorem RVs.ints (ns:List Int):RVs ρ H (ns.map .int) (ns.map .int):=by
 induction ns with
 | nil=>exact .nil
 | cons i r ih=>exact .cons (.int i) ih
end
noncomputable def fnm (i:Nat):Str:=(["number","passings","at","web","leaders","limits","plan","free","ledger","kept_leaders","kept_limits","kept_free","now","turns_of_lays","sayings","first_turns","does","me","open_boxes"]:List Str).getD i "?"
noncomputable def Fz (K:PySem.W.Frag) (H:L2.Hp) (a:Addr) (xs:List L2.V):Prop:=
 (∃o,H a=some (.frz o (.lst xs)))\/∃(o:Obj) (its:Array Value) (n:Nat),K.lookup a=some o/\o.cls=.type "list"/\o.dict=none/\o.data=.seq its n/\its.size<=sizeLine/\L2.Vals xs its.toList
theorem Fz.sq {K:PySem.W.Frag} {H:L2.Hp} {a:Addr} {xs:List L2.V} (h:Fz K H a xs):L2.SqL K H a xs:=by
 rcases h with ⟨o,h⟩ | h
 ·exact .inl (.inr ⟨o,h⟩)
 ·exact .inr h
noncomputable def S9:PO->Bool
 | .ro _=>false
 | _=>true
structure Pairs {κ κ':Type} (f:κ->κ') (ρ:List Addr) (H:L2.Hp) (kvs:List (κ×PV)) (kv:List (κ'×L2.V)):Prop where
 keys:kv.map (·.1)=kvs.map λp=>f p.1
 vals:RVs ρ H (kvs.map (·.2)) (kv.map (·.2))
theorem Pairs.mono {κ κ':Type} {f:κ->κ'} {ρ ρ':List Addr} {H H':L2.Hp} {kvs:List (κ×PV)} {kv:List (κ'×L2.V)} (h:Pairs f ρ H kvs kv) (e:Ext ρ H ρ' H'):Pairs f ρ' H' kvs kv:=⟨h.keys,h.vals.mono e⟩
section
variable (K:PySem.W.Frag) (cm:Nat->Addr)
noncomputable def RO (ρ:List Addr) (H:L2.Hp) (a:Addr):PO->Prop
 | .lst l=>∃xs,H a=some (.lst xs)/\RVs ρ H l xs
 | .ro l=>∃xs,Fz K H a xs/\RVs ρ H l xs
 | .dI kvs=>∃kv,H a=some (.dK kv)/\Pairs (Sum.inl:Int->L2.Key) ρ H kvs kv
 | .ins c fs=>(c<7/\∀p∈fs,p.1<19)/\∃dx kv,H a=some (.ins (cm c) dx kv)/\Pairs fnm ρ H fs kv
 | .dT kvs=>∃kv,H a=some (.dT kv)/\Pairs (List.map Sum.inl:List Int->List L2.Key) ρ H kvs kv
 | .exc c v=>∃o d v',H a=some (.frz o (.own a))/\o.cls=.ref (cm c)/\o.dict=some d/\(∃vs,o.data=.fields vs)/\H d=some (.xd [("at",v')])/\RV ρ H v v'
structure Rel (ρ:List Addr) (A:PHp) (H:L2.Hp):Prop where
 len:ρ.length=A.length
 obj:∀(n:Nat) (o:PO) (a:Addr),A[n]?=some o->ρ[n]?=some a->RO K cm ρ H a o
 inj:∀(m n:Nat) (a:Addr) (o p:PO),ρ[m]?=some a->ρ[n]?=some a->A[m]?=some o->A[n]?=some p->S9 o=true->S9 p=true->m=n
end
section
variable {K:PySem.W.Frag} {cm:Nat->Addr} {ρ ρ':List Addr} {H H':L2.Hp} {A:PHp} {a p:Addr} {o:PO} {n:Nat}
theorem RO.keep (r:RO K cm ρ H a o) (e:Ext ρ H ρ' H') (hk:∀u,H a=some u->H' a=some u):RO K cm ρ' H' a o:=by
 cases o with
 | lst l=>obtain⟨xs,h,q⟩:=r;exact⟨xs,hk _ h,q.mono e⟩
 | ro l=>
   obtain⟨xs,h,q⟩:=r
   rcases h with ⟨u,h⟩ | h
   ·exact⟨xs,.inl ⟨u,hk _ h⟩,q.mono e⟩
   ·exact⟨xs,.inr h,q.mono e⟩
 | dI kvs=>obtain⟨kv,h,q⟩:=r;exact⟨kv,hk _ h,q.mono e⟩
 | ins c fs=>obtain⟨hs,dx,kv,h,q⟩:=r;exact⟨hs,dx,kv,hk _ h,q.mono e⟩
 | dT kvs=>obtain⟨kv,h,q⟩:=r;exact⟨kv,hk _ h,q.mono e⟩
 | exc c v=>obtain⟨o,d,v',h,h1,h2,h3,h4,q⟩:=r;exact⟨o,d,v',hk _ h,h1,h2,h3,e.xd _ _ h4,q.mono e⟩
theorem RO.some (r:RO K cm ρ H a o) (m:S9 o=true):∃u,H a=some u:=by
 cases o with
 | lst l=>obtain⟨xs,h,q⟩:=r;exact⟨_,h⟩
 | ro l=>simp [S9] at m
 | dI kvs=>obtain⟨kv,h,q⟩:=r;exact⟨_,h⟩
 | ins c fs=>obtain⟨_,dx,kv,h,q⟩:=r;exact⟨_,h⟩
 | dT kvs=>obtain⟨kv,h,q⟩:=r;exact⟨_,h⟩
 | exc c v=>obtain⟨o,d,v',h,q⟩:=r;exact⟨_,h⟩
theorem T0 {u:L2.HO} (hp:H p=none):∀b v,H b=some v->L2.upd H p u b=some v:=λb v h=>by
 rw [L2.D6 (L2.J1 h hp)];exact h
theorem Ext.same {u:L2.HO} (hp:H p=none):Ext ρ H ρ (L2.upd H p u):=⟨List.prefix_refl _,λa vs h=>T0 hp a _ h,λa vs h=>T0 hp a _ h⟩
theorem Ext.new {u:L2.HO} (hp:H p=none):Ext ρ H (ρ++[p]) (L2.upd H p u):=⟨List.prefix_append _ _,λa vs h=>T0 hp a _ h,λa vs h=>T0 hp a _ h⟩
theorem Rel.grow (r:Rel K cm ρ A H) (e:Ext ρ H ρ H') (hk:∀b v,H b=some v->H' b=some v):Rel K cm ρ A H':=
 ⟨r.len,λn o a h1 h2=>(r.obj n o a h1 h2).keep e (hk a),r.inj⟩
theorem Rel.tup {vs:List L2.V} (r:Rel K cm ρ A H) (hp:H p=none):Rel K cm ρ A (L2.upd H p (.tup vs)):=r.grow (Ext.same hp) (T0 hp)
theorem Rel.alloc {u:L2.HO} (r:Rel K cm ρ A H) (hp:H p=none) (hn:RO K cm (ρ++[p]) (L2.upd H p u) p o) (hm:S9 o=true):Rel K cm (ρ++[p]) (A++[o]) (L2.upd H p u):=by
 have e:Ext ρ H (ρ++[p]) (L2.upd H p u):=Ext.new hp
 have none_new:∀(n:Nat) (q:PO),ρ[n]?=some p->A[n]?=some q->S9 q=true->False:=λn q h1 h2 hq=>by
  obtain⟨v,hv⟩:=(r.obj n q p h2 h1).some hq
  rw [hp] at hv;cases hv
 have split:∀{α:Type} {l:List α} {x y:α} {n:Nat},(l++[x])[n]?=some y->l[n]?=some y\/(n=l.length/\y=x):=λ{α l x y n} h=>by
  by_cases hn:n<l.length
  ·rw [List.getElem?_append_left hn] at h;exact .inl h
  ·rw [List.getElem?_append_right (by omega)] at h
   have:n - l.length=0:=by
    by_cases z:n - l.length=0
    ·exact z
    ·rw [List.getElem?_eq_none (by simp;omega)] at h;cases h
   rw [this] at h
   simp at h
   exact .inr ⟨by omega,h.symm⟩
 refine⟨by simp [r.len],λn q a h1 h2=>?_,λm n a q q' h1 h2 h3 h4 m1 m2=>?_⟩
 ·rcases split h1 with h1 | ⟨rfl,rfl⟩
  ·rcases split h2 with h2 | ⟨rfl,rfl⟩
   ·exact (r.obj n q a h1 h2).keep e (T0 hp a)
   ·rw [r.len,List.getElem?_eq_none (Nat.le_refl _)] at h1;cases h1
  ·rcases split h2 with h2 | ⟨_,rfl⟩
   ·rw [←r.len,List.getElem?_eq_none (Nat.le_refl _)] at h2;cases h2
   ·exact hn
 ·rcases split h1 with g1 | ⟨rfl,ha1⟩ <;> rcases split h2 with g2 | ⟨rfl,ha2⟩
  ·have h3':A[m]?=some q:=by
    rcases split h3 with h3 | ⟨rfl,_⟩
    ·exact h3
    ·rw [←r.len,List.getElem?_eq_none (Nat.le_refl _)] at g1;cases g1
   have h4':A[n]?=some q':=by
    rcases split h4 with h4 | ⟨rfl,_⟩
    ·exact h4
    ·rw [←r.len,List.getElem?_eq_none (Nat.le_refl _)] at g2;cases g2
   exact r.inj m n a q q' g1 g2 h3' h4' m1 m2
  ·have h3':A[m]?=some q:=by
    rcases split h3 with h3 | ⟨rfl,_⟩
    ·exact h3
    ·rw [←r.len,List.getElem?_eq_none (Nat.le_refl _)] at g1;cases g1
   rw [ha2] at g1
   exact (none_new m q g1 h3' m1).elim
  ·have h4':A[n]?=some q':=by
    rcases split h4 with h4 | ⟨rfl,_⟩
    ·exact h4
    ·rw [←r.len,List.getElem?_eq_none (Nat.le_refl _)] at g2;cases g2
   rw [ha1] at g2
   exact (none_new n q' g2 h4' m2).elim
  ·rfl
theorem Ext.put {u:L2.HO} (r:Rel K cm ρ A H) (h1:ρ[n]?=some a) (h2:A[n]?=some o) (m:S9 o=true):Ext ρ H ρ (L2.upd H a u):=by
 have key:∀b w,H b=some w->((∃vs,w=.tup vs)\/∃fs,w=.xd fs)->L2.upd H a u b=some w:=λb w h hw=>by
  have ne:b≠a:=by
   rintro rfl
   have q:=r.obj n o b h2 h1
   cases o with
   | lst l=>obtain⟨xs,z,_⟩:=q;rw [h] at z;cases z;rcases hw with ⟨_,y⟩ | ⟨_,y⟩ <;> cases y
   | ro l=>simp [S9] at m
   | dI kvs=>obtain⟨xs,z,_⟩:=q;rw [h] at z;cases z;rcases hw with ⟨_,y⟩ | ⟨_,y⟩ <;> cases y
   | ins c fs=>obtain⟨_,dx,xs,z,_⟩:=q;rw [h] at z;cases z;rcases hw with ⟨_,y⟩ | ⟨_,y⟩ <;> cases y
   | dT kvs=>obtain⟨xs,z,_⟩:=q;rw [h] at z;cases z;rcases hw with ⟨_,y⟩ | ⟨_,y⟩ <;> cases y
   | exc c v=>obtain⟨o,d,v',z,_⟩:=q;rw [h] at z;cases z;rcases hw with ⟨_,y⟩ | ⟨_,y⟩ <;> cases y
  rw [L2.D6 ne];exact h
 exact⟨List.prefix_refl _,λb vs h=>key b _ h (.inl ⟨_,rfl⟩),λb vs h=>key b _ h (.inr ⟨_,rfl⟩)⟩
theorem Rel.put {u:L2.HO} {o':PO} (r:Rel K cm ρ A H) (h1:ρ[n]?=some a) (h2:A[n]?=some o) (m:S9 o=true) (m':S9 o'=true) (hn:RO K cm ρ (L2.upd H a u) a o'):Rel K cm ρ (A.set n o') (L2.upd H a u):=by
 have e:Ext ρ H ρ (L2.upd H a u):=Ext.put r h1 h2 m
 have hlt:=y6 h2
 refine⟨by simp [r.len],λk q b hk hb=>?_,λi j b q q' e1 e2 e3 e4 m1 m2=>?_⟩
 ·by_cases hkn:k=n
  ·subst hkn
   rw [get_set h2] at hk;cases hk
   rw [h1] at hb;cases hb
   exact hn
  ·rw [L0 hkn] at hk
   have q0:=r.obj k q b hk hb
   by_cases hba:b=a
   ·subst hba
    cases hq:S9 q with
    | true=>exact absurd (r.inj k n b q o hb h1 hk h2 hq m) hkn
    | false=>
      cases q with
      | ro l=>
        obtain⟨xs,z,w⟩:=q0
        rcases z with ⟨v,z⟩ | z
        ·obtain⟨v',z'⟩:=(r.obj n o b h2 h1).some m
         have:=r.obj n o b h2 h1
         rw [z] at z';cases z'
         cases o with
         | lst l=>obtain⟨xs,zz,_⟩:=this;rw [z] at zz;cases zz
         | ro l=>simp [S9] at m
         | dI kvs=>obtain⟨xs,zz,_⟩:=this;rw [z] at zz;cases zz
         | ins c fs=>obtain⟨_,dx,xs,zz,_⟩:=this;rw [z] at zz;cases zz
         | dT kvs=>obtain⟨xs,zz,_⟩:=this;rw [z] at zz;cases zz
         | exc c v=>obtain⟨o,d,v',zz,_⟩:=this;rw [z] at zz;cases zz
        ·exact⟨xs,.inr z,w.mono e⟩
      | _=>simp [S9] at hq
   ·exact q0.keep e λv hv=>by rw [L2.D6 hba];exact hv
 ·have f3:∀(k:Nat) (x:PO),(A.set n o')[k]?=some x->S9 x=true->∃y,A[k]?=some y/\S9 y=true:=λk x hk hx=>by
   by_cases hkn:k=n
   ·subst hkn;exact⟨o,h2,m⟩
   ·rw [L0 hkn] at hk;exact⟨x,hk,hx⟩
  obtain⟨y,y1,y2⟩:=f3 i q e3 m1
  obtain⟨z,z1,z2⟩:=f3 j q' e4 m2
  exact r.inj i j b y z e1 e2 y1 z1 y2 z2
end
end Ws
namespace Ws
open PySem
structure RSt (ρ:List Addr) (H:L2.Hp) (σp:PSt) (σ:L2.St):Prop where
 len:σ.length=σp.length
 get:∀(i:Nat) (p:PV),σp[i]?=some (some p)->∃v,σ[i]?=some (some v)/\RV ρ H p v
theorem RSt.mono {ρ ρ':List Addr} {H H':L2.Hp} {σp:PSt} {σ:L2.St} (h:RSt ρ H σp σ) (e:Ext ρ H ρ' H'):RSt ρ' H' σp σ:=
 ⟨h.len,λi p hp=>let ⟨v,h1,h2⟩:=h.get i p hp;⟨v,h1,h2.mono e⟩⟩
theorem RSt.set {ρ:List Addr} {H:L2.Hp} {σp:PSt} {σ:L2.St} (h:RSt ρ H σp σ) (i:Nat) {x:PV} {v:L2.V} (r:RV ρ H x v):RSt ρ H (σp.set i (some x)) (σ.set i (some v)):=by
 refine⟨by simp [h.len],λj p hp=>?_⟩
 by_cases hij:i=j
 ·subst hij
  by_cases hl:i<σp.length
  ·rw [List.getElem?_set] at hp
   simp [hl] at hp
   subst hp
   exact⟨v,by rw [List.getElem?_set];simp [h.len,hl],r⟩
  ·rw [List.getElem?_eq_none (by simp;omega)] at hp;cases hp
 ·rw [List.getElem?_set_ne hij] at hp ⊢
  exact h.get j p hp
section
variable (K:PySem.W.Frag) (cm:Nat->Addr)
noncomputable def EvE (d:ED):L2.TE:=λσ H Q=>∃(ρ:List Addr) (A:PHp) (σp:PSt) (v:PV) (A':PHp),Rel K cm ρ A H/\RSt ρ H σp σ/\d σp A=.ok v A'/\
 ∀ρ' H' v',Ext ρ H ρ' H'->Rel K cm ρ' A' H'->RV ρ' H' v v'->Q v' H'
noncomputable def EvT (d:TD):L2.TT:=λσ H Q=>∃(ρ:List Addr) (A:PHp) (σp:PSt) (b:Bool) (A':PHp),Rel K cm ρ A H/\RSt ρ H σp σ/\d σp A=.ok b A'/\
 ∀ρ' H',Ext ρ H ρ' H'->Rel K cm ρ' A' H'->Q b H'
noncomputable def EvA (d:AD):L2.TA:=λσ H Q=>∃(ρ:List Addr) (A:PHp) (σp:PSt) (vs:List PV) (A':PHp),Rel K cm ρ A H/\RSt ρ H σp σ/\d σp A=.ok vs A'/\
 ∀ρ' H' vs',Ext ρ H ρ' H'->Rel K cm ρ' A' H'->RVs ρ' H' vs vs'->Q vs' H'
noncomputable def EvG (g:GD):L2.TG:=λv σ H Q=>∃(ρ:List Addr) (A:PHp) (σp:PSt) (x:PV) (σp':PSt) (A':PHp),Rel K cm ρ A H/\RSt ρ H σp σ/\RV ρ H x v/\g x σp A=.ok σp' A'/\
 ∀ρ' H' σ',Ext ρ H ρ' H'->Rel K cm ρ' A' H'->RSt ρ' H' σp' σ'->Q σ' H'
noncomputable def aZ6 (g:GDs):L2.TGs:=λvs σ H Q=>∃(ρ:List Addr) (A:PHp) (σp:PSt) (xs:List PV) (σp':PSt) (A':PHp),Rel K cm ρ A H/\RSt ρ H σp σ/\RVs ρ H xs vs/\g xs σp A=.ok σp' A'/\
 ∀ρ' H' σ',Ext ρ H ρ' H'->Rel K cm ρ' A' H'->RSt ρ' H' σp' σ'->Q σ' H'
noncomputable def bn5 (D:L2.az7) (ρ:List Addr) (H:L2.Hp):Fl->Prop
 | .nx σp=>∀σ,RSt ρ H σp σ->D.nx σ H
 | .bk σp=>∀σ,RSt ρ H σp σ->D.bk σ H
 | .ct σp=>∀σ,RSt ρ H σp σ->D.ct σ H
 | .rt v=>∀v',RV ρ H v v'->D.rt v' H
noncomputable def EvS (s:SD):L2.TS:=λD σ H=>∃(ρ:List Addr) (A:PHp) (σp:PSt) (f:Fl) (A':PHp),Rel K cm ρ A H/\RSt ρ H σp σ/\s σp A=.ok f A'/\
 ∀ρ' H',Ext ρ H ρ' H'->Rel K cm ρ' A' H'->bn5 D ρ' H' f
end
section
variable {X:L2.Cx} {cm:Nat->Addr}
theorem E3 {e:Expr} {t t':L2.TE} (h:L2.PE X e t) (k:∀σ H Q,t' σ H Q->t σ H Q):L2.PE X e t':=λpins s σ H Q I q=>h pins s σ H Q I (k σ H Q q)
theorem y9 {e:Expr} {t t':L2.TT} (h:L2.PT X e t) (k:∀σ H Q,t' σ H Q->t σ H Q):L2.PT X e t':=λpins s σ H Q I q=>h pins s σ H Q I (k σ H Q q)
theorem aQ5 {e:Expr} {t t':L2.TT} (h:L2.PW X e t) (k:∀σ H Q,t' σ H Q->t σ H Q):L2.PW X e t':=λw pins s σ H Q I q=>h w pins s σ H Q I (k σ H Q q)
theorem aQ6 {es:List Expr} {t t':L2.TA} (h:L2.PA X es t) (k:∀σ H Q,t' σ H Q->t σ H Q):L2.PA X es t':=λpos pins s σ H Q I q=>h pos pins s σ H Q I (k σ H Q q)
theorem Y1 {st:Stmt} {t t':L2.TS} (h:L2.PS X st t) (k:∀D σ H,t' D σ H->t D σ H):L2.PS X st t':=λpins s σ H D I q=>h pins s σ H D I (k D σ H q)
theorem aF1 {st:List Stmt} {t t':L2.TS} (h:L2.PSs X st t) (k:∀D σ H,t' D σ H->t D σ H):L2.PSs X st t':=λpins s σ H D I q=>h pins s σ H D I (k D σ H q)
theorem aQ7 {e:Expr} {t t':L2.TG} (h:L2.PG X e t) (k:∀v σ H Q,t' v σ H Q->t v σ H Q):L2.PG X e t':=λpins s σ H v u Q I r q=>h pins s σ H v u Q I r (k v σ H Q q)
theorem aF2 {es:List Expr} {t t':L2.TGs} (h:L2.PGs X es t) (k:∀v σ H Q,t' v σ H Q->t v σ H Q):L2.PGs X es t':=λpins s σ H vs us Q I r q=>h pins s σ H vs us Q I r (k vs σ H Q q)
theorem r_var {i:Nat} {e:Expr} (h:L2.PE X e (L2.a78 i)):L2.PE X e (EvE X.K cm (eVar i)):=E3 h λσ H Q ⟨ρ,A,σp,v,A',r,rs,ev,k⟩=>by
 have:∃p,σp[i]?=some (some p)/\v=p/\A'=A:=by
  unfold eVar at ev
  rcases hσ:σp[i]? with _ | (_ | p)
  ·rw [hσ] at ev;cases ev
  ·rw [hσ] at ev;cases ev
  ·rw [hσ] at ev;cases ev;exact⟨_,rfl,rfl,rfl⟩
 obtain⟨p,hp,rfl,rfl⟩:=this
 obtain⟨u,h1,h2⟩:=rs.get i _ hp
 exact⟨u,h1,k ρ H u (Ext.refl _ _) r h2⟩
theorem r_k {e:Expr} {x:PV} {u:L2.V} (h:L2.PE X e (L2.tC u)) (rv:∀ρ H,RV ρ H x u):L2.PE X e (EvE X.K cm (eK x)):=E3 h λσ H Q ⟨ρ,A,σp,v,A',r,rs,ev,k⟩=>by
 cases ev
 exact k ρ H u (Ext.refl _ _) r (rv ρ H)
theorem r_int {i:Int} {j pos}:L2.PE X (.Constant (.int i) j pos) (EvE X.K cm (eK (.int i))):=r_k L2.a80 λ_ _=>.int i
theorem aB5 {b:Bool} {j pos}:L2.PE X (.Constant (.bool b) j pos) (EvE X.K cm (eK (.bl b))):=r_k L2.bh1 λ_ _=>.bl b
theorem r_non {j pos}:L2.PE X (.Constant .none j pos) (EvE X.K cm (eK .non)):=r_k L2.a81 λ_ _=>.non
noncomputable def M6 (K:PySem.W.Frag) (cm:Nat->Addr) (f:OD) (r:L2.R2):Prop:=∀ρ A H x y z A' vx vy (Q:L2.VK),Rel K cm ρ A H->RV ρ H x vx->RV ρ H y vy->f x y A=.ok z A'->
 (∀ρ' H' v',Ext ρ H ρ' H'->Rel K cm ρ' A' H'->RV ρ' H' z v'->Q v' H')->r vx vy H Q
theorem af0 {f:OD} {r:L2.R2} {a b:ED} (hf:M6 X.K cm f r) {σ:L2.St} {H:L2.Hp} {Q:L2.VK} (h:EvE X.K cm (C3 f a b) σ H Q):L2.tOp r (EvE X.K cm a) (EvE X.K cm b) σ H Q:=by
 obtain⟨ρ,A,σp,z,A',rl,rs,ev,k⟩:=h
 obtain⟨x,A1,e1,ev⟩:=B0 ev
 obtain⟨y,A2,e2,ev⟩:=B0 ev
 exact⟨ρ,A,σp,x,A1,rl,rs,e1,λρ1 H1 vx x1 rl1 rv1=>⟨ρ1,A1,σp,y,A2,rl1,rs.mono x1,e2,λρ2 H2 vy x2 rl2 rv2=>hf ρ2 A2 H2 x y z A' vx vy Q rl2 (rv1.mono x2) rv2 ev λρ3 H3 v3 x3 rl3 rv3=>k ρ3 H3 v3 ((x1.trans x2).trans x3) rl3 rv3⟩⟩
theorem E7 {op:Operator} {f:OD} {r:L2.R2} {a b:Expr} {da db:ED} {pos:Pos} (ho:L2.OpR X (binaryOp op) r) (hf:M6 X.K cm f r) (ha:L2.PE X a (EvE X.K cm da)) (hb:L2.PE X b (EvE X.K cm db)):L2.PE X (.BinOp a op b pos) (EvE X.K cm (C3 f da db)):=
 E3 (L2.bi0 ho ha hb) λσ H Q h=>af0 hf h
theorem ab4 {op:CmpOp} {f:OD} {r:L2.R2} {a b:Expr} {da db:ED} {pos:Pos} (ho:L2.OpR X (compareOp op) r) (hf:M6 X.K cm f r) (ha:L2.PE X a (EvE X.K cm da)) (hb:L2.PE X b (EvE X.K cm db)) (hm:behindInMarks op b=false):L2.PE X (.Compare a [op] [b] pos) (EvE X.K cm (C3 f da db)):=
 E3 (L2.aX5 ho ha hb hm) λσ H Q h=>af0 hf h
theorem t4 {d:ED} {t:L2.TE} (h:∀σ H Q,EvE X.K cm d σ H Q->t σ H Q) {σ:L2.St} {H:L2.Hp} {Q:Bool->L2.Hp->Prop} (q:EvT X.K cm (G1 d) σ H Q):L2.aO3 t σ H Q:=by
 obtain⟨ρ,A,σp,b,A',rl,rs,ev,k⟩:=q
 obtain⟨x,A1,e1,ev⟩:=B0 ev
 refine h σ H _ ⟨ρ,A,σp,x,A1,rl,rs,e1,λρ1 H1 v1 x1 rl1 rv1=>?_⟩
 cases x with
 | bl c=>
   cases ev
   cases rv1
   exact⟨_,rfl,k ρ1 H1 x1 rl1⟩
 | _=>cases ev
theorem J8 {op:CmpOp} {f:OD} {r:L2.R2} {a b:Expr} {da db:ED} {pos:Pos} (ho:L2.OpR X (compareOp op) r) (hf:M6 X.K cm f r) (ha:L2.PE X a (EvE X.K cm da)) (hb:L2.PE X b (EvE X.K cm db)) (hm:behindInMarks op b=false):L2.PT X (.Compare a [op] [b] pos) (EvT X.K cm (G1 (C3 f da db))):=
 y9 (L2.aX6 ho ha hb hm) λσ H Q h=>t4 (λ_ _ _=>af0 hf) h
theorem N3 {e:Expr} {d:ED} (h:L2.PE X e (EvE X.K cm d)) (he:∀whole,isTrue e X.env whole=(do let v ←whole;standAt e.pos;holding [v] (truthy v)):=by intro _;rfl):L2.PT X e (EvT X.K cm (G1 d)):=
 y9 (L2.a84 h he) λσ H Q q=>t4 (λ_ _ _ z=>z) q
theorem okI {f:OD} {g:Int->Int->PV} {g':Int->Int->L2.V} {C:Int->Int->Prop} (h:∀x y A z A',f x y A=.ok z A'->∃i j,x=.int i/\y=.int j/\C i j/\z=g i j/\A'=A) (hg:∀ρ H i j,RV ρ H (g i j) (g' i j)) (K:PySem.W.Frag) (cm:Nat->Addr):M6 K cm f (L2.rI C g'):=
 λρ A H x y z A' vx vy Q rl rx ry ev k=>by
  obtain⟨i,j,rfl,rfl,hc,rfl,rfl⟩:=h _ _ _ _ _ ev
  cases rx;cases ry
  exact⟨i,j,rfl,rfl,hc,k ρ H _ (Ext.refl _ _) rl (hg _ _ _ _)⟩
theorem aQ8 {f:OD} {g:Int->Int->PV} {g':Int->Int->L2.V} (h:∀x y A z A',f x y A=.ok z A'->∃i j,x=.int i/\y=.int j/\z=g i j/\A'=A) (hg:∀ρ H i j,RV ρ H (g i j) (g' i j)) (K:PySem.W.Frag) (cm:Nat->Addr):M6 K cm f (L2.rI0 g'):=
 λρ A H x y z A' vx vy Q rl rx ry ev k=>by
  obtain⟨i,j,rfl,rfl,rfl,rfl⟩:=h _ _ _ _ _ ev
  cases rx;cases ry
  exact⟨i,j,rfl,rfl,k ρ H _ (Ext.refl _ _) rl (hg _ _ _ _)⟩
theorem bd2:M6 X.K cm aZ1 (L2.rI0 λi j=>.int (i - j)):=aQ8 (g:=λi j=>.int (i - j)) (λx y A z A' h=>by cases x <;> cases y <;> first | (cases h;exact⟨_,_,rfl,rfl,rfl,rfl⟩) | cases h) (λ_ _ _ _=>.int _) _ _
theorem aF3:M6 X.K cm oLt (L2.rI0 λi j=>.bl (decide (i<j))):=aQ8 (g:=λi j=>.bl (decide (i<j))) (λx y A z A' h=>by cases x <;> cases y <;> first | (cases h;exact⟨_,_,rfl,rfl,rfl,rfl⟩) | cases h) (λ_ _ _ _=>.bl _) _ _
theorem av6:M6 X.K cm oLe (L2.rI0 λi j=>.bl (decide (i<=j))):=aQ8 (g:=λi j=>.bl (decide (i<=j))) (λx y A z A' h=>by cases x <;> cases y <;> first | (cases h;exact⟨_,_,rfl,rfl,rfl,rfl⟩) | cases h) (λ_ _ _ _=>.bl _) _ _
theorem bj6:M6 X.K cm oGt (L2.rI0 λi j=>.bl (decide (j<i))):=aQ8 (g:=λi j=>.bl (decide (j<i))) (λx y A z A' h=>by cases x <;> cases y <;> first | (cases h;exact⟨_,_,rfl,rfl,rfl,rfl⟩) | cases h) (λ_ _ _ _=>.bl _) _ _
theorem bj7:M6 X.K cm oGe (L2.rI0 λi j=>.bl (decide (j<=i))):=aQ8 (g:=λi j=>.bl (decide (j<=i))) (λx y A z A' h=>by cases x <;> cases y <;> first | (cases h;exact⟨_,_,rfl,rfl,rfl,rfl⟩) | cases h) (λ_ _ _ _=>.bl _) _ _
theorem M5:M6 X.K cm Q0 (L2.rI (λ_ j=>0<j) λi j=>.int (i%j)):=okI (g:=λi j=>.int (i%j)) (λx y A z A' h=>by
 cases x <;> cases y <;> first | (obtain⟨c,h⟩:=C5 h;cases h;exact⟨_,_,rfl,rfl,c,rfl,rfl⟩) | cases h) (λ_ _ _ _=>.int _) _ _
theorem ar2:M6 X.K cm aE9 (L2.rI L2.bi2 λi j=>.int (i / j)):=okI (g:=λi j=>.int (i / j)) (λx y A z A' h=>by
 cases x <;> cases y <;> first | (obtain⟨c,h⟩:=C5 h;cases h;exact⟨_,_,rfl,rfl,c,rfl,rfl⟩) | cases h) (λ_ _ _ _=>.int _) _ _
theorem ar3:M6 X.K cm aq3 (L2.rI L2.CMul λi j=>.int (i*j)):=okI (g:=λi j=>.int (i*j)) (λx y A z A' h=>by
 cases x <;> cases y <;> first | (obtain⟨c,h⟩:=C5 h;cases h;exact⟨_,_,rfl,rfl,c,rfl,rfl⟩) | cases h) (λ_ _ _ _=>.int _) _ _
end
end Ws
namespace Ws
open PySem
section
variable {K:PySem.W.Frag} {ρ:List Addr} {H:L2.Hp} {A:PHp} {n:Nat} {v:L2.V} {l:List PV}
theorem J2 {cm:Nat->Addr} {A':PHp} (rl:Rel K cm ρ A H) (r:RV ρ H (.ref n) v) (h:D0 n A=.ok l A'):A'=A/\∃a xs,v=.ref a/\L2.SqL K H a xs/\RVs ρ H l xs:=by
 cases r with
 | ref hn=>
   unfold D0 at h
   rcases hA:A[n]? with _ | o
   ·rw [hA] at h;cases h
   ·have q:=rl.obj n o _ hA hn
    cases o with
    | lst m=>rw [hA] at h;cases h;obtain⟨xs,h1,h2⟩:=q;exact⟨rfl,_,xs,rfl,L2.SqL.of h1,h2⟩
    | ro m=>rw [hA] at h;cases h;obtain⟨xs,h1,h2⟩:=q;exact⟨rfl,_,xs,rfl,h1.sq,h2⟩
    | dI m=>rw [hA] at h;cases h
    | ins c m=>rw [hA] at h;cases h
    | dT m=>rw [hA] at h;cases h
    | exc c m=>rw [hA] at h;cases h
theorem V3 {cm:Nat->Addr} {A':PHp} (rl:Rel K cm ρ A H) (r:RV ρ H (.ref n) v) (h:Q9 n A=.ok l A'):A'=A/\A[n]?=some (.lst l)/\∃a xs,v=.ref a/\ρ[n]?=some a/\H a=some (.lst xs)/\RVs ρ H l xs:=by
 cases r with
 | ref hn=>
   unfold Q9 at h
   rcases hA:A[n]? with _ | o
   ·rw [hA] at h;cases h
   ·have q:=rl.obj n o _ hA hn
    cases o with
    | lst m=>rw [hA] at h;cases h;obtain⟨xs,h1,h2⟩:=q;exact⟨rfl,rfl,_,xs,rfl,hn,h1,h2⟩
    | ro m=>rw [hA] at h;cases h
    | dI m=>rw [hA] at h;cases h
    | ins c m=>rw [hA] at h;cases h
    | dT m=>rw [hA] at h;cases h
    | exc c m=>rw [hA] at h;cases h
theorem af1 {cm:Nat->Addr} {c:Nat} {fs:List (Nat×PV)} {a:Addr} (rl:Rel K cm ρ A H) (hA:A[n]?=some (.ins c fs)) (hn:ρ[n]?=some a):c<7:=(rl.obj n _ _ hA hn).1.1
theorem t5 {cm:Nat->Addr} {A':PHp} {o:Nat×List (Nat×PV)} (rl:Rel K cm ρ A H) (r:RV ρ H (.ref n) v) (h:T7 n A=.ok o A'):A'=A/\A[n]?=some (.ins o.1 o.2)/\∃a dx kv,v=.ref a/\ρ[n]?=some a/\H a=some (.ins (cm o.1) dx kv)/\Pairs fnm ρ H o.2 kv/\∀p∈o.2,p.1<19:=by
 cases r with
 | ref hn=>
   unfold T7 at h
   rcases hA:A[n]? with _ | o
   ·rw [hA] at h;cases h
   ·have q:=rl.obj n o _ hA hn
    cases o with
    | lst m=>rw [hA] at h;cases h
    | ro m=>rw [hA] at h;cases h
    | dI m=>rw [hA] at h;cases h
    | ins c m=>rw [hA] at h;cases h;obtain⟨hs,dx,kv,h1,h2⟩:=q;exact⟨rfl,rfl,_,dx,kv,rfl,hn,h1,h2,hs.2⟩
    | dT m=>rw [hA] at h;cases h
    | exc c m=>rw [hA] at h;cases h
theorem d6 {cm:Nat->Addr} {x:PV} {A':PHp} (rl:Rel K cm ρ A H) (r:RV ρ H x v) (h:P0 x A=.ok l A'):A'=A/\∃a xs,v=.ref a/\(L2.SqL K H a xs\/L2.SqT K H a xs)/\RVs ρ H l xs:=by
 cases x with
 | ref n=>
   obtain⟨e,a,xs,h1,h2,h3⟩:=J2 rl r h
   exact⟨e,a,xs,h1,.inl h2,h3⟩
 | tup m=>
   cases h
   cases r with
   | tup h1 h2=>exact⟨rfl,_,_,rfl,.inr (L2.SqT.of h1),h2⟩
 | _=>cases h
theorem bd3 {α:Type} (xs:List α) (i:Int):L2.atI xs i=atI xs i:=rfl
theorem RVs.at {xs:List L2.V} {i:Int} {x:PV} (r:RVs ρ H l xs) (h:atI l i=some x):∃u,L2.atI xs i=some u/\RV ρ H x u:=by
 rw [bd3]
 unfold atI at h ⊢
 rw [←r.length]
 rcases e:ixN l.length i with _ | j
 ·rw [e] at h;cases h
 ·rw [e] at h
  obtain⟨u,h1,h2⟩:=r.get (i:=j) h
  exact⟨u,h1,h2⟩
theorem t6 (n d:Nat) (o:Option Int):HT.sIx n d o=j6 n d o:=by
 cases o with
 | none=>rfl
 | some v=>
   have e:=HT.clip_eq v n d
   show HT.sIx n d (some v)=if v<0 then (max (v+n) 0).toNat else (min v n).toNat
   by_cases h:v<0
   ·rw [if_pos h] at e ⊢;omega
   ·rw [if_neg h] at e ⊢;omega
theorem RVs.slc {xs:List L2.V} (r:RVs ρ H l xs) (lo hi:Option Int):RVs ρ H (cut l lo hi) (L2.ap5 xs lo hi):=by
 unfold cut L2.ap5
 rw [t6,t6,←r.length]
 exact (r.drop _).take _
end
theorem V4 {n:Nat} (h:n<=LIM):n<=sizeLine:=Nat.le_trans h (by unfold LIM;rw [sizeLine_eq];decide)
theorem aQ9 {n:Nat} (h:n<LIM):n<sizeLine:=Nat.lt_of_lt_of_le h (by unfold LIM;rw [sizeLine_eq];decide)
section
variable {X:L2.Cx} {cm:Nat->Addr}
noncomputable def a65 (K:PySem.W.Frag):L2.R2:=λx y H Q=>(∃i j,x=.int i/\y=.int j/\Q (.int (i+j)) H)\/(L2.a59 K x y H Q\/L2.rCat x y H Q)
theorem L5:L2.OpR X (binaryOp .Add) (a65 X.K):=L2.op_add.or (L2.op_catT.or L2.bb2)
theorem P6:M6 X.K cm P4 (a65 X.K):=λρ A H x y z A' vx vy Q rl rx ry ev k=>by
 cases x with
 | int i=>
   cases y with
   | int j=>cases ev;cases rx;cases ry;exact .inl ⟨i,j,rfl,rfl,k ρ H _ (Ext.refl _ _) rl (.int _)⟩
   | _=>cases ev
 | tup l=>
   cases y with
   | tup m=>
     obtain⟨c,ev⟩:=C5 ev
     cases ev
     cases rx with
     | tup h1 r1=>
       cases ry with
       | tup h2 r2=>
         refine .inr (.inl ⟨_,_,_,_,rfl,rfl,L2.SqT.of h1,L2.SqT.of h2,?_,?_,?_⟩)
         ·intro e;subst e;have:=r1.length;exact c.1 (List.length_eq_zero_iff.mp (by simpa using this))
         ·rw [←r1.length,←r2.length];exact V4 c.2
         ·refine⟨λz=>?_,λ_ p hp=>?_⟩
          ·subst z
           cases r2
           refine k ρ H _ (Ext.refl _ _) rl ?_
           rw [List.append_nil];exact .tup h1 r1
          ·refine k ρ _ _ (Ext.same hp) (rl.tup hp) (.tup L2.D4 ?_)
           exact (r1.mono (Ext.same hp)).append (r2.mono (Ext.same hp))
   | _=>cases ev
 | ref n=>
   cases y with
   | ref m=>
     obtain⟨l1,A1,e1,ev1⟩:=B0 ev
     obtain⟨rfl,_,a,xs,rfl,_,ha,r1⟩:=V3 rl rx e1
     obtain⟨l2,A2,e2,ev2⟩:=B0 ev1
     obtain⟨rfl,_,b,ys,rfl,_,hb,r2⟩:=V3 rl ry e2
     obtain⟨c,ev3⟩:=C5 ev2
     cases ev3
     refine .inr (.inr ⟨a,b,xs,ys,rfl,rfl,ha,hb,?_,λp hp=>?_⟩)
     ·rw [←r1.length,←r2.length];exact V4 c
     ·have e:Ext ρ H (ρ++[p]) (L2.upd H p (.lst (xs++ys))):=Ext.new hp
      exact k (ρ++[p]) _ _ e (rl.alloc hp ⟨_,L2.D4,(r1.mono e).append (r2.mono e)⟩ rfl) (.ref (by rw [←rl.len];simp))
   | _=>cases ev
 | _=>cases y <;> cases ev
noncomputable def bj8 (K:PySem.W.Frag):L2.R2:=λx y H Q=>L2.bi8 K x y H Q\/L2.bi9 K x y H Q
theorem ix2:L2.IxR X (bj8 X.K):=L2.ix_list.or L2.ba8
theorem bj9:M6 X.K cm oIx (bj8 X.K):=λρ A H x y z A' vx vy Q rl rx ry ev k=>by
 cases y with
 | int i=>
   obtain⟨l,A1,e1,ev1⟩:=B0 ev
   obtain⟨rfl,a,xs,rfl,hs,rs⟩:=d6 rl rx e1
   rcases hi:atI l i with _ | u
   ·rw [hi] at ev1;cases ev1
   ·rw [hi] at ev1
    cases ev1
    cases ry
    obtain⟨w,hw,rw'⟩:=rs.at hi
    rcases hs with hs | hs
    ·exact .inl ⟨a,xs,i,w,rfl,rfl,hs,hw,k ρ H w (Ext.refl _ _) rl rw'⟩
    ·exact .inr ⟨a,xs,i,w,rfl,rfl,hs,hw,k ρ H w (Ext.refl _ _) rl rw'⟩
 | _=>cases ev
theorem N9 {a b:Expr} {da db:ED} {pos:Pos} (ha:L2.PE X a (EvE X.K cm da)) (hb:L2.PE X b (EvE X.K cm db)) (hs:L2.ap7 b):L2.PE X (.Subscript a b pos) (EvE X.K cm (C3 oIx da db)):=
 E3 (L2.a60 ix2 ha hb hs) λσ H Q h=>af0 bj9 h
theorem av7 {ρ:List Addr} {H:L2.Hp} {x:PV} {v:L2.V} (r:RV ρ H x v):decide (v=.non)=au8 x:=by
 cases r <;> simp [au8]
theorem aB6 {a:Expr} {da:ED} {j:Nat} {pos pos':Pos} (ha:L2.PE X a (EvE X.K cm da)):L2.PT X (.Compare a [.Is] [.Constant .none j pos'] pos) (EvT X.K cm (G1 (aP8 da))):=
 y9 (L2.aN6 (L2.a83 ha)) λσ H Q q=>t4 (t:=L2.bh2 (EvE X.K cm da)) (λσ H Q ⟨ρ,A,σp,v,A',rl,rs,ev,k⟩=>by
  obtain⟨x,A1,e1,ev⟩:=B0 ev
  cases ev
  exact⟨ρ,A,σp,x,A',rl,rs,e1,λρ1 H1 v1 x1 rl1 rv1=>k ρ1 H1 _ x1 rl1 (by rw [av7 rv1];exact .bl _)⟩) q
theorem aZ7 {a:Expr} {da:ED} {j:Nat} {pos pos':Pos} (ha:L2.PE X a (EvE X.K cm da)):L2.PT X (.Compare a [.IsNot] [.Constant .none j pos'] pos) (EvT X.K cm (G1 (a62 da))):=
 y9 (L2.aN6 (L2.aW7 ha)) λσ H Q q=>t4 (t:=L2.a54 (EvE X.K cm da)) (λσ H Q ⟨ρ,A,σp,v,A',rl,rs,ev,k⟩=>by
  obtain⟨x,A1,e1,ev⟩:=B0 ev
  cases ev
  exact⟨ρ,A,σp,x,A',rl,rs,e1,λρ1 H1 v1 x1 rl1 rv1=>k ρ1 H1 _ x1 rl1 (by rw [av7 rv1];exact .bl _)⟩) q
theorem av8 {f g:OD} {r r':L2.R2} {a b c:ED} (hf:M6 X.K cm f r) (hg:M6 X.K cm g r') {σ:L2.St} {H:L2.Hp} {Q:L2.VK} (h:EvE X.K cm (m7 f g a b c) σ H Q):L2.az9 r r' (EvE X.K cm a) (EvE X.K cm b) (EvE X.K cm c) σ H Q:=by
 obtain⟨ρ,A,σp,z,A',rl,rs,ev,k⟩:=h
 obtain⟨x,A1,e1,ev⟩:=B0 ev
 obtain⟨y,A2,e2,ev⟩:=B0 ev
 obtain⟨m,A3,e3,ev⟩:=B0 ev
 refine⟨ρ,A,σp,x,A1,rl,rs,e1,λρ1 H1 vx x1 rl1 rv1=>⟨ρ1,A1,σp,y,A2,rl1,rs.mono x1,e2,λρ2 H2 vy x2 rl2 rv2=>hf ρ2 A2 H2 x y m A3 vx vy _ rl2 (rv1.mono x2) rv2 e3 λρ3 H3 v3 x3 rl3 rv3=>?_⟩⟩
 have x13:=(x1.trans x2).trans x3
 cases m with
 | bl t=>
   cases rv3
   refine⟨t,rfl,?_⟩
   cases t with
   | true=>
     rw [if_pos rfl]
     obtain⟨u,A4,e4,ev⟩:=B0 ev
     exact⟨ρ3,A3,σp,u,A4,rl3,rs.mono x13,e4,λρ4 H4 v4 x4 rl4 rv4=>hg ρ4 A4 H4 y u z A' vy v4 Q rl4 ((rv2.mono x3).mono x4) rv4 ev λρ5 H5 v5 x5 rl5 rv5=>k ρ5 H5 v5 ((x13.trans x4).trans x5) rl5 rv5⟩
   | false=>
     rw [if_neg (by simp)]
     cases ev
     exact k ρ3 H3 _ x13 rl3 (.bl false)
 | _=>cases ev
theorem aF4 {op op':CmpOp} {f g:OD} {r r':L2.R2} {a b c:Expr} {da db dc:ED} {pos:Pos} (ho:L2.OpR X (compareOp op) r) (hf:M6 X.K cm f r) (ho':L2.OpR X (compareOp op') r') (hg:M6 X.K cm g r')
 (ha:L2.PE X a (EvE X.K cm da)) (hb:L2.PE X b (EvE X.K cm db)) (hc:L2.PE X c (EvE X.K cm dc)) (hm:lastMarks [op,op'] [b,c]=false:=by with_unfolding_all rfl):L2.PE X (.Compare a [op,op'] [b,c] pos) (EvE X.K cm (m7 f g da db dc)):=
 E3 (L2.aO4 ho ho' ha hb hc hm) λσ H Q h=>av8 hf hg h
theorem aR0 {op op':CmpOp} {f g:OD} {r r':L2.R2} {a b c:Expr} {da db dc:ED} {pos:Pos} (ho:L2.OpR X (compareOp op) r) (hf:M6 X.K cm f r) (ho':L2.OpR X (compareOp op') r') (hg:M6 X.K cm g r')
 (ha:L2.PE X a (EvE X.K cm da)) (hb:L2.PE X b (EvE X.K cm db)) (hc:L2.PE X c (EvE X.K cm dc)) (hm:lastMarks [op,op'] [b,c]=false:=by with_unfolding_all rfl):L2.PT X (.Compare a [op,op'] [b,c] pos) (EvT X.K cm (G1 (m7 f g da db dc))):=
 y9 (L2.aO5 ho ho' ha hb hc hm) λσ H Q h=>t4 (λ_ _ _=>av8 hf hg) h
theorem N4 {a:Expr} {t:TD} {pos:Pos} (h:L2.PT X a (EvT X.K cm t)):L2.PT X (.UnaryOp .Not a pos) (EvT X.K cm (tNot t)):=y9 (L2.a87 h) λσ H Q ⟨ρ,A,σp,b,A',rl,rs,ev,k⟩=>by
 obtain⟨c,A1,e1,ev⟩:=B0 ev
 cases ev
 exact⟨ρ,A,σp,c,A',rl,rs,e1,λρ1 H1 x1 rl1=>k ρ1 H1 x1 rl1⟩
theorem aZ8 {a:Expr} {t:TD} {pos:Pos} (h:L2.PT X a (EvT X.K cm t)):L2.PW X (.BoolOp .And [a] pos) (EvT X.K cm t):=L2.aW8 h
theorem R5 {a:Expr} {t:TD} {pos:Pos} (h:L2.PT X a (EvT X.K cm t)):L2.PW X (.BoolOp .Or [a] pos) (EvT X.K cm t):=L2.a85 h
theorem aR1 {a b:Expr} {rest:List Expr} {t u:TD} {pos:Pos} (ha:L2.PT X a (EvT X.K cm t)) (hb:L2.PW X (.BoolOp .And (b::rest) pos) (EvT X.K cm u)):L2.PW X (.BoolOp .And (a::b::rest) pos) (EvT X.K cm (tAnd t u)):=
 aQ5 (L2.a86 ha hb) λσ H Q ⟨ρ,A,σp,z,A',rl,rs,ev,k⟩=>by
  obtain⟨c,A1,e1,ev⟩:=B0 ev
  refine⟨ρ,A,σp,c,A1,rl,rs,e1,λρ1 H1 x1 rl1=>?_⟩
  cases c with
  | true=>rw [if_pos rfl] at ev ⊢;exact⟨ρ1,A1,σp,z,A',rl1,rs.mono x1,ev,λρ2 H2 x2 rl2=>k ρ2 H2 (x1.trans x2) rl2⟩
  | false=>rw [if_neg (by simp)] at ev ⊢;cases ev;exact k ρ1 H1 x1 rl1
theorem U1 {a b:Expr} {rest:List Expr} {t u:TD} {pos:Pos} (ha:L2.PT X a (EvT X.K cm t)) (hb:L2.PW X (.BoolOp .Or (b::rest) pos) (EvT X.K cm u)):L2.PW X (.BoolOp .Or (a::b::rest) pos) (EvT X.K cm (tOr t u)):=
 aQ5 (L2.bh3 ha hb) λσ H Q ⟨ρ,A,σp,z,A',rl,rs,ev,k⟩=>by
  obtain⟨c,A1,e1,ev⟩:=B0 ev
  refine⟨ρ,A,σp,c,A1,rl,rs,e1,λρ1 H1 x1 rl1=>?_⟩
  cases c with
  | true=>rw [if_pos rfl] at ev ⊢;cases ev;exact k ρ1 H1 x1 rl1
  | false=>rw [if_neg (by simp)] at ev ⊢;exact⟨ρ1,A1,σp,z,A',rl1,rs.mono x1,ev,λρ2 H2 x2 rl2=>k ρ2 H2 (x1.trans x2) rl2⟩
theorem ar4 {x:PV} {A A':PHp} {c:Bool} (h:asB x A=.ok c A'):x=.bl c/\A'=A:=by
 cases x with
 | bl b=>cases h;exact⟨rfl,rfl⟩
 | _=>cases h
theorem z0 {a:Expr} {d:ED} {pos:Pos} (h:L2.PE X a (EvE X.K cm d)):L2.PE X (.BoolOp .And [a] pos) (EvE X.K cm d):=L2.aN7 h
theorem bk0 {a:Expr} {d:ED} {pos:Pos} (h:L2.PE X a (EvE X.K cm d)):L2.PE X (.BoolOp .Or [a] pos) (EvE X.K cm d):=L2.aN7 h
theorem af2 {a b:Expr} {rest:List Expr} {d u:ED} {pos:Pos} (ha:L2.PE X a (EvE X.K cm d)) (hb:L2.PE X (.BoolOp .And (b::rest) pos) (EvE X.K cm u)):L2.PE X (.BoolOp .And (a::b::rest) pos) (EvE X.K cm (aq5 d u)):=
 E3 (L2.a88 ha hb) λσ H Q ⟨ρ,A,σp,z,A',rl,rs,ev,k⟩=>by
  obtain⟨c,A1,e1,ev⟩:=B0 ev
  obtain⟨x,A0,e0,e1⟩:=B0 e1
  obtain⟨rfl,rfl⟩:=ar4 e1
  refine⟨ρ,A,σp,_,_,rl,rs,e0,λρ1 H1 v1 x1 rl1 rv1=>?_⟩
  cases rv1
  refine⟨c,rfl,?_⟩
  cases c with
  | true=>rw [if_pos rfl] at ev ⊢;exact⟨ρ1,_,σp,z,A',rl1,rs.mono x1,ev,λρ2 H2 v2 x2 rl2=>k ρ2 H2 v2 (x1.trans x2) rl2⟩
  | false=>rw [if_neg (by simp)] at ev ⊢;cases ev;exact k ρ1 H1 _ x1 rl1 (.bl false)
theorem bn6 {a b:Expr} {rest:List Expr} {d u:ED} {pos:Pos} (ha:L2.PE X a (EvE X.K cm d)) (hb:L2.PE X (.BoolOp .Or (b::rest) pos) (EvE X.K cm u)):L2.PE X (.BoolOp .Or (a::b::rest) pos) (EvE X.K cm (eOr d u)):=
 E3 (L2.bh6 ha hb) λσ H Q ⟨ρ,A,σp,z,A',rl,rs,ev,k⟩=>by
  obtain⟨c,A1,e1,ev⟩:=B0 ev
  obtain⟨x,A0,e0,e1⟩:=B0 e1
  obtain⟨rfl,rfl⟩:=ar4 e1
  refine⟨ρ,A,σp,_,_,rl,rs,e0,λρ1 H1 v1 x1 rl1 rv1=>?_⟩
  cases rv1
  refine⟨c,rfl,?_⟩
  cases c with
  | true=>rw [if_pos rfl] at ev ⊢;cases ev;exact k ρ1 H1 _ x1 rl1 (.bl true)
  | false=>rw [if_neg (by simp)] at ev ⊢;exact⟨ρ1,_,σp,z,A',rl1,rs.mono x1,ev,λρ2 H2 v2 x2 rl2=>k ρ2 H2 v2 (x1.trans x2) rl2⟩
theorem bk1 {a:Expr} {d:ED} {pos:Pos} (ha:L2.PE X a (EvE X.K cm d)):L2.PE X (.UnaryOp .Not a pos) (EvE X.K cm (bj3 d)):=
 E3 (L2.a89 ha) λσ H Q ⟨ρ,A,σp,z,A',rl,rs,ev,k⟩=>by
  obtain⟨c,A1,e1,ev⟩:=B0 ev
  obtain⟨x,A0,e0,e1⟩:=B0 e1
  obtain⟨rfl,rfl⟩:=ar4 e1
  cases ev
  refine⟨ρ,A,σp,_,_,rl,rs,e0,λρ1 H1 v1 x1 rl1 rv1=>?_⟩
  cases rv1
  exact⟨c,rfl,k ρ1 H1 _ x1 rl1 (.bl _)⟩
theorem bn7 {c a b:Expr} {t:TD} {d u:ED} {pos:Pos} (hc:L2.PT X c (EvT X.K cm t)) (ha:L2.PE X a (EvE X.K cm d)) (hb:L2.PE X b (EvE X.K cm u)):L2.PE X (.IfExp c a b pos) (EvE X.K cm (eIf t d u)):=
 E3 (L2.aN8 hc ha hb) λσ H Q ⟨ρ,A,σp,z,A',rl,rs,ev,k⟩=>by
  obtain⟨c,A1,e1,ev⟩:=B0 ev
  refine⟨ρ,A,σp,c,A1,rl,rs,e1,λρ1 H1 x1 rl1=>?_⟩
  cases c with
  | true=>rw [if_pos rfl] at ev ⊢;exact⟨ρ1,A1,σp,z,A',rl1,rs.mono x1,ev,λρ2 H2 v2 x2 rl2=>k ρ2 H2 v2 (x1.trans x2) rl2⟩
  | false=>rw [if_neg (by simp)] at ev ⊢;exact⟨ρ1,A1,σp,z,A',rl1,rs.mono x1,ev,λρ2 H2 v2 x2 rl2=>k ρ2 H2 v2 (x1.trans x2) rl2⟩
theorem r_nil:L2.PA X [] (EvA X.K cm aNil):=aQ6 L2.ap4 λσ H Q ⟨ρ,A,σp,vs,A',rl,rs,ev,k⟩=>by
 cases ev
 exact k ρ H [] (Ext.refl _ _) rl .nil
theorem r_cons {e:Expr} {es:List Expr} {d:ED} {ds:AD} (h:L2.PE X e (EvE X.K cm d)) (hr:L2.PA X es (EvA X.K cm ds)) (hs:starEach (e::es) X.env=(false,eval e X.env)::starEach es X.env:=by exact G0 rfl):L2.PA X (e::es) (EvA X.K cm (aCons d ds)):=
 aQ6 (L2.X3 h hr hs) λσ H Q ⟨ρ,A,σp,vs,A',rl,rs,ev,k⟩=>by
  obtain⟨x,A1,e1,ev⟩:=B0 ev
  obtain⟨xs,A2,e2,ev⟩:=B0 ev
  cases ev
  exact⟨ρ,A,σp,x,A1,rl,rs,e1,λρ1 H1 v1 x1 rl1 rv1=>⟨ρ1,A1,σp,xs,A',rl1,rs.mono x1,e2,λρ2 H2 vs2 x2 rl2 rv2=>k ρ2 H2 _ (x1.trans x2) rl2 (.cons (rv1.mono x2) rv2)⟩⟩
theorem t7 {es:List Expr} {ds:AD} {x1:Nat} {pos:Pos} (h:L2.PA X es (EvA X.K cm ds)):L2.PE X (.Tuple es x1 pos) (EvE X.K cm (U7 ds)):=
 E3 (L2.ba3 h) λσ H Q ⟨ρ,A,σp,v,A',rl,rs,ev,k⟩=>by
  obtain⟨xs,A1,e1,ev⟩:=B0 ev
  obtain⟨c,ev⟩:=C5 ev
  cases ev
  refine⟨ρ,A,σp,xs,A',rl,rs,e1,λρ1 H1 vs1 x1 rl1 rv1=>⟨by rw [←rv1.length];exact V4 c,λp hp=>?_⟩⟩
  have e:Ext ρ1 H1 ρ1 (L2.upd H1 p (.tup vs1)):=Ext.same hp
  exact k ρ1 _ _ (x1.trans e) (rl1.tup hp) (.tup L2.D4 (rv1.mono e))
theorem V5 {es:List Expr} {ds:AD} {pos:Pos} (h:L2.PA X es (EvA X.K cm ds)):L2.PE X (.List es pos) (EvE X.K cm (j4 ds)):=
 E3 (L2.ba4 h) λσ H Q ⟨ρ,A,σp,v,A',rl,rs,ev,k⟩=>by
  obtain⟨xs,A1,e1,ev⟩:=B0 ev
  obtain⟨c,ev⟩:=C5 ev
  cases ev
  refine⟨ρ,A,σp,xs,A1,rl,rs,e1,λρ1 H1 vs1 x1 rl1 rv1=>⟨by rw [←rv1.length];exact V4 c,λp hp=>?_⟩⟩
  have e:Ext ρ1 H1 (ρ1++[p]) (L2.upd H1 p (.lst vs1)):=Ext.new hp
  exact k (ρ1++[p]) _ _ (x1.trans e) (rl1.alloc hp ⟨_,L2.D4,rv1.mono e⟩ rfl) (.ref (by rw [←rl1.len];simp))
end
end Ws
namespace Ws
open PySem
section
variable {X:L2.Cx} {cm:Nat->Addr}
noncomputable def EvL (K:PySem.W.Frag) (cm:Nat->Addr) (d:LD):L2.TO:=λσ H Q=>∃(ρ:List Addr) (A:PHp) (σp:PSt) (v:Option Int) (A':PHp),Rel K cm ρ A H/\RSt ρ H σp σ/\d σp A=.ok v A'/\
 ∀ρ' H',Ext ρ H ρ' H'->Rel K cm ρ' A' H'->Q v H'
theorem aR2 {e:Option Expr} {t t':L2.TO} (h:L2.PO X e t) (k:∀σ H Q,t' σ H Q->t σ H Q):L2.PO X e t':=λpins s σ H Q I q=>h pins s σ H Q I (k σ H Q q)
theorem r_lno:L2.PO X none (EvL X.K cm lNo):=aR2 L2.aY5 λσ H Q ⟨ρ,A,σp,v,A',rl,rs,ev,k⟩=>by
 cases ev;exact k ρ H (Ext.refl _ _) rl
theorem r_lat {e:Expr} {d:ED} (h:L2.PE X e (EvE X.K cm d)):L2.PO X (some e) (EvL X.K cm (lAt d)):=aR2 (L2.aY6 h) λσ H Q ⟨ρ,A,σp,v,A',rl,rs,ev,k⟩=>by
 obtain⟨x,A1,e1,ev1⟩:=B0 ev
 refine⟨ρ,A,σp,x,A1,rl,rs,e1,λρ1 H1 v1 x1 rl1 rv1=>?_⟩
 cases x with
 | int i=>cases ev1;cases rv1;exact⟨i,rfl,k ρ1 H1 x1 rl1⟩
 | _=>cases ev1
theorem r_cut {e:Expr} {lo hi:Option Expr} {d:ED} {dl dh:LD} {p2 pos:Pos} (he:L2.PE X e (EvE X.K cm d)) (hl:L2.PO X lo (EvL X.K cm dl)) (hu:L2.PO X hi (EvL X.K cm dh)):L2.PE X (.Subscript e (.Slice lo hi none p2) pos) (EvE X.K cm (X5 d dl dh)):=
 E3 (L2.aP1 (L2.sl_list.or L2.ba7) he hl hu) λσ H Q ⟨ρ,A,σp,v,A',rl,rs,ev,k⟩=>by
  obtain⟨x,A1,e1,ev1⟩:=B0 ev
  obtain⟨l,A2,e2,ev2⟩:=B0 ev1
  obtain⟨h,A3,e3,ev3⟩:=B0 ev2
  refine⟨ρ,A,σp,x,A1,rl,rs,e1,λρ1 H1 v1 x1 rl1 rv1=>⟨ρ1,A1,σp,l,A2,rl1,rs.mono x1,e2,λρ2 H2 x2 rl2=>⟨ρ2,A2,σp,h,A3,rl2,(rs.mono x1).mono x2,e3,λρ3 H3 x3 rl3=>?_⟩⟩⟩
  have x13:=(x1.trans x2).trans x3
  have rv3:=rv1.mono (x2.trans x3)
  cases x with
  | ref n=>
    obtain⟨xs,A4,e4,ev4⟩:=B0 ev3
    obtain⟨rfl,a,vs,rfl,hs,r⟩:=J2 rl3 rv3 e4
    cases ev4
    refine .inl ⟨a,vs,rfl,hs,λp hp=>?_⟩
    have e:Ext ρ3 H3 (ρ3++[p]) (L2.upd H3 p (.lst (L2.ap5 vs l h))):=Ext.new hp
    exact k (ρ3++[p]) _ _ (x13.trans e) (rl3.alloc hp ⟨_,L2.D4,(r.slc l h).mono e⟩ rfl) (.ref (by rw [←rl3.len];simp))
  | tup xs=>
    obtain⟨c,ev4⟩:=C5 ev3
    cases ev4
    cases rv3 with
    | tup ha r=>
      refine .inr ⟨_,_,rfl,L2.SqT.of ha,by rw [t6,t6,←r.length];exact c,λp hp=>?_⟩
      exact k ρ3 _ _ (x13.trans (Ext.same hp)) (rl3.tup hp) (.tup L2.D4 ((r.slc l h).mono (Ext.same hp)))
  | _=>cases ev3
theorem U9 {d:ED} {f:PV->M PV} {r:List L2.V->L2.Hp->L2.VK->Prop} {e:ED} (he:∀σ,e σ=bnd (d σ) f)
 (hf:∀ρ A H x z A' v (Q:L2.VK),Rel X.K cm ρ A H->RV ρ H x v->f x A=.ok z A'->(∀ρ' H' v',Ext ρ H ρ' H'->Rel X.K cm ρ' A' H'->RV ρ' H' z v'->Q v' H')->r [v] H Q)
 {σ:L2.St} {H:L2.Hp} {Q:L2.VK} (h:EvE X.K cm e σ H Q):L2.tCB r (EvA X.K cm (aCons d aNil)) σ H Q:=by
 obtain⟨ρ,A,σp,z,A',rl,rs,ev,k⟩:=h
 rw [he] at ev
 obtain⟨x,A1,e1,ev1⟩:=B0 ev
 refine⟨ρ,A,σp,[x],A1,rl,rs,by show bnd (d σp) _ A=_;rw [bnd_ok e1];rfl,λρ1 H1 vs1 x1 rl1 rv1=>?_⟩
 cases rv1 with
 | cons hv hr=>
   cases hr
   exact hf ρ1 A1 H1 x z A' _ Q rl1 hv ev1 λρ2 H2 v2 x2 rl2 rv2=>k ρ2 H2 v2 (x1.trans x2) rl2 rv2
theorem af3 {e:Expr} {d:ED} {p pos:Pos} (he:L2.PE X e (EvE X.K cm d)) (hg:L2.Gl X "len") (hm:X.mg "len" = none) (hs:starEach [e] X.env=(false,eval e X.env)::starEach [] X.env:=by exact G0 rfl):L2.PE X (.Call (.Name "len" p) [e] [] pos) (EvE X.K cm (ae0 d)):=
 E3 (L2.S7 L2.ap9 hg hm PySem.boot_len (r_cons he r_nil hs) (he:=hs)) λσ H Q h=>U9 (f:=λx=>bnd (P0 x) λl=>ret (.int l.length)) (λ_=>rfl) (λρ A H x z A' v Q rl rx ev k=>by
  obtain⟨l,A1,e1,ev1⟩:=B0 ev
  obtain⟨rfl,a,xs,rfl,hq,r⟩:=d6 rl rx e1
  cases ev1
  exact⟨a,xs,rfl,hq,k ρ H _ (Ext.refl _ _) rl (by rw [←r.length];exact .int _)⟩) h
theorem af4 {e:Expr} {d:ED} {p pos:Pos} (he:L2.PE X e (EvE X.K cm d)) (hg:L2.Gl X "list") (hm:X.mg "list" = none) (hv:bootBuiltins "list" = some (.type "list")) (hs:starEach [e] X.env=(false,eval e X.env)::starEach [] X.env:=by exact G0 rfl):L2.PE X (.Call (.Name "list" p) [e] [] pos) (EvE X.K cm (r8 d)):=
 E3 (L2.S5 L2.aq1 hg hm hv (r_cons he r_nil hs) (he:=hs)) λσ H Q h=>U9 (f:=λx=>bnd (P0 x) λl=>alloc (.lst l)) (λ_=>rfl) (λρ A H x z A' v Q rl rx ev k=>by
  obtain⟨l,A1,e1,ev1⟩:=B0 ev
  obtain⟨rfl,a,xs,rfl,hq,r⟩:=d6 rl rx e1
  cases ev1
  refine⟨a,xs,rfl,hq,λp hp=>?_⟩
  have e:Ext ρ H (ρ++[p]) (L2.upd H p (.lst xs)):=Ext.new hp
  exact k (ρ++[p]) _ _ e (rl.alloc hp ⟨_,L2.D4,r.mono e⟩ rfl) (.ref (by rw [←rl.len];simp))) h
theorem Pairs.look {f:Nat->Str} {ρ:List Addr} {H:L2.Hp} (hf:∀i j,f i=f j->i<19->j<19->i=j):∀{kvs:List (Nat×PV)} {kv:List (Str×L2.V)} {i:Nat} {x:PV},Pairs f ρ H kvs kv->(∀p∈kvs,p.1<19)->i<19->U8 i kvs=some x->∃v,kv.lookup (f i)=some v/\RV ρ H x v
 | [],kv,i,x,h,_,_,e=>by cases e
 | (g,u)::r,kv,i,x,h,hs,hi,e=>by
   cases kv with
   | nil=>have:=h.keys;simp at this
   | cons p q=>
     have k:=h.keys
     simp only [List.map_cons,List.cons.injEq] at k
     have hv:=h.vals
     simp only [List.map_cons] at hv
     cases hv with
     | cons h1 h2=>
       have hg:g<19:=hs _ List.mem_cons_self
       obtain⟨p1,p2⟩:=p
       by_cases hgi:g=i
       ·subst hgi
        simp [U8] at e
        subst e
        exact⟨p2,by rw [List.lookup_cons];simp [show p1=f g from k.1],h1⟩
       ·have hne:¬f i=p1:=λz=>hgi (hf g i (by rw [z];exact k.1.symm) hg hi)
        simp only [U8,hgi,if_false] at e
        obtain⟨v,a,b⟩:=Pairs.look hf (kvs:=r) (kv:=q) ⟨k.2,h2⟩ (λp hp=>hs p (List.mem_cons_of_mem _ hp)) hi e
        refine⟨v,?_,b⟩
        rw [List.lookup_cons,beq_eq_false_iff_ne.mpr hne]
        exact a
end
end Ws
namespace Ws
open PySem
theorem aF5:∀i j,fnm i=fnm j->i<19->j<19->i=j:=by
 intro i j h hi hj
 have key:∀i:_root_.Fin 19,∀j:_root_.Fin 19,fnm i.1=fnm j.1->i=j:=by decide +kernel
 exact congrArg (·.1) (key ⟨i,hi⟩ ⟨j,hj⟩ h)
section
variable {X:L2.Cx} {cm:Nat->Addr}
theorem U2 {o:Expr} {d:ED} {f:Str} {i:Nat} {pos:Pos} (he:L2.PE X o (EvE X.K cm d)) (hf:fnm i=f) (hi:i<19) (hc:∀c,c<7->L2.Cls X.K (cm c)) (hn:∀c,c<7->L2.NoAttr X.K (cm c) f)
 (hb:attributeBase o f X.env (eval o X.env)=eval o X.env:=by rfl):L2.PE X (.Attribute o f pos) (EvE X.K cm (j5 d i)):=
 E3 (L2.ba1 he hb) λσ H Q ⟨ρ,A,σp,v,A',rl,rs,ev,k⟩=>by
  obtain⟨x,A1,e1,ev1⟩:=B0 ev
  refine⟨ρ,A,σp,x,A1,rl,rs,e1,λρ1 H1 v1 x1 rl1 rv1=>?_⟩
  cases x with
  | ref n=>
    obtain⟨o,A2,e2,ev2⟩:=B0 ev1
    obtain⟨rfl,hA,a,dx,kv,rfl,hn',hH,hp,hs⟩:=t5 rl1 rv1 e2
    rcases hg:U8 i o.2 with _ | u
    ·rw [hg] at ev2;cases ev2
    ·rw [hg] at ev2
     cases ev2
     obtain⟨w,hw,rw'⟩:=hp.look aF5 hs hi hg
     rw [hf] at hw
     exact⟨a,_,dx,kv,w,rfl,hH,hc _ (af1 rl1 hA hn'),hn _ (af1 rl1 hA hn'),hw,k ρ1 H1 w x1 rl1 rw'⟩
  | _=>cases ev1
theorem Pairs.put {ρ:List Addr} {H:L2.Hp} {i:Nat} {x:PV} {v:L2.V} (hi:i<19) (rv:RV ρ H x v):∀{kvs:List (Nat×PV)} {kv:List (Str×L2.V)},Pairs fnm ρ H kvs kv->(∀p∈kvs,p.1<19)->Pairs fnm ρ H (putFld i x kvs) (L2.T5 (fnm i) v kv)
 | [],kv,h,_=>by
   cases kv with
   | nil=>exact⟨rfl,.cons rv .nil⟩
   | cons p q=>have:=h.keys;simp at this
 | (g,u)::r,kv,h,hs=>by
   cases kv with
   | nil=>have:=h.keys;simp at this
   | cons p q=>
     have k:=h.keys
     simp only [List.map_cons,List.cons.injEq] at k
     have hv:=h.vals
     simp only [List.map_cons] at hv
     cases hv with
     | cons h1 h2=>
       obtain⟨p1,p2⟩:=p
       have hg:g<19:=hs _ List.mem_cons_self
       have k1:p1=fnm g:=k.1
       by_cases hgi:g=i
       ·subst hgi
        have e:L2.T5 (fnm g) v ((p1,p2)::q)=(p1,v)::q:=by
         show (if p1=fnm g then _ else _)=_
         rw [if_pos k1]
        rw [e]
        simp only [putFld,if_true]
        exact⟨by simp [k1,k.2],.cons rv h2⟩
       ·have hne:¬p1=fnm i:=λz=>hgi (aF5 g i (by rw [←z];exact k1.symm) hg hi)
        have e:L2.T5 (fnm i) v ((p1,p2)::q)=(p1,p2)::L2.T5 (fnm i) v q:=by
         show (if p1=fnm i then _ else _)=_
         rw [if_neg hne]
        rw [e]
        simp only [putFld,hgi,if_false]
        have ih:=Pairs.put hi rv (kvs:=r) (kv:=q) ⟨k.2,h2⟩ λp hp=>hs p (List.mem_cons_of_mem _ hp)
        exact⟨by simp only [List.map_cons];rw [ih.keys,k1],.cons h1 ih.vals⟩
theorem al9 {i:Nat} {x:PV} (hi:i<19):∀{kvs:List (Nat×PV)},(∀p∈kvs,p.1<19)->∀p∈putFld i x kvs,p.1<19
 | [],_,p,hp=>by simp [putFld] at hp;subst hp;exact hi
 | (g,u)::r,hs,p,hp=>by
   unfold putFld at hp
   split at hp
   ·rcases List.mem_cons.mp hp with rfl | hp
    ·exact hs (g,u) List.mem_cons_self
    ·exact hs p (List.mem_cons_of_mem _ hp)
   ·rcases List.mem_cons.mp hp with rfl | hp
    ·exact hs (g,u) List.mem_cons_self
    ·exact al9 hi (λq hq=>hs q (List.mem_cons_of_mem _ hq)) p hp
theorem af5 {o value:Expr} {d e:ED} {f:Str} {i:Nat} {pos pos':Pos} (ho:L2.PE X o (EvE X.K cm d)) (hv:L2.PE X value (EvE X.K cm e)) (hf:fnm i=f) (hi:i<19) (hc:∀c,c<7->L2.Cls X.K (cm c)) (hn:∀c,c<7->L2.NoAttr X.K (cm c) f)
 (hs:swapsWith value (some (.Attribute o f pos')) pos.line X.env=pure false:=by rfl):L2.PS X (.Assign [.Attribute o f pos'] value pos) (EvS X.K cm (sFld d i e)):=
 Y1 (L2.ba2 ho hv hs) λD σ H ⟨ρ,A,σp,fl,A',rl,rs,ev,k⟩=>by
  obtain⟨y,A1,e1,ev1⟩:=B0 ev
  obtain⟨x,A2,e2,ev2⟩:=B0 ev1
  refine⟨ρ,A,σp,y,A1,rl,rs,e1,λρ1 H1 v1 x1 rl1 rv1=>⟨ρ1,A1,σp,x,A2,rl1,rs.mono x1,e2,λρ2 H2 v2 x2 rl2 rv2=>?_⟩⟩
  cases x with
  | ref n=>
    obtain⟨o,A3,e3,ev3⟩:=B0 ev2
    obtain⟨rfl,hA,a,dx,kv,rfl,hn',hH,hp,hs'⟩:=t5 rl2 rv2 e3
    obtain⟨c,ev4⟩:=C5 ev3
    cases ev4
    have hkl:kv.length=o.2.length:=by have:=congrArg List.length hp.keys;simpa using this
    refine⟨a,cm o.1,dx,kv,rfl,hH,hc _ (af1 rl2 hA hn'),hn _ (af1 rl2 hA hn'),by omega,?_⟩
    rw [←hf]
    have ex:Ext ρ2 H2 ρ2 (L2.upd H2 a (.ins (cm o.1) dx (L2.T5 (fnm i) v1 kv))):=Ext.put rl2 hn' hA rfl
    have rl3:Rel X.K cm ρ2 (A3.set n (.ins o.1 (putFld i y o.2))) (L2.upd H2 a (.ins (cm o.1) dx (L2.T5 (fnm i) v1 kv))):=
     rl2.put hn' hA rfl rfl ⟨⟨af1 rl2 hA hn',al9 hi hs'⟩,dx,_,L2.D4,(hp.mono ex).put hi ((rv1.mono x2).mono ex) hs'⟩
    exact k ρ2 _ ((x1.trans x2).trans ex) rl3 σ (((rs.mono x1).mono x2).mono ex)
  | _=>cases ev2
theorem V6 {o e:Expr} {d u:ED} {apos cpos:Pos} (ho:L2.PE X o (EvE X.K cm d)) (he:L2.PE X e (EvE X.K cm u))
 (hb:attributeBase o "append" X.env (eval o X.env)=eval o X.env:=by rfl) (hs:starEach [e] X.env=(false,eval e X.env)::starEach [] X.env:=by exact G0 rfl)
 (hfew:((backTo cpos (starEach [e] X.env)).all (λx=>!x.1)&&(backToKw cpos (keywordEach [] X.env)).all (λx=>x.1.isSome)&&decide ([e].length+([]:List Keyword).length+(if ([]:List Keyword).isEmpty then 0 else 1)<30))=true:=by rfl)
 (hline:(apos.endLine == cpos.line)=true:=by rfl):L2.PE X (.Call (.Attribute o "append" apos) [e] [] cpos) (EvE X.K cm (P5 d u)):=
 E3 (L2.aP2 PySem.F.plainAttrs_list PySem.F.slot_list_append PySem.F.type_list_append L2.aJ8 ho (r_cons he r_nil hs) (hbase:=hb) (hfew:=hfew) (hline:=hline) (hs:=hs)) λσ H Q ⟨ρ,A,σp,v,A',rl,rs,ev,k⟩=>by
  obtain⟨x,A1,e1,ev1⟩:=B0 ev
  refine⟨ρ,A,σp,x,A1,rl,rs,e1,λρ1 H1 v1 x1 rl1 rv1=>?_⟩
  cases x with
  | ref n=>
    obtain⟨l0,A2,e2,ev2⟩:=B0 ev1
    obtain⟨rfl,hA,a,xs,rfl,hn,hH,r0⟩:=V3 rl1 rv1 e2
    refine⟨.inl ⟨rfl,xs,L2.SqL.of hH⟩,?_⟩
    obtain⟨y,A3,e3,ev3⟩:=B0 ev2
    obtain⟨l,A4,e4,ev4⟩:=B0 ev3
    obtain⟨c,ev5⟩:=C5 ev4
    cases ev5
    refine⟨ρ1,_,σp,[y],A3,rl1,rs.mono x1,by show bnd (u σp) _ _=_;rw [bnd_ok e3];rfl,λρ2 H2 vs2 x2 rl2 rv2=>?_⟩
    cases rv2 with
    | cons hv hr=>
      cases hr
      obtain⟨rfl,hA2,a2,ys,e5,hn2,hH2,r2⟩:=V3 rl2 (rv1.mono x2) e4
      cases e5
      refine⟨a,ys,_,rfl,rfl,hH2,by rw [←r2.length];exact aQ9 c,?_⟩
      refine k ρ2 _ _ ((x1.trans x2).trans (Ext.put rl2 hn2 hA2 rfl)) (rl2.put hn2 hA2 rfl rfl ⟨_,L2.D4,?_⟩) .non
      exact (r2.mono (Ext.put rl2 hn2 hA2 rfl)).append (.cons (hv.mono (Ext.put rl2 hn2 hA2 rfl)) .nil)
  | _=>cases ev1
theorem g_name {i:Nat} {e:Expr} (h:L2.PG X e (L2.gName i)):L2.PG X e (EvG X.K cm (gName i)):=aQ7 h λv σ H Q ⟨ρ,A,σp,x,σp',A',rl,rs,rv,ev,k⟩=>by
 cases ev
 exact k ρ H _ (Ext.refl _ _) rl (rs.set i rv)
theorem am0:L2.PGs X [] (aZ6 X.K cm gNil):=aF2 L2.aX2 λvs σ H Q ⟨ρ,A,σp,xs,σp',A',rl,rs,rv,ev,k⟩=>by
 cases xs with
 | nil=>cases ev;cases rv;exact⟨rfl,k ρ H _ (Ext.refl _ _) rl rs⟩
 | cons y ys=>cases ev
theorem g_cons {e:Expr} {es:List Expr} {g:GD} {r:GDs} (h1:L2.PG X e (EvG X.K cm g)) (h2:L2.PGs X es (aZ6 X.K cm r)) (hs:(assignEach (e::es) X.env).map (·.2)=assign e X.env::(assignEach es X.env).map (·.2):=by rfl):L2.PGs X (e::es) (aZ6 X.K cm (gCons g r)):=
 aF2 (L2.aO1 h1 h2 hs) λvs σ H Q ⟨ρ,A,σp,xs,σp',A',rl,rs,rv,ev,k⟩=>by
  cases xs with
  | nil=>cases ev
  | cons y ys=>
    obtain⟨σ1,A1,e1,ev1⟩:=B0 ev
    cases rv with
    | cons hv hr=>
      exact⟨_,_,rfl,ρ,A,σp,y,σ1,A1,rl,rs,hv,e1,λρ1 H1 σ' x1 rl1 rs1=>⟨ρ1,A1,σ1,ys,σp',A',rl1,rs1,hr.mono x1,ev1,λρ2 H2 σ2 x2 rl2 rs2=>k ρ2 H2 σ2 (x1.trans x2) rl2 rs2⟩⟩
theorem g_tup {es:List Expr} {j n:Nat} {g:GDs} {pos:Pos} (hc:X.calm=true) (h:L2.PGs X es (aZ6 X.K cm g)) (hn:(assignEach es X.env).length=n:=by rfl) (hst:(assignEach es X.env).findIdx? (·.1)=none:=by rfl):L2.PG X (.Tuple es j pos) (EvG X.K cm (gTup n g)):=
 aQ7 (L2.a91 hc h hn hst) λv σ H Q ⟨ρ,A,σp,x,σp',A',rl,rs,rv,ev,k⟩=>by
  cases x with
  | tup l=>
    obtain⟨c,ev1⟩:=C5 ev
    cases rv with
    | tup ha r=>exact⟨_,_,rfl,L2.SqT.of ha,by rw [←r.length];exact c,ρ,A,σp,l,σp',A',rl,rs,r,ev1,k⟩
  | _=>cases ev
theorem S0 {st:Stmt}:L2.PS X st (EvS X.K cm sNever):=Y1 L2.aO0 λD σ H ⟨ρ,A,σp,f,A',rl,rs,ev,k⟩=>by cases ev
theorem J3:L2.PSs X [] (EvS X.K cm sPass):=aF1 L2.aW9 λD σ H ⟨ρ,A,σp,f,A',rl,rs,ev,k⟩=>by
 cases ev;exact k ρ H (Ext.refl _ _) rl σ rs
theorem C6 {st:Stmt} {s:SD} (h:L2.PS X st (EvS X.K cm s)):L2.PSs X [st] (EvS X.K cm s):=L2.aX0 h
theorem C1 {st:Stmt} {rest:List Stmt} {s r:SD} (h1:L2.PS X st (EvS X.K cm s)) (h2:L2.PSs X rest (EvS X.K cm r)):L2.PSs X (st::rest) (EvS X.K cm (D9 s r)):=
 aF1 (L2.aN9 h1 h2) λD σ H ⟨ρ,A,σp,f,A',rl,rs,ev,k⟩=>by
  obtain⟨o,A1,e1,ev1⟩:=B0 ev
  refine⟨ρ,A,σp,o,A1,rl,rs,e1,λρ1 H1 x1 rl1=>?_⟩
  cases o with
  | nx σ1=>exact λσ' rs'=>⟨ρ1,A1,σ1,f,A',rl1,rs',ev1,λρ2 H2 x2 rl2=>k ρ2 H2 (x1.trans x2) rl2⟩
  | rt v=>cases ev1;exact λv' rv=>k ρ1 H1 x1 rl1 v' rv
  | bk σ1=>cases ev1;exact λσ' rs'=>k ρ1 H1 x1 rl1 σ' rs'
  | ct σ1=>cases ev1;exact λσ' rs'=>k ρ1 H1 x1 rl1 σ' rs'
theorem z5 {e:Expr} {d:ED} {pos:Pos} (h:L2.PE X e (EvE X.K cm d)) (hs:swapsWith e none pos.line X.env=pure false:=by rfl):L2.PS X (.Expr e pos) (EvS X.K cm (ab0 d)):=
 Y1 (L2.aX1 h hs) λD σ H ⟨ρ,A,σp,f,A',rl,rs,ev,k⟩=>by
  obtain⟨x,A1,e1,ev1⟩:=B0 ev
  cases ev1
  exact⟨ρ,A,σp,x,A',rl,rs,e1,λρ1 H1 v1 x1 rl1 rv1=>k ρ1 H1 x1 rl1 σ (rs.mono x1)⟩
theorem G5 {e:Expr} {d:ED} {pos:Pos} (h:L2.PE X e (EvE X.K cm d)):L2.PS X (.Return (some e) pos) (EvS X.K cm (K8 d)):=
 Y1 (L2.a90 h) λD σ H ⟨ρ,A,σp,f,A',rl,rs,ev,k⟩=>by
  obtain⟨x,A1,e1,ev1⟩:=B0 ev
  cases ev1
  exact⟨ρ,A,σp,x,A',rl,rs,e1,λρ1 H1 v1 x1 rl1 rv1=>k ρ1 H1 x1 rl1 v1 rv1⟩
theorem T1 {c:Expr} {a b:List Stmt} {t:TD} {s u:SD} {pos:Pos} (hc:L2.PT X c (EvT X.K cm t)) (ha:L2.PSs X a (EvS X.K cm s)) (hb:L2.PSs X b (EvS X.K cm u)):L2.PS X (.If c a b pos) (EvS X.K cm (sIf t s u)):=
 Y1 (L2.bh8 hc ha hb) λD σ H ⟨ρ,A,σp,f,A',rl,rs,ev,k⟩=>by
  obtain⟨x,A1,e1,ev1⟩:=B0 ev
  refine⟨ρ,A,σp,x,A1,rl,rs,e1,λρ1 H1 x1 rl1=>?_⟩
  cases x with
  | true=>rw [if_pos rfl] at ev1 ⊢;exact⟨ρ1,A1,σp,f,A',rl1,rs.mono x1,ev1,λρ2 H2 x2 rl2=>k ρ2 H2 (x1.trans x2) rl2⟩
  | false=>rw [if_neg (by simp)] at ev1 ⊢;exact⟨ρ1,A1,σp,f,A',rl1,rs.mono x1,ev1,λρ2 H2 x2 rl2=>k ρ2 H2 (x1.trans x2) rl2⟩
theorem aR3 {d:ED} {g:GD} {te:L2.TE} {tg:L2.TG} (he:∀σ H Q,EvE X.K cm d σ H Q->te σ H Q) (hg:∀v σ H Q,EvG X.K cm g v σ H Q->tg v σ H Q) {D:L2.az7} {σ:L2.St} {H:L2.Hp} (h:EvS X.K cm (J7 d g) D σ H):L2.a92 te tg D σ H:=by
 obtain⟨ρ,A,σp,f,A',rl,rs,ev,k⟩:=h
 obtain⟨x,A1,e1,ev1⟩:=B0 ev
 obtain⟨σ1,A2,e2,ev2⟩:=B0 ev1
 cases ev2
 exact he _ _ _ ⟨ρ,A,σp,x,A1,rl,rs,e1,λρ1 H1 v1 x1 rl1 rv1=>hg _ _ _ _ ⟨ρ1,A1,σp,x,σ1,A',rl1,rs.mono x1,rv1,e2,λρ2 H2 σ2 x2 rl2 rs2=>k ρ2 H2 (x1.trans x2) rl2 σ2 rs2⟩⟩
theorem bk2 {tg e:Expr} {d:ED} {g:GD} {pos:Pos} (he:L2.PE X e (EvE X.K cm d)) (hg:L2.PG X tg (EvG X.K cm g)) (hs:swapsWithSole [tg] e pos.line X.env=pure false:=by rfl) (hw:swappedStores [tg] e X.env=pure none:=by rfl)
 (h1:(assignEach [tg] X.env).map (·.2)=[assign tg X.env]:=by rfl):L2.PS X (.Assign [tg] e pos) (EvS X.K cm (J7 d g)):=
 Y1 (L2.a93 he hg hs hw h1) λD σ H h=>aR3 (λ_ _ _ z=>z) (λ_ _ _ _ z=>z) h
theorem G9 {i:Nat} {x:Str} {e:Expr} {d:ED} {pos pos':Pos} (hN:X.N.Nodup) (hi:X.N[i]?=some x) (hx:L2.Loc X.env.scope x) (he:L2.PE X e (EvE X.K cm d)) (hs:swapsWith e (some (.Name x pos')) pos.line X.env=pure false:=by rfl)
 (hf:X.fn x=true\/X.env.scope.names.lookup x=some .local:=by first | exact .inl rfl | exact .inr rfl | assumption):L2.PS X (.Assign [.Name x pos'] e pos) (EvS X.K cm (J7 d (gName i))):=
 Y1 (L2.a94 hN hi hx he hs hf) λD σ H h=>aR3 (λ_ _ _ z=>z) (λv σ H Q ⟨ρ,A,σp,x,σp',A',rl,rs,rv,ev,k⟩=>by
  cases ev
  exact k ρ H _ (Ext.refl _ _) rl (rs.set i rv)) h
end
end Ws
namespace Ws
open PySem
noncomputable def SpF (K:PySem.W.Frag) (cm:Nat->Addr) (f:Fun) (n:Nat):L2.Sp:=λvs H Q _=>∃(ρ:List Addr) (A:PHp) (ps:List PV) (v:PV) (A':PHp),Rel K cm ρ A H/\RVs ρ H ps vs/\ps.length=n/\f ps A=.ok v A'/\
 ∀ρ' H' v',Ext ρ H ρ' H'->Rel K cm ρ' A' H'->RV ρ' H' v v'->Q v' H'
theorem RSt.start0 {ρ:List Addr} {H:L2.Hp} {ps:List PV} {vs:List L2.V} {N:List Str} (r:RVs ρ H ps vs):RSt ρ H (Ws.start N.length ps) (L2.start N vs):=by
 have hl:=r.length
 refine⟨by unfold Ws.start L2.start;simp [hl],λi p hp=>?_⟩
 unfold Ws.start at hp
 by_cases hi:i<ps.length
 ·rw [List.getElem?_append_left (by simpa using hi),List.getElem?_map] at hp
  rcases e:ps[i]? with _ | q
  ·rw [e] at hp;cases hp
  ·rw [e] at hp;cases hp
   obtain⟨v,h1,h2⟩:=r.get e
   refine⟨v,?_,h2⟩
   unfold L2.start
   rw [List.getElem?_append_left (by simp;omega),List.getElem?_map,h1];rfl
 ·rw [List.getElem?_append_right (by simpa using hi),List.getElem?_replicate] at hp
  split at hp <;> cases hp
section
variable {P:Program} {w:World} {K:PySem.W.Frag} {mg:Str->Option Value} {base:Heap} {cm:Nat->Addr}
theorem K5 {x qual:Str} {st:Stmt} {f:Addr} {fd:FuncData} {N ps:List Str} {k:Nat} {s:SD} (F:L2.Fun K x qual st f fd) (S:L2.D5 N ps (L2.B9 st))
 (hbody:∀(cdv:Value) (A:Around) (outer:List Env) (s0:Shared) (H:L2.Hp) (E:L2.XK),L2.Room k (A.deeper (PyProof.Rows.envOfC qual (L2.B9 st) s0.heap.objs.size f cdv))->
  L2.PSs (L2.aA5 L2.CX0 P w K mg base N qual (L2.B9 st) f cdv A outer s0 H E).nox (L2.C2 st) (EvS K cm s)) :
 L2.FnOk P w K mg base L2.CX0 (k+1) f fd ps (SpF K cm (fn N.length ps.length s) ps.length):=by
 refine F.ok S (λvs H Q E ⟨ρ,A,qs,v,A',rl,rv,hl,_,_⟩=>by rw [←rv.length];exact hl) λcdv A outer s0 H vs Q E hr h=>⟨_,hbody cdv A outer s0 H E hr,?_⟩
 obtain⟨ρ,B,qs,v,B',rl,rv,hl,ev,k⟩:=h
 obtain⟨_,ev1⟩:=C5 ev
 obtain⟨o,B1,e1,ev2⟩:=B0 ev1
 refine⟨ρ,B,Ws.start N.length qs,o,B1,rl,RSt.start0 rv,e1,λρ1 H1 x1 rl1=>?_⟩
 cases o with
 | nx σ1=>cases ev2;exact λσ' _=>k ρ1 H1 _ x1 rl1 .non
 | rt u=>cases ev2;exact λv' rv'=>k ρ1 H1 v' x1 rl1 rv'
 | bk σ1=>cases ev2
 | ct σ1=>cases ev2
end
section
variable {X:L2.Cx} {cm:Nat->Addr}
theorem aZ9 {f:Fun} {n:Nat} {ds:AD} (hn:∀vs A v A',f vs A=.ok v A'->vs.length=n) {σ:L2.St} {H:L2.Hp} {Q:L2.VK} (h:EvE X.K cm (E5 f ds) σ H Q):L2.a56 (SpF X.K cm f n) [] L2.E0 (EvA X.K cm ds) σ H Q:=by
 obtain⟨ρ,A,σp,v,A',rl,rs,ev,k⟩:=h
 obtain⟨xs,A1,e1,ev1⟩:=B0 ev
 refine⟨ρ,A,σp,xs,A1,rl,rs,e1,λρ1 H1 vs1 x1 rl1 rv1=>?_⟩
 show SpF X.K cm f n (vs1++[]) H1 Q _
 rw [List.append_nil]
 exact⟨ρ1,A1,xs,v,A',rl1,rv1,hn _ _ _ _ ev1,ev1,λρ2 H2 v2 x2 rl2 rv2=>k ρ2 H2 v2 (x1.trans x2) rl2 rv2⟩
theorem G7 {n p:Nat} {s:SD} {vs:List PV} {A A':PHp} {v:PV} (h:fn n p s vs A=.ok v A'):vs.length=p:=(C5 h).1
theorem bd4 {f:Fun} {n k:Nat} {fa:Addr} {fd:FuncData} {ps:List Str} {x:Str} {e:Expr} {es:List Expr} {ds:AD} {p pos:Pos} (F:L2.FnOk X.prog X.w X.K X.mg X.base L2.CX0 k fa fd ps (SpF X.K cm f n)) (hn:∀vs A v A',f vs A=.ok v A'->vs.length=n) (hr:L2.Room k X.A) (hg:L2.Gl X x) (hm:X.mg x=some (.ref fa)) (hk:PySem.W.keepIn X.K (.ref fa)=true) (hb:L2.Binds X.K fd ps [])
 (ha:L2.PA X (e::es) (EvA X.K cm ds)) (hdb:(x == ("__debug__" : Str))=false:=by decide) (he:starEach (e::es) X.env=(false,eval e X.env)::starEach es X.env:=by exact G0 rfl) (hpl:(backTo pos (starEach es X.env)).any (·.1)=false:=by rfl) :
 L2.PE X (.Call (.Name x p) (e::es) [] pos) (EvE X.K cm (E5 f ds)):=
 E3 (L2.aY1 F hr hg hm hk hb .nil L2.aP4 ha hdb he hpl) λσ H Q h=>aZ9 hn h
theorem a00 {c:Nat} {f:Fun} {n:Nat} {m:Str} {d:ED} {ds:AD} (hn:∀vs A v A',f vs A=.ok v A'->vs.length=n) (hm:∀i,i<19->fnm i≠m) {σ:L2.St} {H:L2.Hp} {Q:L2.VK} (h:EvE X.K cm (al4 c f d ds) σ H Q) :
 L2.a57 (cm c) m (SpF X.K cm f n) [] L2.E0 (EvE X.K cm d) (EvA X.K cm ds) σ H Q:=by
 obtain⟨ρ,A,σp,v,A',rl,rs,ev,k⟩:=h
 obtain⟨x,A1,e1,ev1⟩:=B0 ev
 refine⟨ρ,A,σp,x,A1,rl,rs,e1,λρ1 H1 v1 x1 rl1 rv1=>?_⟩
 cases x with
 | ref j=>
   obtain⟨o,A2,e2,ev2⟩:=B0 ev1
   obtain⟨rfl,hA,a,dx,kv,rfl,hn',hH,hp,hs⟩:=t5 rl1 rv1 e2
   obtain⟨hc,ev3⟩:=C5 ev2
   obtain⟨xs,A3,e3,ev4⟩:=B0 ev3
   subst hc
   have hno:kv.lookup m=none:=by
    have key:∀(l:List (Str×L2.V)),(∀z∈l.map (·.1),z≠m)->l.lookup m=none:=λl=>by
     induction l with
     | nil=>intro _;rfl
     | cons p q ih=>
       intro hz
       rw [List.lookup_cons,beq_eq_false_iff_ne.mpr (λz=>hz p.1 (by simp) z.symm)]
       exact ih λz hz'=>hz z (by simp at hz' ⊢;exact .inr hz')
    refine key kv λz hz=>?_
    rw [hp.keys] at hz
    obtain⟨q,hq,rfl⟩:=List.mem_map.mp hz
    exact hm _ (hs q hq)
   refine⟨a,dx,kv,rfl,hH,hno,ρ1,_,σp,xs,A3,rl1,rs.mono x1,e3,λρ2 H2 vs2 x2 rl2 rv2=>?_⟩
   show SpF X.K cm f n (.ref a::(vs2++[])) H2 Q _
   rw [List.append_nil]
   exact⟨ρ2,A3,.ref j::xs,v,A',rl2,.cons (rv1.mono x2) rv2,hn _ _ _ _ ev4,ev4,λρ3 H3 v3 x3 rl3 rv3=>k ρ3 H3 v3 ((x1.trans x2).trans x3) rl3 rv3⟩
 | _=>cases ev1
theorem bd5 {c:Nat} {f:Fun} {n k:Nat} {fa:Addr} {fd:FuncData} {ps:List Str} {m:Str} {o e:Expr} {es:List Expr} {d:ED} {ds:AD} {apos pos:Pos} {pl:Sem Bool} (ho:L2.PE X o (EvE X.K cm d)) (hc:L2.Cls X.K (cm c)) (hm:L2.aX9 X.K (cm c) m fa)
 (F:L2.FnOk X.prog X.w X.K X.mg X.base L2.CX0 k fa fd ps (SpF X.K cm f n)) (hn:∀vs A v A',f vs A=.ok v A'->vs.length=n) (hnm:∀i,i<19->fnm i≠m) (hr:L2.Room k X.A) (hb:L2.Binds X.K fd ps []) (ha:L2.PA X (e::es) (EvA X.K cm ds))
 (hst:starEach (e::es) X.env=(false,eval e X.env)::starEach es X.env:=by exact G0 rfl) (hpl:(backTo pos (starEach es X.env)).any (·.1)=false:=by rfl)
 (ht:eval (.Call (.Attribute o m apos) (e::es) [] pos) X.env=(do
  let ov ←eval o X.env
  standAt apos.atName
  let (f,first) ←holding [ov] (getMethod ov m pl)
  callWith pos f first (backTo pos (starEach (e::es) X.env)) (backToKw pos (keywordEach [] X.env))):=by rfl) :
 L2.PE X (.Call (.Attribute o m apos) (e::es) [] pos) (EvE X.K cm (al4 c f d ds)):=
 E3 (L2.aY2 (pl:=pl) ho hc hm F hr hb .nil L2.aP4 ha hst hpl ht) λσ H Q h=>a00 hn hnm h
theorem a01 {c:Nat} {f:Fun} {n:Nat} {ds:AD} (h7:c<7) (hn:∀vs A v A',f vs A=.ok v A'->vs.length=n/\v=.non) {σ:L2.St} {H:L2.Hp} {Q:L2.VK} (h:EvE X.K cm (s8 c f ds) σ H Q):L2.a58 (cm c) (SpF X.K cm f n) [] L2.E0 (EvA X.K cm ds) σ H Q:=by
 obtain⟨ρ,A,σp,v,A',rl,rs,ev,k⟩:=h
 obtain⟨xs,A1,e1,ev1⟩:=B0 ev
 obtain⟨x,A2,e2,ev2⟩:=B0 ev1
 cases e2
 obtain⟨u,A3,e3,ev3⟩:=B0 ev2
 cases ev3
 refine⟨ρ,A,σp,xs,A1,rl,rs,e1,λρ1 H1 vs1 x1 rl1 rv1 x dx hx hdx hne=>?_⟩
 rw [List.append_nil]
 have g1:Ext ρ1 H1 ρ1 (L2.upd H1 dx (.own x)):=Ext.same hdx
 have rl2:Rel X.K cm ρ1 A1 (L2.upd H1 dx (.own x)):=rl1.grow g1 (T0 hdx)
 have hx2:L2.upd H1 dx (.own x) x=none:=by rw [L2.D6 (Ne.symm hne)];exact hx
 have g2:Ext ρ1 (L2.upd H1 dx (.own x)) (ρ1++[x]) (L2.upd (L2.upd H1 dx (.own x)) x (.ins (cm c) dx [])):=Ext.new hx2
 have rl3:Rel X.K cm (ρ1++[x]) (A1++[.ins c []]) (L2.upd (L2.upd H1 dx (.own x)) x (.ins (cm c) dx [])):=rl2.alloc hx2 ⟨⟨h7,by simp⟩,dx,[],L2.D4,⟨rfl,.nil⟩⟩ rfl
 have hl:(ρ1++[x])[A1.length]?=some x:=by rw [←rl1.len];simp
 obtain⟨hn1,rfl⟩:=hn _ _ _ _ e3
 refine⟨ρ1++[x],_,.ref A1.length::xs,.non,A',rl3,.cons (.ref hl) ((rv1.mono g1).mono g2),hn1,e3,λρ4 H4 v4 x4 rl4 rv4=>?_⟩
 cases rv4
 exact⟨rfl,k ρ4 H4 _ (((x1.trans g1).trans g2).trans x4) rl4 (.ref (ae9 x4.pre hl))⟩
theorem bd6 {c:Nat} (h7:c<7) {f:Fun} {n k:Nat} {fa:Addr} {fd:FuncData} {ps:List Str} {x:Str} {e:Expr} {es:List Expr} {ds:AD} {p pos:Pos} (Mk:L2.Mk X.K (cm c) fa) (F:L2.FnOk X.prog X.w X.K X.mg X.base L2.CX0 k fa fd ps (SpF X.K cm f n)) (hn:∀vs A v A',f vs A=.ok v A'->vs.length=n/\v=.non) (hr:L2.Room (k+1) X.A)
 (hg:L2.Gl X x) (hm:X.mg x=some (.ref (cm c))) (hb:L2.Binds X.K fd ps []) (ha:L2.PA X (e::es) (EvA X.K cm ds)) (hdb:(x == ("__debug__" : Str))=false:=by decide) (he:starEach (e::es) X.env=(false,eval e X.env)::starEach es X.env:=by exact G0 rfl) (hpl:(backTo pos (starEach es X.env)).any (·.1)=false:=by rfl) :
 L2.PE X (.Call (.Name x p) (e::es) [] pos) (EvE X.K cm (s8 c f ds)):=
 E3 (L2.aY3 Mk F hr hg hm hb .nil L2.aP4 ha hdb he hpl) λσ H Q h=>a01 h7 hn h
noncomputable def Ite (K:PySem.W.Frag) (a:Addr):L2.It:=
 ⟨λi H=>∃xs x,L2.SqL K H a xs/\xs[i]?=some x,λi H x H'=>∃y p,(∀xs,L2.SqL K H a xs->xs[i]?=some y)/\H p=none/\x=.ref p/\H'=L2.upd H p (.tup [.int i,y]),λi H=>∃xs,L2.SqL K H a xs/\xs.length<=i⟩
noncomputable def Itk (K:PySem.W.Frag) (k:Nat) (a:Addr):L2.It:=
 ⟨λi H=>∃xs x,L2.SqL K H a xs/\xs[i]?=some x,λi H x H'=>∃y p,(∀xs,L2.SqL K H a xs->xs[i]?=some y)/\H p=none/\x=.ref p/\H'=L2.upd H p (.tup [.int ((k+i:Nat):Int),y]),λi H=>∃xs,L2.SqL K H a xs/\xs.length<=i⟩
noncomputable def Itf (vs:List L2.V):L2.It:=⟨λi _=>i<vs.length,λi H x H'=>H'=H/\vs[i]?=some x,λi _=>vs.length<=i⟩
noncomputable def SqK (k:Bool) (K:PySem.W.Frag) (H:L2.Hp) (a:Addr) (xs:List L2.V):Prop:=match k with
 | true=>L2.SqT K H a xs
 | false=>L2.SqL K H a xs
noncomputable def kindOf:PV->Bool
 | .tup _=>true
 | _=>false
noncomputable def Itz (K:PySem.W.Frag) (k1 k2:Bool) (a b:Addr):L2.It:=
 ⟨λi H=>∃xs ys x y,SqK k1 K H a xs/\SqK k2 K H b ys/\xs[i]?=some x/\ys[i]?=some y,
  λi H v H'=>∃x y p,(∀xs,SqK k1 K H a xs->xs[i]?=some x)/\(∀ys,SqK k2 K H b ys->ys[i]?=some y)/\H p=none/\v=.ref p/\H'=L2.upd H p (.tup [x,y]),
  λi H=>∃xs ys,SqK k1 K H a xs/\SqK k2 K H b ys/\(xs.length<=i\/ys.length<=i)⟩
theorem i5 {K:PySem.W.Frag} {ρ:List Addr} {H:L2.Hp} {A:PHp} {l:List PV} {v:L2.V} {x:PV} {A':PHp} (rl:Rel K cm ρ A H) (r:RV ρ H x v) (h:P0 x A=.ok l A'):A'=A/\∃a xs,v=.ref a/\SqK (kindOf x) K H a xs/\RVs ρ H l xs:=by
 cases x with
 | ref n=>
   obtain⟨e,a,xs,h1,h2,h3⟩:=J2 rl r h
   exact⟨e,a,xs,h1,h2,h3⟩
 | tup m=>
   cases h
   cases r with
   | tup h1 h2=>exact⟨rfl,_,_,rfl,L2.SqT.of h1,h2⟩
 | _=>cases h
noncomputable def RIt (K:PySem.W.Frag) (ρ:List Addr) (H:L2.Hp):It->L2.It->Prop
 | .rng lo n,j=>j=L2.Itr lo n
 | .lst m,j=>∃a,ρ[m]?=some a/\j=L2.Itl K a
 | .tup l,j=>∃a vs,H a=some (.tup vs)/\RVs ρ H l vs/\j=L2.Itt K a
 | .enm m,j=>∃a,ρ[m]?=some a/\j=Ite K a
 | .fix l,j=>∃vs,RVs ρ H l vs/\j=Itf vs
 | .zip x y,j=>∃a b,RV ρ H x (.ref a)/\RV ρ H y (.ref b)/\j=Itz K (kindOf x) (kindOf y) a b
 | .enk k m,j=>∃a,ρ[m]?=some a/\j=Itk K k a
theorem RIt.mono {K:PySem.W.Frag} {ρ ρ':List Addr} {H H':L2.Hp} {J:It} {j:L2.It} (h:RIt K ρ H J j) (e:Ext ρ H ρ' H'):RIt K ρ' H' J j:=by
 cases J with
 | rng lo n=>exact h
 | lst m=>obtain⟨a,h1,h2⟩:=h;exact⟨a,ae9 e.pre h1,h2⟩
 | tup l=>obtain⟨a,vs,h1,h2,h3⟩:=h;exact⟨a,vs,e.tup _ _ h1,h2.mono e,h3⟩
 | enm m=>obtain⟨a,h1,h2⟩:=h;exact⟨a,ae9 e.pre h1,h2⟩
 | fix l=>obtain⟨vs,h1,h2⟩:=h;exact⟨vs,h1.mono e,h2⟩
 | zip x y=>obtain⟨a,b,h1,h2,h3⟩:=h;exact⟨a,b,h1.mono e,h2.mono e,h3⟩
 | enk k m=>obtain⟨a,h1,h2⟩:=h;exact⟨a,ae9 e.pre h1,h2⟩
noncomputable def EvI (K:PySem.W.Frag) (cm:Nat->Addr) (d:ID):L2.TI:=λσ H R=>∃(ρ:List Addr) (A:PHp) (σp:PSt) (J:It) (A':PHp),Rel K cm ρ A H/\RSt ρ H σp σ/\d σp A=.ok J A'/\
 ∀ρ' H' j,Ext ρ H ρ' H'->Rel K cm ρ' A' H'->RIt K ρ' H' J j->R j H'
noncomputable def aB7 (K:PySem.W.Frag) (cm:Nat->Addr) (ρ:List Addr) (A:PHp) (H:L2.Hp) (j:L2.It) (i:Nat):Option PV->Prop
 | none=>j.stop i H
 | some v=>j.go i H/\∀y H',j.yld i H y H'->Ext ρ H ρ H'/\Rel K cm ρ A H'/\RV ρ H' v y
theorem aF6 {K:PySem.W.Frag} {ρ:List Addr} {H:L2.Hp} {A A':PHp} {J:It} {j:L2.It} {i:Nat} {x:Option PV} (rl:Rel K cm ρ A H) (rj:RIt K ρ H J j) (e:item J i A=.ok x A') :
 A'=A/\aB7 K cm ρ A H j i x:=by
 cases J with
 | rng lo n=>
   cases e
   cases rj
   refine⟨rfl,?_⟩
   by_cases h:i<n
   ·show aB7 K cm ρ A H _ i (if i<n then some (PV.int (lo+i)) else none)
    rw [if_pos h]
    refine⟨h,λy H' ⟨e1,e2⟩=>?_⟩
    subst e1;subst e2
    exact⟨Ext.refl _ _,rl,.int _⟩
   ·show aB7 K cm ρ A H _ i (if i<n then some (PV.int (lo+i)) else none)
    rw [if_neg h]
    exact Nat.le_of_not_lt h
 | fix l=>
   cases e
   obtain⟨vs,r,rfl⟩:=rj
   refine⟨rfl,?_⟩
   rcases hi:l[i]? with _ | v
   ·show vs.length<=i
    rw [←r.length];exact List.getElem?_eq_none_iff.mp hi
   ·obtain⟨u,hu,rv⟩:=r.get hi
    refine⟨(List.getElem?_eq_some_iff.mp hu).1,λy H' ⟨e3,e4⟩=>?_⟩
    subst e3
    rw [hu] at e4;cases e4
    exact⟨Ext.refl _ _,rl,rv⟩
 | zip x y=>
   obtain⟨a,b,ra,rb,rfl⟩:=rj
   obtain⟨l,A1,e1,e2⟩:=B0 e
   obtain⟨rfl,a',xs,h1,q1,r1⟩:=i5 rl ra e1
   cases h1
   obtain⟨m,A2,e3,e4⟩:=B0 e2
   obtain⟨rfl,b',ys,h2,q2,r2⟩:=i5 rl rb e3
   cases h2
   cases e4
   refine⟨rfl,?_⟩
   rcases hi:l[i]? with _ | u
   ·exact⟨xs,ys,q1,q2,.inl (by rw [←r1.length];exact List.getElem?_eq_none_iff.mp hi)⟩
   ·rcases hj:m[i]? with _ | v
    ·exact⟨xs,ys,q1,q2,.inr (by rw [←r2.length];exact List.getElem?_eq_none_iff.mp hj)⟩
    ·obtain⟨u',hu,ru⟩:=r1.get hi
     obtain⟨v',hv,rv⟩:=r2.get hj
     refine⟨⟨xs,ys,u',v',q1,q2,hu,hv⟩,λz H' ⟨x',y',p,g1,g2,g3,g4,g5⟩=>?_⟩
     have g1:=g1 xs q1
     have g2:=g2 ys q2
     rw [hu] at g1;cases g1
     rw [hv] at g2;cases g2
     subst g4;subst g5
     exact⟨Ext.same g3,rl.tup g3,.tup L2.D4 (.cons (ru.mono (Ext.same g3)) (.cons (rv.mono (Ext.same g3)) .nil))⟩
 | lst m=>
   obtain⟨a,ha,rfl⟩:=rj
   obtain⟨l,A1,e1,e2⟩:=B0 e
   obtain⟨rfl,b,xs,hb,hs,r⟩:=J2 rl (.ref ha) e1
   cases hb
   cases e2
   refine⟨rfl,?_⟩
   rcases hi:l[i]? with _ | v
   ·exact⟨xs,hs,by rw [←r.length];exact List.getElem?_eq_none_iff.mp hi⟩
   ·obtain⟨u,hu,rv⟩:=r.get hi
    refine⟨⟨xs,u,hs,hu⟩,λy H' ⟨e3,e4⟩=>?_⟩
    subst e3
    have:=e4 xs hs
    rw [hu] at this;cases this
    exact⟨Ext.refl _ _,rl,rv⟩
 | tup l=>
   obtain⟨a,vs,ha,r,rfl⟩:=rj
   cases e
   refine⟨rfl,?_⟩
   rcases hi:l[i]? with _ | v
   ·exact⟨vs,L2.SqT.of ha,by rw [←r.length];exact List.getElem?_eq_none_iff.mp hi⟩
   ·obtain⟨u,hu,rv⟩:=r.get hi
    refine⟨⟨vs,u,L2.SqT.of ha,hu⟩,λy H' ⟨e3,e4⟩=>?_⟩
    subst e3
    have:=e4 vs (L2.SqT.of ha)
    rw [hu] at this;cases this
    exact⟨Ext.refl _ _,rl,rv⟩
 | enm m=>
   obtain⟨a,ha,rfl⟩:=rj
   obtain⟨l,A1,e1,e2⟩:=B0 e
   obtain⟨rfl,b,xs,hb,hs,r⟩:=J2 rl (.ref ha) e1
   cases hb
   cases e2
   refine⟨rfl,?_⟩
   rcases hi:l[i]? with _ | v
   ·exact⟨xs,hs,by rw [←r.length];exact List.getElem?_eq_none_iff.mp hi⟩
   ·obtain⟨u,hu,rv⟩:=r.get hi
    refine⟨⟨xs,u,hs,hu⟩,λy H' ⟨y',p,h2,h3,h4,h5⟩=>?_⟩
    have h2:=h2 xs hs
    rw [hu] at h2;cases h2
    subst h4;subst h5
    exact⟨Ext.same h3,rl.tup h3,.tup L2.D4 (.cons (.int _) (.cons (rv.mono (Ext.same h3)) .nil))⟩
 | enk k m=>
   obtain⟨a,ha,rfl⟩:=rj
   obtain⟨l,A1,e1,e2⟩:=B0 e
   obtain⟨rfl,b,xs,hb,hs,r⟩:=J2 rl (.ref ha) e1
   cases hb
   cases e2
   refine⟨rfl,?_⟩
   rcases hi:l[i]? with _ | v
   ·exact⟨xs,hs,by rw [←r.length];exact List.getElem?_eq_none_iff.mp hi⟩
   ·obtain⟨u,hu,rv⟩:=r.get hi
    refine⟨⟨xs,u,hs,hu⟩,λy H' ⟨y',p,h2,h3,h4,h5⟩=>?_⟩
    have h2:=h2 xs hs
    rw [hu] at h2;cases h2
    subst h4;subst h5
    exact⟨Ext.same h3,rl.tup h3,.tup L2.D4 (.cons (.int _) (.cons (rv.mono (Ext.same h3)) .nil))⟩
theorem z6 {J:It} {A A':PHp} {n:Nat} (h:m8 J A=.ok n A'):A'=A:=by
 have key:∀a,bnd (D0 a) (λl=>ret l.length) A=.ok n A'->A'=A:=λa h=>by
  obtain⟨l,A1,e1,e2⟩:=B0 h
  cases e2
  unfold D0 at e1
  rcases hA:A[a]? with _ | o
  ·rw [hA] at e1;cases e1
  ·cases o <;> rw [hA] at e1 <;> cases e1 <;> rfl
 cases J with
 | rng lo n=>cases h;rfl
 | lst m=>exact key m h
 | tup l=>cases h;rfl
 | fix l=>cases h;rfl
 | enm m=>exact key m h
 | enk k m=>exact key m h
 | zip x y=>
   cases x with
   | ref n=>
     exact key n h
   | tup l=>cases h;rfl
   | _=>cases h
theorem d7 {tg iter:Expr} {body:List Stmt} {it:ID} {g:GD} {b:SD} {pos:Pos} (hp:PassesOwn (model X.prog X.w) X.A X.env X.xe) (hc:X.calm=true) (hi:L2.PI X tg iter (EvI X.K cm it)) (hg:L2.PG X tg (EvG X.K cm g)) (hb:L2.PSs X body (EvS X.K cm b))
 (hs:∀x,foldedSetIterable iter X.env x=pure x:=by intro _;rfl):L2.PS X (.For tg iter body [] pos) (EvS X.K cm (X7 it g b)):=
 Y1 (L2.a96 hp hc hi hg hb hs) λD σ H ⟨ρ,A,σp,f,A',rl,rs,ev,k⟩=>by
  obtain⟨J,A1,e1,ev1⟩:=B0 ev
  obtain⟨n,A2,e2,ev2⟩:=B0 ev1
  obtain rfl:=z6 e2
  refine⟨ρ,A,σp,J,A2,rl,rs,e1,λρ1 H1 j x1 rl1 rj=>?_⟩
  refine⟨λi m σ' H'=>∃ρ' B σp',Ext ρ1 H1 ρ' H'/\Rel X.K cm ρ' B H'/\RSt ρ' H' σp' σ'/\turns J g b (m+1) i σp' B=.ok f A',⟨n,ρ1,A2,σp,Ext.refl _ _,rl1,rs.mono x1,ev2⟩,?_⟩
  rintro i m σ' H' ⟨ρ',B,σp',x2,rl2,rs2,ev3⟩
  rw [Q4] at ev3
  obtain⟨x,B1,e3,ev4⟩:=B0 ev3
  obtain⟨rfl,hit⟩:=aF6 rl2 (rj.mono x2) e3
  cases x with
  | none=>
    cases ev4
    exact .inl ⟨hit,k ρ' H' (x1.trans x2) rl2 σ' rs2⟩
  | some v=>
    refine .inr ⟨hit.1,λσ3 H3=>∃ρ3 B3 σp3,Ext ρ1 H1 ρ3 H3/\Rel X.K cm ρ3 B3 H3/\RSt ρ3 H3 σp3 σ3/\turns J g b m (i+1) σp3 B3=.ok f A',?_,λy H3 hy=>?_⟩
    ·rintro σ3 H3 ⟨ρ3,B3,σp3,x3,rl3,rs3,ev5⟩
     cases m with
     | zero=>rw [ae2] at ev5;cases ev5
     | succ m=>exact⟨m,Nat.lt_succ_self _,ρ3,B3,σp3,x3,rl3,rs3,ev5⟩
    ·obtain⟨x3,rl3,rv3⟩:=hit.2 y H3 hy
     obtain⟨σ4,B4,e4,ev5⟩:=B0 ev4
     obtain⟨o,B5,e5,ev6⟩:=B0 ev5
     refine⟨ρ',B1,σp',v,σ4,B4,rl3,rs2.mono x3,rv3,e4,λρ4 H4 σ5 x4 rl4 rs4=>⟨ρ4,B4,σ4,o,B5,rl4,rs4,e5,λρ5 H5 x5 rl5=>?_⟩⟩
     have x15:=(((x2.trans x3).trans x4).trans x5)
     cases o with
     | nx σ6=>exact λσ7 rs7=>⟨ρ5,B5,σ6,x15,rl5,rs7,ev6⟩
     | ct σ6=>exact λσ7 rs7=>⟨ρ5,B5,σ6,x15,rl5,rs7,ev6⟩
     | bk σ6=>cases ev6;exact λσ7 rs7=>k ρ5 H5 (x1.trans x15) rl5 σ7 rs7
     | rt u=>cases ev6;exact λv' rv'=>k ρ5 H5 (x1.trans x15) rl5 v' rv'
theorem aR4 {tg iter:Expr} {t t':L2.TI} (h:L2.PI X tg iter t) (k:∀σ H R,t' σ H R->t σ H R):L2.PI X tg iter t':=λpins s σ H R I q=>h pins s σ H R I (k σ H R q)
theorem d8 {tg a:Expr} {d:ED} {p pos:Pos} (hg:L2.Gl X "range") (hm:X.mg "range" = none) (ha:L2.PE X a (EvE X.K cm d)) (hs:starEach [a] X.env=[(false,eval a X.env)]:=by rfl):L2.PI X tg (.Call (.Name "range" p) [a] [] pos) (EvI X.K cm (iRng1 d)):=
 aR4 (L2.aJ2 hg hm (r_cons ha r_nil hs) hs) λσ H R ⟨ρ,A,σp,J,A',rl,rs,ev,k⟩=>by
  obtain⟨x,A1,e1,ev1⟩:=B0 ev
  refine⟨ρ,A,σp,[x],A1,rl,rs,by show bnd (d σp) _ A=_;rw [bnd_ok e1];rfl,λρ1 H1 vs1 x1 rl1 rv1=>?_⟩
  cases x with
  | int i=>
    obtain⟨c,ev2⟩:=C5 ev1
    cases ev2
    cases rv1 with
    | cons hv hr=>cases hr;cases hv;exact⟨i,rfl,c.1,c.2,k ρ1 H1 _ x1 rl1 rfl⟩
  | _=>cases ev1
noncomputable def bk3 (K:PySem.W.Frag) (tl:L2.TE):L2.TI:=λσ H R=>tl σ H λx H1=>(∃a,x=.ref a/\(∃xs,L2.SqL K H1 a xs)/\R (L2.Itl K a) H1)\/(∃a,x=.ref a/\(∃xs,L2.SqT K H1 a xs)/\R (L2.Itt K a) H1)
theorem a02 {tg l:Expr} {tl:L2.TE} (hl:L2.PE X l tl):L2.PI X tg l (bk3 X.K tl):=by
 intro pins s σ H R I h
 have a1:=L2.aX3 (tg:=tg) hl
 have a2:=L2.a95 (tg:=tg) hl
 refine L2.thn (hl pins s σ H _ I h) λv s1 ⟨x,H1,I1,r1,q1⟩=>?_
 rcases q1 with ⟨a,e,⟨xs,hq⟩,q⟩ | ⟨a,e,⟨xs,hq⟩,q⟩
 ·subst e
  cases r1
  obtain⟨its,rv,p,hz⟩:=I1.list hq
  refine wpAny_pyIter_list p.isList ?_
  refine⟨s1.heap.objs.size,[s1.heap.objs.size],_,_,H1,rfl,I1.kept (t':=s1.toks) λb o e=>Heap.get?_push_of_some _ e,L2.ak6 a _,⟨_,Heap.get?_push_size _ rfl,rfl,rfl⟩,λb hb=>?_,q⟩
  have e:b=s1.heap.objs.size:=by simpa using hb
  subst e
  exact I1.fpOk (Nat.le_refl _) (I1.hok.fresh (Nat.le_refl _))
 ·subst e
  cases r1
  obtain⟨its,rv,p,hz⟩:=I1.tuple hq
  refine wpAny_pyIter_tuple (show s1.heap.IsTuple a its.toArray from p) ?_
  refine⟨s1.heap.objs.size,[s1.heap.objs.size],_,_,H1,rfl,I1.kept (t':=s1.toks) λb o e=>Heap.get?_push_of_some _ e,L2.ad4 a _,⟨_,Heap.get?_push_size _ rfl,rfl,rfl⟩,λb hb=>?_,q⟩
  have e:b=s1.heap.objs.size:=by simpa using hb
  subst e
  exact I1.fpOk (Nat.le_refl _) (I1.hok.fresh (Nat.le_refl _))
theorem j9 {tg l:Expr} {d:ED} (hl:L2.PE X l (EvE X.K cm d)):L2.PI X tg l (EvI X.K cm (y3 d)):=aR4 (a02 hl) λσ H R ⟨ρ,A,σp,J,A',rl,rs,ev,k⟩=>by
 obtain⟨x,A1,e1,ev1⟩:=B0 ev
 refine⟨ρ,A,σp,x,A1,rl,rs,e1,λρ1 H1 v1 x1 rl1 rv1=>?_⟩
 cases x with
 | ref n=>
   obtain⟨l,A2,e2,ev2⟩:=B0 ev1
   obtain⟨rfl,a,xs,rfl,hs,r⟩:=J2 rl1 rv1 e2
   cases ev2
   cases rv1 with
   | ref hn=>exact .inl ⟨a,rfl,⟨xs,hs⟩,k ρ1 H1 _ x1 rl1 ⟨a,hn,rfl⟩⟩
 | tup l=>
   cases ev1
   cases rv1 with
   | tup ha r=>exact .inr ⟨_,rfl,⟨_,L2.SqT.of ha⟩,k ρ1 H1 _ x1 rl1 ⟨_,_,ha,r,rfl⟩⟩
 | _=>cases ev1
end
end Ws
namespace Ws
open PySem
section
variable {ρ:List Addr} {H:L2.Hp}
mutual
theorem RV.uniq:∀{x y:PV} {v:L2.V},RV ρ H x v->RV ρ H y v->X4 x=true->X4 y=true->x=y
 | _,_,_,.non,h,_,_=>by cases h;rfl
 | _,_,_,.bl b,_,n,_=>by simp [X4] at n
 | _,_,_,.int i,h,_,_=>by cases h;rfl
 | _,_,_,.str z,h,_,_=>by cases h;rfl
 | _,_,_,.tup h1 r1,h,n1,n2=>by
   cases h with
   | tup h2 r2=>
     rw [h1] at h2;cases h2
     rw [RVs.uniq r1 r2 (by simpa [X4] using n1) (by simpa [X4] using n2)]
   | ref h2=>simp [X4] at n2
 | _,_,_,.ref _,_,n,_=>by simp [X4] at n
theorem RVs.uniq:∀{l m:List PV} {vs:List L2.V},RVs ρ H l vs->RVs ρ H m vs->r6 l=true->r6 m=true->l=m
 | _,_,_,.nil,h,_,_=>by cases h;rfl
 | _,_,_,.cons h1 r1,h,n1,n2=>by
   cases h with
   | cons h2 r2=>
     simp only [r6,Bool.and_eq_true] at n1 n2
     rw [RV.uniq h1 h2 n1.1 n2.1,RVs.uniq r1 r2 n1.2 n2.2]
end
end
theorem t8:∀{l m:List PV},l.length≠m.length->R4 l m=false
 | [],[],h=>absurd rfl h
 | [],_::_,_=>rfl
 | _::_,[],_=>rfl
 | x::xs,y::ys,h=>by
   have:xs.length≠ys.length:=by simpa using h
   simp [R4,t8 this]
theorem t9:∀{l m:List PV},l.length=m.length->R4 l m=(List.range l.length).all λj=>eqv (l.getD j .non) (m.getD j .non)
 | [],[],_=>rfl
 | [],_::_,h=>by simp at h
 | _::_,[],h=>by simp at h
 | x::xs,y::ys,h=>by
   have e:xs.length=ys.length:=by simpa using h
   rw [List.length_cons,List.range_succ_eq_map,List.all_cons,List.all_map]
   simp only [R4,t9 e]
   rfl
theorem af6 {l m:List PV}:R4 l m=((List.range (min l.length m.length)).all (λj=>eqv (l.getD j .non) (m.getD j .non))&&l.length == m.length):=by
 by_cases h:l.length=m.length
 ·rw [t9 h,h];simp
 ·rw [t8 h,beq_eq_false_iff_ne.mpr h,Bool.and_false]
section
variable {X:L2.Cx} {pins:List (Addr×Obj)} {σ:L2.St} {H:L2.Hp} {s:Shared} {ρ:List Addr} {A:Around}
open PySem.SeqAt
theorem av9 {x y:PV} {vx vy:L2.V} {u v:Value} (rx:RV ρ H x vx) (ry:RV ρ H y vy) (hx:L1 x=true) (hy:L1 y=true) (ux:L2.RelV vx u) (uy:L2.RelV vy v):EqAt A s u v (eqv x y):=by
 have key:=L2.bb0 (A:=A) (s:=s) ux uy (by cases rx <;> simp_all [L1,L2.aE5]) (by cases ry <;> simp_all [L1,L2.aE5])
 have e:L2.eqV vx vy=eqv x y:=by
  cases rx <;> cases ry <;> simp_all [L1,L2.eqV,eqv] <;> (try (exact (Bool.beq_eq_decide_eq _ _)))
 rw [←e];exact key
theorem z7 {f:PV->Bool} {l m:List PV} {a b:Addr} {vs ws:List L2.V} (I:L2.Inv X pins σ H s) (ha:H a=some (.tup vs)) (hb:H b=some (.tup ws)) (r1:RVs ρ H l vs) (r2:RVs ρ H m ws) (hl:l.all f=true) (hm:m.all f=true) (hf:∀x,f x=true->X4 x=true) (hu:A.units<cLine)
 (ih:∀x y vx vy u v,RV ρ H x vx->RV ρ H y vy->f x=true->f y=true->L2.RelV vx u->L2.RelV vy v->EqAt A.in1 s u v (eqv x y)) :
 (a≠b->RcAt A s (.ref a) (.ref b) (R4 l m))/\RcAt A s (.ref a) (.ref b) (R4 l m)/\EqAt A s (.ref a) (.ref b) (R4 l m):=by
 obtain⟨_,its,ri,pi⟩:=I.hok a _ ha
 obtain⟨_,its2,ri2,pi2⟩:=I.hok b _ hb
 have rc:RcAt A s (.ref a) (.ref b) (R4 l m):=by
  have h:=RcAt.tuples (A:=A) (s:=s) (l:=a) (b:=b) (items:=its.toArray) (items2:=its2.toArray) (e:=λj=>eqv (l.getD j .non) (m.getD j .non)) pi pi2 hu (λj h1 h2=>by
   simp only [List.size_toArray] at h1 h2
   have l1:j<vs.length:=by rw [ri.length];exact h1
   have l2:j<ws.length:=by rw [ri2.length];exact h2
   obtain⟨x,ex,rx⟩:=r1.get' (i:=j) (v:=vs[j]) (by simp [l1])
   obtain⟨y,ey,ry⟩:=r2.get' (i:=j) (v:=ws[j]) (by simp [l2])
   obtain⟨u,eu,ru⟩:=ri.get (i:=j) (x:=vs[j]) (by simp [l1])
   obtain⟨v,ev,rv⟩:=ri2.get (i:=j) (x:=ws[j]) (by simp [l2])
   have d1:l.getD j .non=x:=by rw [List.getD_eq_getElem?_getD,ex];rfl
   have d2:m.getD j .non=y:=by rw [List.getD_eq_getElem?_getD,ey];rfl
   have q1:its.toArray[j]=u:=by
    rw [List.getElem?_eq_getElem h1] at eu
    simpa using Option.some.inj eu
   have q2:its2.toArray[j]=v:=by
    rw [List.getElem?_eq_getElem h2] at ev
    simpa using Option.some.inj ev
   rw [d1,d2,q1,q2]
   exact ih x y _ _ u v rx ry (List.all_eq_true.mp hl x (List.mem_of_getElem? ex)) (List.all_eq_true.mp hm y (List.mem_of_getElem? ey)) ru rv)
  rw [af6]
  have z1:its.toArray.size=l.length:=by rw [List.size_toArray,←ri.length,r1.length]
  have z2:its2.toArray.size=m.length:=by rw [List.size_toArray,←ri2.length,r2.length]
  rw [z1,z2] at h
  exact h
 refine⟨λ_=>rc,rc,?_⟩
 by_cases hab:a=b
 ·subst hab
  rw [ha] at hb;cases hb
  have e:=RVs.uniq r1 r2 (R0 hf l hl) (R0 hf m hm)
  subst e
  rw [(i4 l l (R0 hf l hl)).mpr rfl]
  exact EqAt.same _
 ·exact EqAt.of_refs hab rc
theorem M7 {x y:PV} {vx vy:L2.V} {u v:Value} (I:L2.Inv X pins σ H s) (rx:RV ρ H x vx) (ry:RV ρ H y vy) (hu:A.units<cLine) (ux:L2.RelV vx u) (uy:L2.RelV vy v)
 (h:(∃l,x=.tup l/\L1 y=true)\/(∃m,y=.tup m/\L1 x=true)):EqAt A s u v (eqv x y)/\RcAt A s u v (eqv x y)/\RcNeAt A s u v (!eqv x y):=by
 rcases h with ⟨l,rfl,hy⟩ | ⟨m,rfl,hx⟩
 ·cases rx with
  | tup ha r=>
    obtain⟨_,its,ri,pi⟩:=I.hok _ _ ha
    cases ux
    cases ry with
    | non=>cases uy;exact⟨EqAt.tuple_none pi hu,RcAt.tuple_none pi hu,RcNeAt.tuple_none pi hu⟩
    | int i=>obtain⟨t,rfl⟩:=uy;exact⟨EqAt.tuple_int _ _ pi hu,RcAt.tuple_int _ _ pi hu,RcNeAt.tuple_int _ _ pi hu⟩
    | str i=>obtain⟨t,rfl⟩:=uy;exact⟨EqAt.tuple_str _ _ pi hu,RcAt.tuple_str _ _ pi hu,RcNeAt.tuple_str _ _ pi hu⟩
    | bl b=>simp [L1] at hy
    | tup h2 r2=>simp [L1] at hy
    | ref h2=>simp [L1] at hy
 ·cases ry with
  | tup ha r=>
    obtain⟨_,its,ri,pi⟩:=I.hok _ _ ha
    cases uy
    cases rx with
    | non=>cases ux;exact⟨EqAt.none_tuple pi hu,RcAt.none_tuple pi hu,RcNeAt.none_tuple pi hu⟩
    | int i=>obtain⟨t,rfl⟩:=ux;exact⟨EqAt.int_tuple _ _ pi hu,RcAt.int_tuple _ _ pi hu,RcNeAt.int_tuple _ _ pi hu⟩
    | str i=>obtain⟨t,rfl⟩:=ux;exact⟨EqAt.str_tuple _ _ pi hu,RcAt.str_tuple _ _ pi hu,RcNeAt.str_tuple _ _ pi hu⟩
    | bl b=>simp [L1] at hx
    | tup h2 r2=>simp [L1] at hx
    | ref h2=>simp [L1] at hx
theorem L8 (A:Around) (n:Nat) (h:A.units+(n+1)<cLine):A.in1.units+n<cLine:=by
 show A.units+1+n<cLine;omega
theorem bk4 (I:L2.Inv X pins σ H s) (A:Around) (hu:A.units+1<cLine) (x y:PV) (vx vy:L2.V) (u v:Value) (rx:RV ρ H x vx) (ry:RV ρ H y vy) (hx:aE8 x=true) (hy:aE8 y=true) (ux:L2.RelV vx u) (uy:L2.RelV vy v):EqAt A s u v (eqv x y):=by
 cases x with
 | tup l=>
   cases y with
   | tup m=>
     cases rx with
     | tup ha r1=>
       cases ry with
       | tup hb r2=>
         cases ux;cases uy
         exact (z7 I ha hb r1 r2 hx hy av1 (by omega) (λx y vx vy u v rx ry h1 h2 u1 u2=>av9 rx ry h1 h2 u1 u2)).2.2
   | _=>exact (M7 I rx ry (by omega) ux uy (.inl ⟨_,rfl,hy⟩)).1
 | _=>
   cases y with
   | tup m=>exact (M7 I rx ry (by omega) ux uy (.inr ⟨_,rfl,hx⟩)).1
   | _=>exact av9 rx ry hx hy ux uy
theorem a66 (I:L2.Inv X pins σ H s) (A:Around) (hu:A.units+2<cLine) (x y:PV) (vx vy:L2.V) (u v:Value) (rx:RV ρ H x vx) (ry:RV ρ H y vy) (hx:al3 x=true) (hy:al3 y=true) (ux:L2.RelV vx u) (uy:L2.RelV vy v):EqAt A s u v (eqv x y):=by
 cases x with
 | tup l=>
   cases y with
   | tup m=>
     cases rx with
     | tup ha r1=>
       cases ry with
       | tup hb r2=>
         cases ux;cases uy
         exact (z7 I ha hb r1 r2 hx hy a63 (by omega) (λx y vx vy u v rx ry h1 h2 u1 u2=>bk4 I A.in1 (L8 A 1 (by omega)) x y vx vy u v rx ry h1 h2 u1 u2)).2.2
   | _=>exact (M7 I rx ry (by omega) ux uy (.inl ⟨_,rfl,hy⟩)).1
 | _=>
   cases y with
   | tup m=>exact (M7 I rx ry (by omega) ux uy (.inr ⟨_,rfl,hx⟩)).1
   | _=>exact av9 rx ry hx hy ux uy
theorem aR5 (I:L2.Inv X pins σ H s) (A:Around) (hu:A.units+3<cLine) (x y:PV) (vx vy:L2.V) (u v:Value) (rx:RV ρ H x vx) (ry:RV ρ H y vy) (hx:plain x=true) (hy:plain y=true) (ux:L2.RelV vx u) (uy:L2.RelV vy v):EqAt A s u v (eqv x y):=by
 cases x with
 | tup l=>
   cases y with
   | tup m=>
     cases rx with
     | tup ha r1=>
       cases ry with
       | tup hb r2=>
         cases ux;cases uy
         exact (z7 I ha hb r1 r2 hx hy a64 (by omega) (λx y vx vy u v rx ry h1 h2 u1 u2=>a66 I A.in1 (L8 A 2 (by omega)) x y vx vy u v rx ry h1 h2 u1 u2)).2.2
   | _=>exact (M7 I rx ry (by omega) ux uy (.inl ⟨_,rfl,hy⟩)).1
 | _=>
   cases y with
   | tup m=>exact (M7 I rx ry (by omega) ux uy (.inr ⟨_,rfl,hx⟩)).1
   | _=>exact av9 rx ry hx hy ux uy
end
end Ws
namespace Ws
open PySem PySem.SeqAt
section
variable {X:L2.Cx} {cm:Nat->Addr} {pins:List (Addr×Obj)} {σ:L2.St} {H:L2.Hp} {s:Shared} {ρ:List Addr} {A:Around}
theorem rc0 {x y:PV} {vx vy:L2.V} {u v:Value} (rx:RV ρ H x vx) (ry:RV ρ H y vy) (hx:L1 x=true) (hy:L1 y=true) (ux:L2.RelV vx u) (uy:L2.RelV vy v):RcAt A s u v (eqv x y)/\RcNeAt A s u v (!eqv x y):=by
 have hb:∀(i j:Int),(i == j)=decide (i=j):=λi j=>by rw [Bool.beq_eq_decide_eq]
 have hs:∀(i j:Str),(i == j)=decide (i=j):=λi j=>by rw [Bool.beq_eq_decide_eq]
 cases rx with
 | non=>
   cases ux
   cases ry with
   | non=>cases uy;exact⟨RcAt.none_none,RcNeAt.none_none⟩
   | int i=>obtain⟨t,rfl⟩:=uy;exact⟨RcAt.none_int _ _,RcNeAt.none_int _ _⟩
   | str i=>obtain⟨t,rfl⟩:=uy;exact⟨RcAt.none_str _ _,RcNeAt.none_str _ _⟩
   | _=>simp [L1] at hy
 | int i=>
   obtain⟨t,rfl⟩:=ux
   cases ry with
   | non=>cases uy;exact⟨RcAt.int_none _ _,RcNeAt.int_none _ _⟩
   | int j=>obtain⟨t',rfl⟩:=uy;simp only [eqv,←hb];exact⟨RcAt.int_int _ _ _ _,RcNeAt.int_int _ _ _ _⟩
   | str j=>obtain⟨t',rfl⟩:=uy;exact⟨RcAt.int_str _ _ _ _,RcNeAt.int_str _ _ _ _⟩
   | _=>simp [L1] at hy
 | str i=>
   obtain⟨t,rfl⟩:=ux
   cases ry with
   | non=>cases uy;exact⟨RcAt.str_none _ _,RcNeAt.str_none _ _⟩
   | int j=>obtain⟨t',rfl⟩:=uy;exact⟨RcAt.str_int _ _ _ _,RcNeAt.str_int _ _ _ _⟩
   | str j=>obtain⟨t',rfl⟩:=uy;simp only [eqv,←hs];exact⟨RcAt.str_str _ _ _ _,RcNeAt.str_str _ _ _ _⟩
   | _=>simp [L1] at hy
 | _=>simp [L1] at hx
theorem af7 {f:PV->Bool} {l m:List PV} {vs ws:List L2.V} {its its2:List Value} (r1:RVs ρ H l vs) (r2:RVs ρ H m ws) (ri:L2.Vals vs its) (ri2:L2.Vals ws its2) (hl:l.all f=true) (hm:m.all f=true)
 (ih:∀x y vx vy u v,RV ρ H x vx->RV ρ H y vy->f x=true->f y=true->L2.RelV vx u->L2.RelV vy v->EqAt A s u v (eqv x y)) :
 ∀j (h1:j<its.toArray.size) (h2:j<its2.toArray.size),EqAt A s its.toArray[j] its2.toArray[j] (eqv (l.getD j .non) (m.getD j .non)):=λj h1 h2=>by
 simp only [List.size_toArray] at h1 h2
 have l1:j<vs.length:=by rw [ri.length];exact h1
 have l2:j<ws.length:=by rw [ri2.length];exact h2
 obtain⟨x,ex,rx⟩:=r1.get' (i:=j) (v:=vs[j]) (by simp [l1])
 obtain⟨y,ey,ry⟩:=r2.get' (i:=j) (v:=ws[j]) (by simp [l2])
 obtain⟨u,eu,ru⟩:=ri.get (i:=j) (x:=vs[j]) (by simp [l1])
 obtain⟨v,ev,rv⟩:=ri2.get (i:=j) (x:=ws[j]) (by simp [l2])
 have d1:l.getD j .non=x:=by rw [List.getD_eq_getElem?_getD,ex];rfl
 have d2:m.getD j .non=y:=by rw [List.getD_eq_getElem?_getD,ey];rfl
 have q1:its.toArray[j]=u:=by
  rw [List.getElem?_eq_getElem h1] at eu
  simpa using Option.some.inj eu
 have q2:its2.toArray[j]=v:=by
  rw [List.getElem?_eq_getElem h2] at ev
  simpa using Option.some.inj ev
 rw [d1,d2,q1,q2]
 exact ih x y _ _ u v rx ry (List.all_eq_true.mp hl x (List.mem_of_getElem? ex)) (List.all_eq_true.mp hm y (List.mem_of_getElem? ey)) ru rv
noncomputable def aB8 (K:PySem.W.Frag) (g:Bool->Bool):L2.R2:=λvx vy H Q=>∃(ρ:List Addr),
 (∃x y,RV ρ H x vx/\RV ρ H y vy/\plain x=true/\plain y=true/\Q (.bl (g (eqv x y))) H)\/(∃b c,vx=.bl b/\vy=.bl c/\Q (.bl (g (b == c))) H)\/
 (∃a b l m xs ys,vx=.ref a/\vy=.ref b/\L2.SqL K H a xs/\L2.SqL K H b ys/\RVs ρ H l xs/\RVs ρ H m ys/\K9 l=true/\K9 m=true/\Q (.bl (g (R4 l m))) H)
theorem aF7 (hr:X.A.units+64<cLine) {vx vy:L2.V} {u v:Value} {Q:L2.VK} {g:Bool->Bool} (I:L2.Inv X pins σ H s) (ux:L2.RelV vx u) (uy:L2.RelV vy v) (h:aB8 X.K g vx vy H Q):∃b,RcAt X.A s u v b/\RcNeAt X.A s u v (!b)/\Q (.bl (g b)) H:=by
 obtain⟨ρ,h⟩:=h
 rcases h with ⟨x,y,rx,ry,px,py,q⟩ | ⟨b,c,rfl,rfl,q⟩ | ⟨a,b,l,m,xs,ys,rfl,rfl,h1,h2,r1,r2,p1,p2,q⟩
 ·refine⟨eqv x y,?_,?_,q⟩ <;>
  (cases x with
  | tup l=>
    cases y with
    | tup m=>
      cases rx with
      | tup ha r1=>
        cases ry with
        | tup hb r2=>
          cases ux;cases uy
          obtain⟨_,its,ri,pi⟩:=I.hok _ _ ha
          obtain⟨_,its2,ri2,pi2⟩:=I.hok _ _ hb
          have z1:its.toArray.size=l.length:=by rw [List.size_toArray,←ri.length,r1.length]
          have z2:its2.toArray.size=m.length:=by rw [List.size_toArray,←ri2.length,r2.length]
          have hi:=af7 (A:=X.A.in1) (s:=s) r1 r2 ri ri2 (show l.all al3=true from px) (show m.all al3=true from py) (λx y vx vy u v rx ry h1 h2 u1 u2=>a66 I X.A.in1 (L8 X.A 2 (by omega)) x y vx vy u v rx ry h1 h2 u1 u2)
          first
           | (have h:=RcAt.tuples (A:=X.A) (s:=s) (e:=λj=>eqv (l.getD j .non) (m.getD j .non)) pi pi2 (by omega) hi
              rw [z1,z2,←af6] at h;exact h)
           | (have h:=RcNeAt.tuples (A:=X.A) (s:=s) (e:=λj=>eqv (l.getD j .non) (m.getD j .non)) pi pi2 (by omega) hi
              rw [z1,z2,←af6] at h;exact h)
    | _=>first | exact (M7 I rx ry (by omega) ux uy (.inl ⟨_,rfl,py⟩)).2.1 | exact (M7 I rx ry (by omega) ux uy (.inl ⟨_,rfl,py⟩)).2.2
  | _=>
    cases y with
    | tup m=>first | exact (M7 I rx ry (by omega) ux uy (.inr ⟨_,rfl,px⟩)).2.1 | exact (M7 I rx ry (by omega) ux uy (.inr ⟨_,rfl,px⟩)).2.2
    | _=>first | exact (rc0 rx ry px py ux uy).1 | exact (rc0 rx ry px py ux uy).2)
 ·cases ux;cases uy
  exact⟨b == c,RcAt.bool_bool _ _,RcNeAt.bool_bool _ _,q⟩
 ·cases ux;cases uy
  obtain⟨its,ri,pi,_⟩:=I.list h1
  obtain⟨its2,ri2,pi2,_⟩:=I.list h2
  have z1:its.toArray.size=l.length:=by rw [List.size_toArray,←ri.length,r1.length]
  have z2:its2.toArray.size=m.length:=by rw [List.size_toArray,←ri2.length,r2.length]
  refine⟨R4 l m,?_,?_,q⟩
  ·by_cases hlm:l.length=m.length
   ·have hi:=af7 (A:=X.A.in1) (s:=s) r1 r2 ri ri2 p1 p2 (λx y vx vy u v rx ry h1 h2 u1 u2=>aR5 I X.A.in1 (L8 X.A 3 (by omega)) x y vx vy u v rx ry h1 h2 u1 u2)
    have h:=RcAt.lists (A:=X.A) (s:=s) (e:=λj=>eqv (l.getD j .non) (m.getD j .non)) pi.isList pi2.isList (by rw [z1,z2,hlm]) (by omega) hi
    rw [z1,←t9 hlm] at h;exact h
   ·rw [t8 hlm]
    exact RcAt.lists_lengths pi.isList pi2.isList (by rw [z1,z2];exact bne_iff_ne.mpr hlm) (by omega)
  ·by_cases hlm:l.length=m.length
   ·have hi:=af7 (A:=X.A.in1) (s:=s) r1 r2 ri ri2 p1 p2 (λx y vx vy u v rx ry h1 h2 u1 u2=>aR5 I X.A.in1 (L8 X.A 3 (by omega)) x y vx vy u v rx ry h1 h2 u1 u2)
    have h:=RcNeAt.lists (A:=X.A) (s:=s) (e:=λj=>eqv (l.getD j .non) (m.getD j .non)) pi.isList pi2.isList (by rw [z1,z2,hlm]) (by omega) hi
    rw [z1,←t9 hlm] at h;exact h
   ·rw [t8 hlm]
    exact RcNeAt.lists_lengths pi.isList pi2.isList (by rw [z1,z2];exact bne_iff_ne.mpr hlm) (by omega)
theorem d9 (hr:X.A.units+64<cLine):L2.OpR X (compareOp .Eq) (aB8 X.K id):=by
 intro pins s σ H x y v u Q I rx ry q
 obtain⟨b,h1,_,h3⟩:=aF7 hr I rx ry q
 exact h1 _ _ _ _ ⟨.bl b,H,I,rfl,h3⟩
theorem R6 (hr:X.A.units+64<cLine):L2.OpR X (compareOp .NotEq) (aB8 X.K not):=by
 intro pins s σ H x y v u Q I rx ry q
 obtain⟨b,_,h2,h3⟩:=aF7 hr I rx ry q
 exact h2 _ _ _ _ ⟨.bl (!b),H,I,rfl,h3⟩
theorem ar5 {x y:PV} {B B':PHp} {b:Bool} {vx vy:L2.V} {Q:L2.VK} {g:Bool->Bool} (rl:Rel X.K cm ρ B H) (rx:RV ρ H x vx) (ry:RV ρ H y vy) (h:pEq x y B=.ok b B') (q:Q (.bl (g b)) H):B'=B/\aB8 X.K g vx vy H Q:=by
 have gen:∀x y,RV ρ H x vx->RV ρ H y vy->D2 (aq4 x y=true\/(plain x=true/\plain y=true)) (ret (eqv x y)) B=.ok b B'->B'=B/\aB8 X.K g vx vy H Q:=λx y rx ry h=>by
  obtain⟨c,h⟩:=C5 h
  cases h
  refine⟨rfl,ρ,?_⟩
  rcases c with c | c
  ·cases x with
   | bl b1=>
     cases y with
     | bl b2=>cases rx;cases ry;exact .inr (.inl ⟨b1,b2,rfl,rfl,q⟩)
     | _=>simp [aq4] at c
   | _=>simp [aq4] at c
  ·exact .inl ⟨x,y,rx,ry,c.1,c.2,q⟩
 cases x with
 | ref n=>
   cases y with
   | ref k=>
     obtain⟨l,B1,e1,h1⟩:=B0 h
     obtain⟨rfl,a,xs,rfl,hs,r⟩:=J2 rl rx e1
     obtain⟨m,B2,e2,h2⟩:=B0 h1
     obtain⟨rfl,a2,ys,rfl,hs2,r2⟩:=J2 rl ry e2
     obtain⟨c,h3⟩:=C5 h2
     cases h3
     exact⟨rfl,ρ,.inr (.inr ⟨a,a2,l,m,xs,ys,rfl,rfl,hs,hs2,r,r2,c.1,c.2,q⟩)⟩
   | _=>exact gen _ _ rx ry h
 | _=>cases y <;> exact gen _ _ rx ry h
theorem ab5:M6 X.K cm oEq (aB8 X.K id):=λρ B H x y z B' vx vy Q rl rx ry ev k=>by
 obtain⟨b,B1,e1,ev1⟩:=B0 ev
 cases ev1
 have hB:B'=B:=(ar5 (g:=id) (Q:=λ_ _=>True) rl rx ry e1 trivial).1
 subst hB
 exact (ar5 (g:=id) rl rx ry e1 (k ρ H _ (Ext.refl _ _) rl (.bl b))).2
theorem Z6:M6 X.K cm oNe (aB8 X.K not):=λρ B H x y z B' vx vy Q rl rx ry ev k=>by
 obtain⟨b,B1,e1,ev1⟩:=B0 ev
 cases ev1
 have hB:B'=B:=(ar5 (g:=not) (Q:=λ_ _=>True) rl rx ry e1 trivial).1
 subst hB
 exact (ar5 (g:=not) rl rx ry e1 (k ρ H _ (Ext.refl _ _) rl (.bl _))).2
noncomputable def a03 (K:PySem.W.Frag) (neg:Bool):L2.R2:=λvx vy H Q=>∃(ρ:List Addr) (x:PV) (a:Addr) (l:List PV) (xs:List L2.V),RV ρ H x vx/\vy=.ref a/\(L2.SqL K H a xs\/L2.SqT K H a xs)/\RVs ρ H l xs/\plain x=true/\K9 l=true/\Q (.bl (if neg then !pIn x l else pIn x l)) H
noncomputable def aw0 (ρ:List Addr) (H:L2.Hp) (x:PV) (u:Value):Bool:=@decide (∃y vy,L2.RelV vy u/\RV ρ H y vy/\plain y=true/\eqv y x=true) (Classical.propDecidable _)
theorem aF8 {x y:PV} {vy:L2.V} {u:Value} (ru:L2.RelV vy u) (ry:RV ρ H y vy) (py:plain y=true):aw0 ρ H x u=eqv y x:=by
 unfold aw0
 cases e:eqv y x with
 | true=>exact @decide_eq_true _ (Classical.propDecidable _) ⟨y,vy,ru,ry,py,e⟩
 | false=>
   refine @decide_eq_false _ (Classical.propDecidable _) λ⟨z,vz,rz,qz,pz,ez⟩=>?_
   have:=rz.inj ru
   subst this
   have:=RV.uniq qz ry (X9 _ pz) (X9 _ py)
   subst this
   rw [e] at ez;cases ez
theorem g6 {x:PV}:∀{l:List PV} {xs:List L2.V} {us:List Value},RVs ρ H l xs->L2.Vals xs us->K9 l=true->us.any (aw0 ρ H x)=pIn x l
 | _,_,_,.nil,.nil,_=>rfl
 | _,_,_,.cons h r,.cons h' r',p=>by
   have p':=p
   unfold K9 at p'
   rw [List.all_cons,Bool.and_eq_true] at p'
   rw [List.any_cons,aF8 h' h p'.1,g6 r r' p'.2];rfl
theorem g7 {x:PV} {vx:L2.V} {v:Value} (I:L2.Inv X pins σ H s) (A:Around) (hu:A.units+3<cLine) (rx:RV ρ H x vx) (px:plain x=true) (ux:L2.RelV vx v):∀{l:List PV} {xs:List L2.V} {us:List Value},RVs ρ H l xs->L2.Vals xs us->K9 l=true->∀u∈us,EqAt A s u v (aw0 ρ H x u)
 | _,_,_,.nil,.nil,_=>λu hu=>by cases hu
 | _,_,_,.cons h r,.cons h' r',p=>λu hm=>by
   have p':=p
   unfold K9 at p'
   rw [List.all_cons,Bool.and_eq_true] at p'
   rcases List.mem_cons.mp hm with rfl | hm
   ·rw [aF8 h' h p'.1];exact aR5 I A hu _ _ _ _ _ _ h rx p'.1 px h' ux
   ·exact g7 I A hu rx px ux r r' p'.2 u hm
theorem bd7 (hr:X.A.units+64<cLine):L2.OpR X (compareOp .In) (a03 X.K false):=by
 intro pins s σ H x y v u Q I rx ry h
 obtain⟨ρ,z,a,l,xs,rz,rfl,hq,r,pz,pl,q⟩:=h
 cases ry
 rcases hq with hq | hq
 ·obtain⟨its,ri,pi,hz⟩:=I.list hq
  refine in_listAt (aw0 ρ H z) pi.isList (λw hw=>g7 I X.A.in1 (L8 X.A 3 (by omega)) rz pz rx r ri pl w (by simpa using hw)) ⟨.bl _,H,I,rfl,?_⟩
  rw [List.any_toArray,g6 r ri pl];exact q
 ·obtain⟨its,ri,pi,hz⟩:=I.tuple hq
  refine in_tupleAt (aw0 ρ H z) pi (λw hw=>g7 I X.A.in1 (L8 X.A 3 (by omega)) rz pz rx r ri pl w (by simpa using hw)) ⟨.bl _,H,I,rfl,?_⟩
  rw [List.any_toArray,g6 r ri pl];exact q
theorem aK7 (hr:X.A.units+64<cLine):L2.OpR X (compareOp .NotIn) (a03 X.K true):=by
 intro pins s σ H x y v u Q I rx ry h
 obtain⟨ρ,z,a,l,xs,rz,rfl,hq,r,pz,pl,q⟩:=h
 cases ry
 rcases hq with hq | hq
 ·obtain⟨its,ri,pi,hz⟩:=I.list hq
  refine notIn_listAt (aw0 ρ H z) pi.isList (λw hw=>g7 I X.A.in1 (L8 X.A 3 (by omega)) rz pz rx r ri pl w (by simpa using hw)) ⟨.bl _,H,I,rfl,?_⟩
  rw [List.any_toArray,g6 r ri pl];exact q
 ·obtain⟨its,ri,pi,hz⟩:=I.tuple hq
  refine notIn_tupleAt (aw0 ρ H z) pi (λw hw=>g7 I X.A.in1 (L8 X.A 3 (by omega)) rz pz rx r ri pl w (by simpa using hw)) ⟨.bl _,H,I,rfl,?_⟩
  rw [List.any_toArray,g6 r ri pl];exact q
theorem bk5:M6 X.K cm oIn (a03 X.K false):=λρ B H x y z B' vx vy Q rl rx ry ev k=>by
 obtain⟨l,B1,e1,ev1⟩:=B0 ev
 obtain⟨rfl,a,xs,rfl,hs,r⟩:=d6 rl ry e1
 obtain⟨c,ev2⟩:=C5 ev1
 cases ev2
 exact⟨ρ,x,a,l,xs,rx,rfl,hs,r,c.1,c.2,k ρ H _ (Ext.refl _ _) rl (.bl _)⟩
theorem aR6:M6 X.K cm aA8 (a03 X.K true):=λρ B H x y z B' vx vy Q rl rx ry ev k=>by
 obtain⟨l,B1,e1,ev1⟩:=B0 ev
 obtain⟨rfl,a,xs,rfl,hs,r⟩:=d6 rl ry e1
 obtain⟨c,ev2⟩:=C5 ev1
 cases ev2
 exact⟨ρ,x,a,l,xs,rx,rfl,hs,r,c.1,c.2,k ρ H _ (Ext.refl _ _) rl (.bl _)⟩
noncomputable def n0:Ty->String
 | .int=>"int"
 | .bool=>"bool"
 | .tuple=>"tuple"
 | .list=>"list"
structure Kit (K:PySem.W.Frag):Prop where
 t (a b:String) (ha:a∈["NoneType","bool","int","str","list","tuple"]) (hb:b∈["int","bool","tuple","list"]):PySem.W.kitOne K (.type a) (.type b)=some (a == b||(a == "bool"&&b == "int"))
noncomputable def bn8 (K:PySem.W.Frag) (t:Ty):List L2.V->L2.Hp->L2.VK->Prop:=λvs H Q=>∃v ty,vs=[v,.ty (n0 t)]/\ty∈["NoneType","bool","int","str","list","tuple"]/\L2.o7 K H v (.type ty)/\Q (.bl (ty == n0 t||(ty == "bool"&&n0 t == "int"))) H
theorem aR7 (kit:Kit X.K) (t:Ty):L2.CallR X (.builtin "isinstance") (bn8 X.K t):=by
 intro pins s σ H xs us Q I r h
 obtain⟨v,ty,rfl,hm,hty,q⟩:=h
 obtain⟨u,w,rfl,ru,rw'⟩:=L2.au1 r
 cases rw'
 exact L2.ak7 I ru hty (kit.t ty (n0 t) hm (by cases t <;> simp [n0])) λtk=>⟨.bl _,H,I.tok tk,rfl,q⟩
theorem aF9 {e:Expr} {d:ED} {t:Ty} {tn:Str} {p p2 pos:Pos} (kit:Kit X.K) (he:L2.PE X e (EvE X.K cm d)) (hg:L2.Gl X "isinstance") (hm:X.mg "isinstance" = none) (hgt:L2.Gl X tn) (hmt:X.mg tn=none) (hbt:bootBuiltins tn=some (.type (n0 t)))
 (hs:starEach [e,.Name tn p2] X.env=(false,eval e X.env)::starEach [.Name tn p2] X.env:=by exact G0 rfl) (hs2:starEach [Expr.Name tn p2] X.env=(false,eval (.Name tn p2) X.env)::starEach [] X.env:=by exact G0 rfl) (hpl:(backTo pos (starEach [Expr.Name tn p2] X.env)).any (·.1)=false:=by rfl)
 (hn:tn≠"__name__":=by decide) (hdb:(tn == ("__debug__" : Str))=false:=by decide) :
 L2.PE X (.Call (.Name "isinstance" p) [e,.Name tn p2] [] pos) (EvE X.K cm (aK3 d t)):=
 E3 (L2.S7 (aR7 kit t) hg hm PyProof.Rows.boot_isinstance (L2.X3 he (L2.X3 (L2.aE2 (v:=.ty (n0 t)) hgt hmt hbt rfl hn hdb) L2.ap4 hs2) hs) (he:=hs) (hpl:=hpl)) λσ H Q ⟨ρ,A,σp,v,A',rl,rs,ev,k⟩=>by
  obtain⟨x,A1,e1,ev1⟩:=B0 ev
  obtain⟨b,A2,e2,ev2⟩:=B0 ev1
  cases ev2
  refine⟨ρ,A,σp,x,A1,rl,rs,e1,λρ1 H1 v1 x1 rl1 rv1=>?_⟩
  cases x with
  | non=>cases rv1;cases t <;> cases e2 <;> exact⟨_,"NoneType",rfl,by simp,.non,k ρ1 H1 _ x1 rl1 (.bl _)⟩
  | bl c=>cases rv1;cases t <;> cases e2 <;> exact⟨_,"bool",rfl,by simp,.bl c,k ρ1 H1 _ x1 rl1 (.bl _)⟩
  | int i=>cases rv1;cases t <;> cases e2 <;> exact⟨_,"int",rfl,by simp,.int i,k ρ1 H1 _ x1 rl1 (.bl _)⟩
  | str z=>cases rv1;cases t <;> cases e2 <;> exact⟨_,"str",rfl,by simp,.str z,k ρ1 H1 _ x1 rl1 (.bl _)⟩
  | tup l=>
    cases rv1 with
    | tup ha r=>cases t <;> cases e2 <;> exact⟨_,"tuple",rfl,by simp,.tup ha,k ρ1 H1 _ x1 rl1 (.bl _)⟩
  | ref n=>
    cases t <;>
    (obtain⟨l,A3,e3,e4⟩:=B0 e2
     obtain⟨rfl,hA,a,xs,rfl,hn,hH,r⟩:=V3 rl1 rv1 e3
     cases e4
     exact⟨_,"list",rfl,by simp,.lst hH,k ρ1 H1 _ x1 rl1 (.bl _)⟩)
end
end Ws
namespace Ws
open PySem
theorem n4 {X:L2.Cx} {pins:List (Addr×Obj)} {σ:L2.St} {H:L2.Hp} {s:Shared} {h':Heap} {t':Nat} {fp:List Addr} {T:Addr} {o:L2.HO} (I:L2.Inv X pins σ H s) (hf:∀b∈fp,L2.o5 X pins H b)
 (k:∀b u,b∉fp->s.heap.get? b=some u->h'.get? b=some u) (hT:s.heap.objs.size<=T) (new:L2.ObjOk X.prog X.w (L2.upd H T o) h' T o):L2.Inv X pins σ (L2.upd H T o) { s with heap:=h',toks:=t' }:=by
 have hn:H T=none:=I.hok.fresh hT
 have neT:∀b u,s.heap.get? b=some u->b≠T:=λb u e=>Nat.ne_of_lt (Nat.lt_of_lt_of_le (Heap.lt_size e) hT)
 have nfp:∀b u,H b=some u->b∉fp:=λb u e z=>by rw [(hf b z).1] at e;cases e
 refine I.step (g':=s.gens) (d':=s.drawn) (ch:=fp) (λb hb=>?_) (λb u _ _ hc e _=>k b u hc e) (λb u _ _ hc e _=>⟨u.slots,k b u hc e⟩) (λb u hc e n=>by rw [L2.D6 (neT b u e)];exact n) (λb u hc e=>⟨u,k b u hc e⟩)
  (λb xs e=>by rw [L2.D6 (L2.J1 e hn)];exact e) (λb u xs e=>by rw [L2.D6 (L2.J1 e hn)];exact e) (λb ps e=>⟨#[],by rw [L2.D6 (L2.J1 e hn),e];simp⟩) (λm hm=>?_) (λb u e=>?_) I.bare
 ·obtain⟨_,f1,_,f3,f4,f5⟩:=hf b hb
  exact⟨f3,f1,f4,f5⟩
 ·obtain⟨ob,es,ep,ho,r⟩:=hm
  exact⟨ob,es,ep,k _ ob (λz=>(hf _ z).2.1 rfl) ho,r⟩
 ·by_cases hb:b=T
  ·subst hb;rw [L2.D4] at e;cases e;exact new
  ·rw [L2.D6 hb] at e
   refine (I.hok b u e).stay (λc v hc q=>k c v ?_ q) (λc q=>by rw [L2.D6 (L2.J1 q hn)];exact q) λc xs q=>by rw [L2.D6 (L2.J1 q hn)];exact q
   rcases hc with rfl | hc
   ·exact nfp c u e
   ·exact nfp c _ hc
theorem V7 {X:L2.Cx} {pins:List (Addr×Obj)} {σ:L2.St} {H:L2.Hp} {s:Shared} {h':Heap} {t':Nat} {fp:List Addr} (I:L2.Inv X pins σ H s) (hf:∀b∈fp,L2.o5 X pins H b)
 (k:∀b u,b∉fp->s.heap.get? b=some u->h'.get? b=some u):L2.Inv X pins σ H { s with heap:=h',toks:=t' }:=by
 have nfp:∀b u,H b=some u->b∉fp:=λb u e z=>by rw [(hf b z).1] at e;cases e
 refine I.step (g':=s.gens) (d':=s.drawn) (ch:=fp) (λb hb=>?_) (λb u _ _ hc e _=>k b u hc e) (λb u _ _ hc e _=>⟨u.slots,k b u hc e⟩) (λb u hc e n=>n) (λb u hc e=>⟨u,k b u hc e⟩)
  (λb xs e=>e) (λb u xs e=>e) (λb ps e=>⟨#[],by rw [e];simp⟩) (λm hm=>?_) (λb u e=>?_) I.bare
 ·obtain⟨_,f1,_,f3,f4,f5⟩:=hf b hb
  exact⟨f3,f1,f4,f5⟩
 ·obtain⟨ob,es,ep,ho,r⟩:=hm
  exact⟨ob,es,ep,k _ ob (λz=>(hf _ z).2.1 rfl) ho,r⟩
 ·refine (I.hok b u e).stay (λc v hc q=>k c v ?_ q) (λc q=>q) λc xs q=>q
  rcases hc with rfl | hc
  ·exact nfp c u e
  ·exact nfp c _ hc
theorem aK8 {P:Program} {w:World} {K:PySem.W.Frag} {elts:List Expr} {x1:Nat} {pos:Pos} (a e it:Addr) (hei:e≠it):L2.ap0 P w K (.Tuple elts x1 pos) (Ite K a) [e,it] e (λi h=>(∃old,IsEnum h e it i old)/\h.IsListIter it a i) where
 mem:=by simp
 obj:=λi h st b hb=>by
  obtain⟨⟨old,he⟩,o,e1,c,d⟩:=st
  rcases List.mem_cons.mp hb with rfl | hb
  ·exact⟨_,he,λv z=>by cases z⟩
  ·have e2:b=it:=by simpa using hb
   subst e2
   exact⟨o,e1,λv z=>by rw [d] at z;cases z⟩
 keep:=λi h h' st k=>by
  obtain⟨⟨old,he⟩,hit⟩:=st
  exact⟨⟨old,k e (by simp) _ he⟩,hit.at λo x=>k it (by simp) o x⟩
 item:=by
  intro X hP hw hK hc i pins s σ H E I hf st hg
  subst hP hw hK
  obtain⟨xs,x,hq,hx⟩:=hg
  obtain⟨its,rv,p,hz⟩:=I.list hq
  obtain⟨u,hu,ru⟩:=rv.get hx
  obtain⟨⟨old,he⟩,hit⟩:=st
  have el:=Heap.lt_size he
  refine wpAny_pyNext_enum_item he hit p.isList (x:=u) (by simpa using hu) hei λh' ho hit' hT hsz hk=>?_
  refine⟨.ref s.heap.objs.size,rfl,wpAny_letOwnedTupleGo_enum (s:={ s with heap:=h',toks:=s.toks+1 }) ho λh2 he2 hs2=>?_⟩
  have sb:∀b u,b≠e->h'.get? b=some u->h2.get? b=some u:=λb u hb q=>(hs2.2 b hb).trans q
  have hTe:s.heap.objs.size≠e:=Nat.ne_of_gt el
  have I2:L2.Inv X pins σ (L2.upd H s.heap.objs.size (.tup [.int i,x])) { s with heap:=h2,toks:=s.toks+1 }:=by
   refine n4 (s:=s) (t':=s.toks+1) I hf (λb u hb q=>?_) (Nat.le_refl _) ?_
   ·have h1:b≠e:=λz=>hb (by simp [z])
    have h2:b≠it:=λz=>hb (by simp [z])
    exact sb b u h1 (hk b u h1 h2 q)
   ·exact⟨by show 2<=sizeLine;decide,[.int i s.toks,u],.cons ⟨_,rfl⟩ (.cons ru .nil),_,sb _ _ hTe hT,rfl,_,rfl⟩
  refine⟨.ref s.heap.objs.size,L2.upd H s.heap.objs.size (.tup [.int i,x]),I2,rfl,⟨x,s.heap.objs.size,λys hy=>by rw [I.list_inj hy hq];exact hx,I.hok.fresh (Nat.le_refl _),rfl,rfl⟩,⟨⟨u,by exact_mod_cast he2⟩,hit'.at λo y=>sb it o hei.symm y⟩,λb hb=>?_⟩
  ·rw [L2.D6]
   ·exact (hf b hb).1
   ·rcases List.mem_cons.mp hb with rfl | hb
    ·exact hTe.symm
    ·have e2:b=it:=by simpa using hb
     subst e2
     obtain⟨_,y,_⟩:=hit
     exact Nat.ne_of_lt (Heap.lt_size y)
 done:=by
  intro X hP hw hK hc i pins s σ H E I hf st hg
  subst hP hw hK
  obtain⟨xs,hq,hx⟩:=hg
  obtain⟨its,rv,p,hz⟩:=I.list hq
  obtain⟨⟨old,he⟩,hit⟩:=st
  have hl:=rv.length
  exact wpAny_pyNext_enum_end (I.ok.hd hc) he hit p.isList (by rw [Array.getElem?_eq_none];simp;omega) λh' eb=>⟨rfl,V7 (t':=s.toks) I hf λb u hb q=>eb b u (λz=>hb (by simp [z])) q⟩
 self:=λ_ _ _ _ _ st h=>by
  obtain⟨⟨old,he⟩,_⟩:=st
  exact wpAny_pyIter_enum he h
section
variable {X:L2.Cx} {cm:Nat->Addr}
theorem bk6 {l:Expr} {d:ED} {elts:List Expr} {x1:Nat} {tpos p pos:Pos} (hg:L2.Gl X "enumerate") (hm:X.mg "enumerate" = none) (hl:L2.PE X l (EvE X.K cm d)) (hs:starEach [l] X.env=(false,eval l X.env)::starEach [] X.env:=by exact G0 rfl):L2.PI X (.Tuple elts x1 tpos) (.Call (.Name "enumerate" p) [l] [] pos) (EvI X.K cm (bj4 d)):=by
 intro pins s σ H R I h
 obtain⟨ρ,A,σp,J,A',rl,rs,ev,k⟩:=h
 obtain⟨x,A1,e1,ev1⟩:=B0 ev
 refine PyProof.Rows.Call_ (L2.m5 I hg hm PyProof.Rows.boot_enumerate (PyProof.Rows.callWith_type1 (L2.thn ((r_cons hl r_nil hs) pos pins s σ H (λvs H1=>∃a xs,vs=[.ref a]/\L2.SqL X.K H1 a xs/\R (Ite X.K a) H1) I ⟨ρ,A,σp,[x],A1,rl,rs,by show bnd (d σp) _ A=_;rw [bnd_ok e1];rfl,λρ1 H1 vs1 x1 rl1 rv1=>?_⟩) λus s1 ⟨vs,H1,I1,r1,q1⟩=>?_) hs rfl))
 ·cases x with
  | ref n=>
    obtain⟨m,A2,e2,ev2⟩:=B0 ev1
    cases rv1 with
    | cons hv hr=>
      cases hr
      obtain⟨rfl,a,xs,rfl,hq,r⟩:=J2 rl1 hv e2
      cases ev2
      cases hv with
      | ref hn=>exact⟨a,xs,rfl,hq,k ρ1 H1 _ x1 rl1 ⟨a,hn,rfl⟩⟩
  | _=>cases ev1
 ·obtain⟨a,xs,rfl,hq,q⟩:=q1
  obtain⟨u,rfl,rx⟩:=L2.R8 r1
  cases rx
  obtain⟨its,rv,pl,hz⟩:=I1.list hq
  refine call_enumerate_list pl.isList λh' he hit hsz kp=>?_
  refine wpAny_pyIter_enum he ?_
  have I2:L2.Inv X pins σ H1 { s1 with heap:=h' }:=I1.kept (t':=s1.toks) kp
  refine⟨s1.heap.objs.size+1,[s1.heap.objs.size+1,s1.heap.objs.size],_,_,H1,rfl,I2,aK8 a _ _ (Nat.succ_ne_self _),⟨⟨_,he⟩,hit⟩,λb hb=>?_,q⟩
  have hb2:s1.heap.objs.size<=b:=by
   rcases List.mem_cons.mp hb with rfl | hb
   ·exact Nat.le_succ _
   ·have:b=s1.heap.objs.size:=by simpa using hb
    exact Nat.le_of_eq this.symm
  exact I1.fpOk hb2 (I1.hok.fresh hb2)
end
end Ws
namespace Ws
open PySem
structure Def (P:Program) (w:World) (K:PySem.W.Frag) (mg:Str->Option Value) (base:Heap) (cm:Nat->Addr) (x:Str) (k:Nat) (ps:List Str) (f:Fun) (n:Nat):Prop where
 ex:∃(fa:Addr) (fd:FuncData),L2.FnOk P w K mg base L2.CX0 k fa fd ps (SpF K cm f n)/\mg x=some (.ref fa)/\PySem.W.keepIn K (.ref fa)=true/\L2.Binds K fd ps []
 len:∀vs A v A',f vs A=.ok v A'->vs.length=n
structure a04 (P:Program) (w:World) (K:PySem.W.Frag) (mg:Str->Option Value) (base:Heap) (cm:Nat->Addr) (c:Nat) (m:Str) (k:Nat) (ps:List Str) (f:Fun) (n:Nat):Prop where
 ex:∃(fa:Addr) (fd:FuncData),L2.FnOk P w K mg base L2.CX0 k fa fd ps (SpF K cm f n)/\L2.aX9 K (cm c) m fa/\L2.Binds K fd ps []
 len:∀vs A v A',f vs A=.ok v A'->vs.length=n
structure aw1 (P:Program) (w:World) (K:PySem.W.Frag) (mg:Str->Option Value) (base:Heap) (cm:Nat->Addr) (c:Nat) (x:Str) (k:Nat) (ps:List Str) (f:Fun) (n:Nat):Prop where
 ex:∃(fa:Addr) (fd:FuncData),L2.FnOk P w K mg base L2.CX0 k fa fd ps (SpF K cm f n)/\L2.Mk K (cm c) fa/\mg x=some (.ref (cm c))/\L2.Binds K fd ps []
 len:∀vs A v A',f vs A=.ok v A'->vs.length=n/\v=.non
section
variable {X:L2.Cx} {cm:Nat->Addr}
theorem C8 {f:Fun} {n k k':Nat} {ps:List Str} {x:Str} {e:Expr} {es:List Expr} {ds:AD} {p pos:Pos} (D:Def X.prog X.w X.K X.mg X.base cm x k ps f n) (hk:k<=k') (hr:L2.Room k' X.A) (hg:L2.Gl X x)
 (ha:L2.PA X (e::es) (EvA X.K cm ds)) (hdb:(x == ("__debug__" : Str))=false:=by decide) (he:starEach (e::es) X.env=(false,eval e X.env)::starEach es X.env:=by exact G0 rfl) (hpl:(backTo pos (starEach es X.env)).any (·.1)=false:=by rfl) :
 L2.PE X (.Call (.Name x p) (e::es) [] pos) (EvE X.K cm (E5 f ds)):=by
 obtain⟨fa,fd,F,hm,hkp,hb⟩:=D.ex
 exact bd4 F D.len (hr.mono hk) hg hm hkp hb ha hdb he hpl
theorem aG0 {c:Nat} {f:Fun} {n k k':Nat} {ps:List Str} {m:Str} {o e:Expr} {es:List Expr} {d:ED} {ds:AD} {apos pos:Pos} {pl:Sem Bool} (D:a04 X.prog X.w X.K X.mg X.base cm c m k ps f n) (hk:k<=k') (hr:L2.Room k' X.A) (hc:L2.Cls X.K (cm c)) (ho:L2.PE X o (EvE X.K cm d)) (ha:L2.PA X (e::es) (EvA X.K cm ds)) (hnm:∀i,i<19->fnm i≠m)
 (hst:starEach (e::es) X.env=(false,eval e X.env)::starEach es X.env:=by exact G0 rfl) (hpl:(backTo pos (starEach es X.env)).any (·.1)=false:=by rfl)
 (ht:eval (.Call (.Attribute o m apos) (e::es) [] pos) X.env=(do
  let ov ←eval o X.env
  standAt apos.atName
  let (f,first) ←holding [ov] (getMethod ov m pl)
  callWith pos f first (backTo pos (starEach (e::es) X.env)) (backToKw pos (keywordEach [] X.env))):=by rfl) :
 L2.PE X (.Call (.Attribute o m apos) (e::es) [] pos) (EvE X.K cm (al4 c f d ds)):=by
 obtain⟨fa,fd,F,hm,hb⟩:=D.ex
 exact bd5 (pl:=pl) ho hc hm F D.len hnm (hr.mono hk) hb ha hst hpl ht
theorem u0 {c:Nat} {f:Fun} {n k k':Nat} {ps:List Str} {x:Str} {e:Expr} {es:List Expr} {ds:AD} {p pos:Pos} (D:aw1 X.prog X.w X.K X.mg X.base cm c x k ps f n) (hk:k+1<=k') (hr:L2.Room k' X.A)
 (hg:L2.Gl X x) (ha:L2.PA X (e::es) (EvA X.K cm ds)) (hdb:(x == ("__debug__" : Str))=false:=by decide) (he:starEach (e::es) X.env=(false,eval e X.env)::starEach es X.env:=by exact G0 rfl) (hpl:(backTo pos (starEach es X.env)).any (·.1)=false:=by rfl) (h7:c<7:=by decide) :
 L2.PE X (.Call (.Name x p) (e::es) [] pos) (EvE X.K cm (s8 c f ds)):=by
 obtain⟨fa,fd,F,hM,hm,hb⟩:=D.ex
 exact bd6 h7 hM F D.len (hr.mono hk) hg hm hb ha hdb he hpl
theorem aB9 {x:Str} {i:Int} {pos:Pos} (hg:L2.Gl X x) (hm:∃t,X.mg x=some (.int i t)) (hd:(x == ("__debug__" : Str))=false:=by decide):L2.PE X (.Name x pos) (EvE X.K cm (eK (.int i))):=by
 obtain⟨t,hm⟩:=hm
 exact r_k (L2.ao9 hg hm (show L2.RelV (.int i) (.int i t) from ⟨t,rfl⟩) hd) λ_ _=>.int i
end
structure P7 (K:PySem.W.Frag) (mg:Str->Option Value) (cm:Nat->Addr):Prop where
 kit:Kit K
 cls:∀c,c<7->L2.Cls K (cm c)
 na:∀c i,i<19->c<7->L2.NoAttr K (cm c) (fnm i)
 b_len:mg "len" = none
 b_range:mg "range" = none
 b_list:mg "list" = none
 b_sorted:mg "sorted" = none
 b_isinstance:mg "isinstance" = none
 b_int:mg "int" = none
 b_bool:mg "bool" = none
 b_tuple:mg "tuple" = none
 b_enumerate:mg "enumerate" = none
 b_reversed:mg "reversed" = none
 b_max:mg "max" = none
 b_min:mg "min" = none
 b_all:mg "all" = none
 b_any:mg "any" = none
 b_set:mg "set" = none
 b_zip:mg "zip" = none
 b_dict:mg "dict" = none
end Ws
namespace Ws
open PySem
section
variable {prog:Program} {w:World} {A:Around} {R:Result->Shared->Prop} {s:Shared}
noncomputable abbrev aG1 (ifs:List Expr) (env:Env):Sem Bool:=forIn ifs true λc r=>if r=true then do let ok ←isTrue c env (eval c env);pure (ForInStep.yield ok) else pure (ForInStep.yield r)
theorem aK9 {elt target iter:Expr} {ifs:List Expr} {scope:Scope} {pos:Pos} {it acc:Value} {env:Env} (I:Nat->Shared->Prop)
 (turn:∀n s,I n s->wpAny (model prog w) A (pyNext it) (λr s₁=>match r with
  | none=>R (.ok .next) s₁
  | some v=>wpAny (model prog w) A (letOwnedTupleGo target it v) (λ_ s₀=>wpAny (model prog w) A (assign target env v) (λ_ s₂=>
   wpAny (model prog w) A (aG1 ifs env) (λok s₃=>
    if ok=true then wpAny (model prog w) A (eval elt env) (λx s₄=>
     wpAny (model prog w) A (call (.builtin "list.append") [acc,x]) (λ_ s₅=>∃m,m<n/\I m s₅) (λ_ _=>False) s₄) (λ_ _=>False) s₃
    else ∃m,m<n/\I m s₃) (λ_ _=>False) s₂) (λ_ _=>False) s₀) (λ_ _=>False) s₁) (λ_ _=>False) s)
 (n:Nat) (h:I n s):codeAny (model prog w) A (.compLoop (.ListComp elt [⟨target,iter,ifs,0⟩] scope pos) 0 it acc env) R s:=by
 have fe:∀{E':Value->Shared->Prop} {e:Value} {s':Shared},False->E' e s':=λh=>h.elim
 refine codeAny_loop rfl I (λn s hI=>?_) n h
 show wpAny _ A ((compTurn (.ListComp elt [⟨target,iter,ifs,0⟩] scope pos) 0 it acc env).onRaise (λx=>do noteFrame x env;theTreesLotGoes x)) _ _ s
 refine wpAny_noted ?_
 rw [compTurn_list]
 refine wpAny_bind (wpAny_standAt (wpAny_bind (wpAny_mono (turn n s hI) (λr s₁ h₁=>?_) λ_ _ h'=>h'.elim)))
 cases r with
 | none=>exact wpAny_pure h₁
 | some v=>
   refine wpAny_bind (wpAny_mono h₁ (λ_ s₀ h₀=>?_) λ_ _ h'=>h'.elim)
   refine wpAny_bind (wpAny_mono h₀ (λ_ s₂ h₂=>wpAny_bind (wpAny_mono h₂ (λok s₃ h₃=>?_) λ_ _ h'=>h'.elim)) λ_ _ h'=>h'.elim)
   cases ok with
   | false=>exact wpAny_pure ⟨rfl,h₃⟩
   | true=>
     exact wpAny_bind (wpAny_bind (wpAny_mono h₃ (λx s₄ h₄=>wpAny_bind (wpAny_mono h₄ (λ_ s₅ h₅=>wpAny_pure (wpAny_pure ⟨rfl,h₅⟩)) λ_ _ h'=>h'.elim)) λ_ _ h'=>h'.elim))
end
noncomputable def blk (X:L2.Cx) (N:List Str) (scope:Scope) (cl:List (Str×Addr)) (C:Addr) (s₀:Shared) (H₀:L2.Hp) (fp:List Addr):L2.Cx where
 prog:=X.prog
 w:=X.w
 K:=X.K
 mg:=X.mg
 base:=X.base
 A:=X.A
 N:=N
 s₀:=s₀
 H₀:=H₀
 env:=compEnvC scope cl C X.env
 outer:=X.stack
 stack:=X.stack
 ex:=fp
 fn:=λ_=>false
 calm:=X.calm
 pn:=[]
 xe:=λ_ _=>False
inductive FreeOk (X:L2.Cx) (scope:Scope) (cl:List (Str×Addr)):List Str->List (Option Nat)->Prop where
 | nil:FreeOk X scope cl [] []
 | own {x:Str} {N:List Str} {js:List (Option Nat)} (h:FreeOk X scope cl N js):FreeOk X scope cl (x::N) (none::js)
 | free {x:Str} {j:Nat} {N:List Str} {js:List (Option Nat)} (h1:X.N[j]?=some x) (h2:X.env.kindOf x=some .cell\/X.env.kindOf x=some .free) (h3:L2.Vis X.env.scope x) (h4:cl.lookup x=X.env.cells.lookup x) (h5:(relabel scope X.env).names.lookup x=some .cell\/(relabel scope X.env).names.lookup x=some .free) (h:FreeOk X scope cl N js):FreeOk X scope cl (x::N) (some j::js)
theorem FreeOk.len {X:L2.Cx} {scope:Scope} {cl:List (Str×Addr)}:∀{N:List Str} {js:List (Option Nat)},FreeOk X scope cl N js->js.length=N.length
 | _,_,.nil=>rfl
 | _,_,.own h=>by simp [h.len]
 | _,_,.free _ _ _ _ _ h=>by simp [h.len]
theorem FreeOk.get {X:L2.Cx} {scope:Scope} {cl:List (Str×Addr)}:∀{N:List Str} {js:List (Option Nat)} {i j:Nat} {x:Str},FreeOk X scope cl N js->N[i]?=some x->js[i]?=some (some j)->X.N[j]?=some x/\(X.env.kindOf x=some .cell\/X.env.kindOf x=some .free)/\L2.Vis X.env.scope x/\cl.lookup x=X.env.cells.lookup x/\((relabel scope X.env).names.lookup x=some .cell\/(relabel scope X.env).names.lookup x=some .free)
 | _,_,_,_,_,.nil,h,_=>by simp at h
 | _,_,0,_,_,.own _,_,h=>by simp at h
 | _,_,i+1,_,_,.own h,h1,h2=>FreeOk.get (i:=i) h (by simpa using h1) (by simpa using h2)
 | _,_,0,_,_,.free a b c d e _,h1,h2=>by simp at h1 h2;subst h1;subst h2;exact⟨a,b,c,d,e⟩
 | _,_,i+1,_,_,.free _ _ _ _ _ h,h1,h2=>FreeOk.get (i:=i) h (by simpa using h1) (by simpa using h2)
theorem aG2 {α:Type} {js:List (Option Nat)} {σ:List (Option α)} {i:Nat} {v:α} (h:(bst js σ)[i]?=some (some v)):∃j,js[i]?=some (some j)/\σ[j]?=some (some v):=by
 unfold bst at h
 rw [List.getElem?_map] at h
 rcases e:js[i]? with _ | (_ | j)
 ·rw [e] at h;cases h
 ·rw [e] at h;cases h
 ·rw [e] at h
  refine⟨j,rfl,?_⟩
  have h':σ.getD j none=some v:=Option.some.inj h
  rw [List.getD_eq_getElem?_getD] at h'
  rcases e2:σ[j]? with _ | o
  ·rw [e2] at h';cases h'
  ·rw [e2] at h';exact congrArg some h'
theorem RSt.bst {ρ:List Addr} {H:L2.Hp} {σp:PSt} {σ:L2.St} (h:RSt ρ H σp σ) (js:List (Option Nat)):RSt ρ H (Ws.bst js σp) (Ws.bst js σ):=by
 refine⟨by simp [Ws.bst],λi p hp=>?_⟩
 obtain⟨j,h1,h2⟩:=aG2 hp
 obtain⟨v,h3,h4⟩:=h.get j p h2
 refine⟨v,?_,h4⟩
 unfold Ws.bst
 rw [List.getElem?_map,h1]
 show some (σ.getD j none)=_
 rw [List.getD_eq_getElem?_getD,h3];rfl
structure aR8 (X:L2.Cx) (scope:Scope) (cl:List (Str×Addr)):Prop where
 kind:scope.kind=.function
 clos:closureFor scope X.env=pure cl
 nocell:∀y∈scope.names,y.2≠.cell
 names:∀y∈scope.names,y.2=.local->scope.names.lookup y.1=some .local
 sub:∀p∈cl,X.env.cells.lookup p.1=some p.2
 has:∀y∈scope.names,y.2=.free->(cl.lookup y.1).isSome=true
theorem aw2 {X:L2.Cx} {scope:Scope} {cl:List (Str×Addr)} (S:aR8 X scope cl) {x:Str} (h:(relabel scope X.env).names.lookup x=some .cell\/(relabel scope X.env).names.lookup x=some .free):∃c,cl.lookup x=some c:=by
 have key:∀k,(x,k)∈(relabel scope X.env).names->k=.cell\/k=.free->∃c,cl.lookup x=some c:=λk hm hk=>by
  unfold relabel at hm
  obtain⟨⟨n,k'⟩,hy,e⟩:=List.mem_map.mp hm
  dsimp only at e
  have hfree:n=x/\k'=.free:=by
   split at e
   ·rename_i hc
    cases e
    simp only [Bool.and_eq_true,beq_iff_eq] at hc
    exact⟨rfl,hc.1.1⟩
   ·cases e
    rcases hk with rfl | rfl
    ·exact absurd rfl (S.nocell _ hy)
    ·exact⟨rfl,rfl⟩
  obtain⟨rfl,rfl⟩:=hfree
  exact Option.isSome_iff_exists.mp (S.has _ hy rfl)
 rcases h with h | h
 ·exact key _ (PySem.mem_of_lookup h) (.inl rfl)
 ·exact key _ (PySem.mem_of_lookup h) (.inr rfl)
section
variable {X:L2.Cx} {cm:Nat->Addr} {pins:List (Addr×Obj)} {σ:L2.St} {H:L2.Hp} {s:Shared}
theorem aL0 {N:List Str} {js:List (Option Nat)} {scope:Scope} {cl:List (Str×Addr)} {C:Addr} {fp:List Addr} {h':Heap} {t':Nat} {m:Str->Option Value} (S:aR8 X scope cl) (Fr:FreeOk X scope cl N js) (I:L2.Inv X pins σ H s) (hf:∀b∈fp,L2.o5 X pins H b) (hfl:∀b∈fp,b<s.heap.objs.size)
 (hC:s.heap.objs.size<=C) (kp:∀b u,s.heap.get? b=some u->h'.get? b=some u) (hns:h'.Ns C m):L2.Inv (blk X N scope cl C s H fp) [] (Ws.bst js σ) H { s with heap:=h',toks:=t' }:=by
 have I1:L2.Inv X pins σ H { s with heap:=h',toks:=t' }:=I.kept kp
 have sub:∀x c,cl.lookup x=some c->X.env.cells.lookup x=some c:=λx c e=>S.sub (x,c) (PySem.mem_of_lookup e)
 refine⟨⟨I.ok.mod,S.kind,I.ok.glob,I.ok.blt,hC,λx y c h1 h2=>I.ok.inj x y c (sub x c h1) (sub y c h2),λx hx=>aw2 S hx,λx c h=>(nomatch h),I.ok.hd,I.ok.frames,.inl rfl,λb hb=>⟨Nat.ne_of_lt (Nat.lt_of_lt_of_le (hfl b hb) hC),λx c e=>(hf b hb).2.2.2.2.1 x c (sub x c e)⟩,
  I.bs,Nat.le_trans I.ok.bsz I.sz,λb o e hb=>?_,λb hb hz=>?_,I.stack,I.stkFree⟩,rfl,I.bare,L2.Un.kept kp,⟨m,hns,λi x v h1 h2 h3=>?_⟩,λx c e=>I1.cell x c (sub x c e),I.hok.fresh hC,λx c e=>I.freeC x c (sub x c e),λp hp=>absurd (show p∈([]:List (Addr×Obj)) from hp) (by simp),I1.hok,by simp [Ws.bst,Fr.len,blk]⟩
 ·rcases (hf b hb).2.2.2.1 with z | z
  ·exact I.ok.noex b o e z
  ·exact absurd (Nat.lt_of_lt_of_le (Heap.lt_size e) (Nat.le_trans I.ok.bsz z)) (Nat.lt_irrefl _)
 ·rcases List.mem_cons.mp (I.stkSub b hz) with z | z
  ·exact (hf b hb).2.1 z
  ·exact (hf b hb).2.2.1 z
 ·obtain⟨j,j1,j2⟩:=aG2 h2
  obtain⟨a1,a2,a3,a4,a5⟩:=Fr.get h1 j1
  obtain⟨m0,_,hl⟩:=I1.loc
  obtain⟨u,ru,lk⟩:=hl j x v a1 j2 a3
  refine⟨u,ru,?_⟩
  rcases lk with ⟨q,_⟩ | ⟨_,c,e1,e2⟩
  ·rcases a2 with a2 | a2 <;> (rw [a2] at q;cases q)
  ·exact .inr ⟨a5,c,a4.trans e1,e2⟩
theorem bk7 {D:Addr} {o:L2.HO} {fp:List Addr} (I:L2.Inv X pins σ H s) (hD:L2.o5 X pins H D) (new:L2.ObjOk X.prog X.w (L2.upd H D o) s.heap D o):L2.Inv X pins σ (L2.upd H D o) s:=by
 have hn:=hD.1
 have ne:∀b u,H b=some u->b≠D:=λb u e z=>by rw [z,hn] at e;cases e
 obtain⟨hp,g,d,tk,os⟩:=s
 refine I.step (g':=g) (d':=d) (t':=tk) (h':=hp) (ch:=[D]) (λb hb=>?_) (λb u _ _ _ e _=>e) (λb u _ _ _ e _=>⟨u.slots,e⟩) (λb u hc e n=>by rw [L2.D6 (λz=>hc (by simp [z]))];exact n) (λb u _ e=>⟨u,e⟩)
  (λb xs e=>by rw [L2.D6 (ne b _ e)];exact e) (λb u xs e=>by rw [L2.D6 (ne b _ e)];exact e) (λb ps e=>⟨#[],by rw [L2.D6 (ne b _ e),e];simp⟩) (λm hm=>hm) (λb u e=>?_) I.bare
 ·have e:b=D:=by simpa using hb
  subst e
  exact⟨hD.2.2.2.1,hD.2.1,hD.2.2.2.2.1,hD.2.2.2.2.2⟩
 ·by_cases hb:b=D
  ·subst hb;rw [L2.D4] at e;cases e;exact new
  ·rw [L2.D6 hb] at e
   exact (I.hok b u e).stay (λc v _ q=>q) (λc q=>by rw [L2.D6 (ne c _ q)];exact q) λc xs q=>by rw [L2.D6 (ne c _ q)];exact q
end
end Ws
namespace Ws
open PySem
section
variable {X:L2.Cx} {cm:Nat->Addr}
noncomputable def PTs (X:L2.Cx) (ifs:List Expr) (t:L2.TT):Prop:=
 ∀(pins:List (Addr×Obj)) (s:Shared) (σ:L2.St) (H:L2.Hp) (Q:Bool->L2.Hp->Prop),L2.Inv X pins σ H s->t σ H Q->wpAny (model X.prog X.w) X.A (aG1 ifs X.env) (L2.TP X pins σ Q) X.xe s
theorem Y2:PTs X [] (EvT X.K cm Z5):=λpins s σ H Q I ⟨ρ,A,σp,b,A',rl,rs,ev,k⟩=>by
 cases ev
 exact wpAny_tests_nil ⟨H,I,k ρ H (Ext.refl _ _) rl⟩
theorem aR9 {c:Expr} {t:TD} (h:L2.PT X c (EvT X.K cm t)):PTs X [c] (EvT X.K cm t):=λpins s σ H Q I q=>wpAny_tests_one (h pins s σ H Q I q)
theorem am1 {elt tg iter:Expr} {ifs:List Expr} {scope:Scope} {pos:Pos} {cl:List (Str×Addr)} {N:List Str} {js:List (Option Nat)} {g:GD} {t:TD} {e:ED} {pins:List (Addr×Obj)} {σ:L2.St} {H:L2.Hp} {s:Shared}
 {it:Addr} {fp:List Addr} {tn:Nat->Heap->Prop} {j:L2.It} {J:It} {ρ:List Addr} {A A':PHp} {σp:PSt} {n:Nat} {ys:List PV} {RR:Value->Addr->Result->Shared->Prop} {E:Value->Shared->Prop}
 (hc:X.calm=true) (S:aR8 X scope cl) (Fr:FreeOk X scope cl N js)
 (hg:∀C s0 H0 fp,L2.PG (blk X N scope cl C s0 H0 fp) tg (EvG X.K cm g)) (ht:∀C s0 H0 fp,PTs (blk X N scope cl C s0 H0 fp) ifs (EvT X.K cm t)) (he:∀C s0 H0 fp,L2.PE (blk X N scope cl C s0 H0 fp) elt (EvE X.K cm e))
 (I:L2.Inv X pins σ H s) (T:L2.ap0 X.prog X.w X.K tg j fp it tn) (st:tn 0 s.heap) (hf:∀b∈fp,L2.o5 X pins H b) (rj:RIt X.K ρ H J j) (rl:Rel X.K cm ρ A H) (rs:RSt ρ H σp σ)
 (ev:X8 J g t e (n+1) 0 (Ws.bst js σp) A=.ok ys A') (hy:ys.length<=LIM)
 (hRR:∀D C s' m,s'.heap.Ns C m->C≠X.env.locals->(∀h'',Heap.SameBut C s'.heap h''->∃ρ' H',Ext ρ H ρ' H'/\Rel X.K cm ρ' (A'++[.lst ys]) H'/\ρ'[A'.length]?=some D/\L2.Inv X pins σ H' { s' with heap:=h'' }/\L2.o5 X pins H' C)->RR (.ref D) C (.ok .next) s') :
 wpAny (model X.prog X.w) X.A (newList []) (λacc s₃=>wpAny (model X.prog X.w) X.A (newFunctionEnv scope X.env.globals cl [] X.env.qual none .none (some X.env)) (λcenv s₄=>
  codeAny (model X.prog X.w) X.A (.compStart (.ListComp elt [⟨tg,iter,ifs,0⟩] scope pos) 0 (.ref it) acc { cenv with scope:=relabel scope X.env }) (RR acc cenv.locals) s₄) E s₃) E s:=by
 refine wpAny_newObj_type (wpAny_newFunctionEnv S.nocell (by intro y hy;simp at hy) (λh₁ hns₁ hsb₁=>?_) S.kind)
 dsimp only at hns₁ hsb₁ ⊢
 generalize hH2:s.heap.push { cls:=.type "list",dict:=none,data:=.seq ([]:List Value).toArray }=H2 at hns₁ hsb₁ ⊢
 have hCz:H2.objs.size=s.heap.objs.size+1:=by rw [←hH2,Heap.size_push]
 have hfl:∀b∈fp,b<s.heap.objs.size:=λb hb=>by
  obtain⟨o,ho,_⟩:=T.obj 0 _ st b hb
  exact Heap.lt_size ho
 have hDC:s.heap.objs.size≠H2.objs.size:=by rw [hCz];exact Nat.ne_of_lt (Nat.lt_succ_self _)
 have hCle:s.heap.objs.size<=H2.objs.size:=by rw [hCz];exact Nat.le_succ _
 have old:∀b o,s.heap.get? b=some o->h₁.get? b=some o:=λb o q=>hsb₁.extBut b o (by rw [hCz];exact Nat.ne_of_lt (Nat.lt_succ_of_lt (Heap.lt_size q))) (Heap.get?_push_of_some _ (hH2 ▸ Heap.get?_push_of_some _ q))
 have hacc:h₁.PlainList s.heap.objs.size #[]:=⟨_,hsb₁.extBut _ _ hDC (Heap.get?_push_of_some _ (hH2 ▸ Heap.get?_push_size _ rfl))⟩
 generalize hDe:s.heap.objs.size=D at *
 generalize hCe:H2.objs.size=C at *
 let Y:=blk X N scope cl C s H fp
 have hDfp:∀b∈fp,b≠D:=λb hb=>Nat.ne_of_lt (hfl b hb)
 have lt_of:∀b o,s.heap.get? b=some o->b<D:=λb o q=>by rw [←hDe];exact Heap.lt_size q
 have nD:D∉L2.frs X.stack:=λz=>by
  obtain⟨_,o,ho,_⟩:=I.stack.mem z
  exact Nat.lt_irrefl _ (lt_of _ _ ho)
 have cellD:∀x c,X.env.cells.lookup x=some c->c<D:=λx c q=>by
  obtain⟨v,o,ho,_⟩:=I.cell x c q
  exact lt_of _ _ ho
 have subc:∀x c,cl.lookup x=some c->X.env.cells.lookup x=some c:=λx c q=>S.sub (x,c) (PySem.mem_of_lookup q)
 have fpY:∀(ps:List (Addr×Obj)) (H':L2.Hp),(∀p∈ps,∀b∈fp,p.1≠b)->(∀b∈fp,H' b=none)->∀b∈fp,L2.o5 Y ps H' b:=λps H' hps hn b hb=>
  ⟨hn b hb,Nat.ne_of_lt (Nat.lt_of_lt_of_le (hfl b hb) hCle),λhz=>(List.mem_cons.mp (I.stkSub b hz)).elim (hf b hb).2.1 (hf b hb).2.2.1,.inl hb,λx c q=>(hf b hb).2.2.2.2.1 x c (subc x c q),λp hp=>hps p (by simpa [Y,blk] using hp) b hb⟩
 have I0:L2.Inv Y [] (Ws.bst js σ) H { s with heap:=h₁,toks:=s.toks+([]:List (Str×Value)).length }:=aL0 S Fr I hf (λb hb=>by rw [hDe];exact hfl b hb) (by rw [hDe];exact hCle) old hns₁
 have st1:tn 0 h₁:=T.keep 0 _ _ st λb hb o q=>old b o q
 have loop:∀s₃:Shared,s₃={ s with heap:=h₁,toks:=s.toks+([]:List (Str×Value)).length }->
  codeAny (model X.prog X.w) X.A (.compLoop (.ListComp elt [⟨tg,iter,ifs,0⟩] scope pos) 0 (.ref it) (.ref D) (compEnvC scope cl C X.env)) (RR (.ref D) C) s₃:=by
  rintro s₃ rfl
  refine aK9 (λm s'=>∃i σ' H' ρ' B σp' rest accp accv its,L2.Inv Y [] σ' H' s'/\tn i s'.heap/\(∀b∈fp,H' b=none)/\Ext ρ H ρ' H'/\Rel X.K cm ρ' B H'/\RSt ρ' H' σp' σ'/\X8 J g t e (m+1) i σp' B=.ok rest A'/\
   s'.heap.PlainList D (List.toArray its)/\H' D=none/\L2.Vals accv its/\RVs ρ' H' accp accv/\accp++rest=ys) ?_ n ⟨0,_,H,ρ,A,Ws.bst js σp,ys,[],[],[],I0,st1,λb hb=>(hf b hb).1,Ext.refl _ _,rl,rs.bst js,ev,hacc,by rw [←hDe];exact I.hok.fresh (Nat.le_refl _),.nil,.nil,rfl⟩
  rintro m s' ⟨i,σ',H',ρ',B,σp',rest,accp,accv,its,I1,st',fn',x1,rl1,rs1,ev1,pl,hDn,va,ra,hys⟩
  obtain⟨nD0,hDo⟩:=id pl
  have dD:∀v,({ cls:=.type "list",data:=.seq its.toArray nD0 }:Obj).data≠.cell v:=λv z=>nomatch z
  have I2:L2.Inv Y [(D,{ cls:=.type "list",data:=.seq its.toArray nD0 })] σ' H' s':=I1.pins_of λp hp=>by
   have e:p=(D,{ cls:=.type "list",data:=.seq its.toArray nD0 }):=by simpa using hp
   subst e
   exact⟨hDo,hDn,hDC,nD,dD⟩
  have f2:=fpY [(D,{ cls:=.type "list",data:=.seq its.toArray nD0 })] H' (λp hp b hb=>by
   have e:p=(D,{ cls:=.type "list",data:=.seq its.toArray nD0 }):=by simpa using hp
   subst e
   exact (hDfp b hb).symm) fn'
  rw [U0] at ev1
  obtain⟨x,B1,e1,ev2⟩:=B0 ev1
  obtain⟨rfl,hit⟩:=aF6 rl1 (rj.mono x1) e1
  cases x with
  | none=>
    cases ev2
    rw [List.append_nil] at hys
    subst hys
    refine L2.thn (T.done Y rfl rfl rfl hc i _ s' σ' H' (λ_ _=>False) I2 f2 st' hit) λr s1 ⟨hr,I3⟩=>?_
    subst hr
    have hD3:=I3.pin (D,{ cls:=.type "list",data:=.seq its.toArray nD0 }) (by simp)
    obtain⟨mC,hnC,_⟩:=id I3.loc
    refine hRR D C s1 mC hnC (λz=>?_) λh2 sb=>?_
    ·have:=I.lt
     rw [←z,hDe] at this
     exact absurd (Nat.lt_of_lt_of_le this hCle) (Nat.lt_irrefl _)
    ·have ch:∀b∈fp,(b∈X.ex\/X.s₀.heap.objs.size<=b)/\b≠X.env.locals/\(∀x c,X.env.cells.lookup x=some c->c≠b)/\∀p∈X.pn++pins,p.1≠b:=λb hb=>⟨(hf b hb).2.2.2.1,(hf b hb).2.1,(hf b hb).2.2.2.2.1,(hf b hb).2.2.2.2.2⟩
     have IX:L2.Inv X pins σ H' s1:=I.call' I3.os I3.base I3.hok I3.bare ch
     have fpn:∀(H'':L2.Hp) b,D<=b->H'' b=none->L2.o5 X pins H'' b:=λH'' b hb hn=>by
      rw [←hDe] at hb
      exact I.fpOk (H':=H'') hb hn
     have IX2:L2.Inv X pins σ H' { s1 with heap:=h2 }:=IX.turned (t':=s1.toks) (λb o hb q=>(sb.2 b hb).trans q) I3.free (fpn H' C hCle I3.free).2.1 (fpn H' C hCle I3.free).2.2.2.1 (fpn H' C hCle I3.free).2.2.2.2.1 (fpn H' C hCle I3.free).2.2.2.2.2
     have hlen:accv.length<=sizeLine:=by rw [←ra.length];exact V4 hy
     have IX3:L2.Inv X pins σ (L2.upd H' D (.lst accv)) { s1 with heap:=h2 }:=bk7 (fp:=fp) IX2 (fpn H' D (Nat.le_refl _) hDn) ⟨hlen,its,nD0,va,(sb.2 D hDC).trans hD3.1⟩
     have ex:Ext ρ' H' (ρ'++[D]) (L2.upd H' D (.lst accv)):=Ext.new hDn
     refine⟨ρ'++[D],L2.upd H' D (.lst accv),x1.trans ex,rl1.alloc hDn ⟨accv,L2.D4,ra.mono ex⟩ rfl,by rw [←rl1.len];simp,IX3,fpn _ C hCle ?_⟩
     rw [L2.D6 (Ne.symm hDC)];exact I3.free
  | some v=>
    refine L2.thn (T.item Y rfl rfl rfl hc i _ s' σ' H' (λ_ _=>False) I2 f2 st' hit.1) λr s1 ⟨u,hr,h4⟩=>?_
    subst hr
    refine L2.thn h4 λ_ s2 ⟨xv,H3,I3,ru,hyl,st3,fn3⟩=>?_
    obtain⟨x2,rl3,rv3⟩:=hit.2 xv H3 hyl
    have f3:=fpY [(D,{ cls:=.type "list",data:=.seq its.toArray nD0 })] H3 (λp hp b hb=>by
     have e:p=(D,{ cls:=.type "list",data:=.seq its.toArray nD0 }):=by simpa using hp
     subst e
     exact (hDfp b hb).symm) fn3
    have I4:=I3.pinned f3 (T.obj _ _ st3)
    obtain⟨σ4,B4,e4,ev3⟩:=B0 ev2
    obtain⟨b5,B5,e5,ev4⟩:=B0 ev3
    refine L2.thn (hg C s H fp _ s2 σ' H3 xv u (λσ5 H5=>∃ρ5,Ext ρ' H3 ρ5 H5/\Rel X.K cm ρ5 B4 H5/\RSt ρ5 H5 σ4 σ5) I4 ru ⟨ρ',B1,σp',v,σ4,B4,rl3,rs1.mono x2,rv3,e4,λρ5 H5 σ5 x5 rl5 rs5=>⟨ρ5,x5,rl5,rs5⟩⟩) λ_ s5 ⟨σ5,H5,I5,ρ5,x5,rl5,rs5⟩=>?_
    refine L2.thn (ht C s H fp _ s5 σ5 H5 (λb H6=>b=b5/\∃ρ6,Ext ρ5 H5 ρ6 H6/\Rel X.K cm ρ6 B5 H6) I5 ⟨ρ5,B4,σ4,b5,B5,rl5,rs5,e5,λρ6 H6 x6 rl6=>⟨rfl,ρ6,x6,rl6⟩⟩) λok s6 ⟨H6,I6,hok,ρ6,x6,rl6⟩=>?_
    subst hok
    have x16:Ext ρ' H' ρ6 H6:=(x2.trans x5).trans x6
    have unpin:∀{σ7:L2.St} {H7:L2.Hp} {s7:Shared},L2.Inv Y ([(D,{ cls:=.type "list",data:=.seq its.toArray nD0 })]++L2.ad5 fp s2.heap) σ7 H7 s7->(s7.heap.get? D=some { cls:=.type "list",data:=.seq its.toArray nD0 }/\H7 D=none)/\(∀b∈fp,H7 b=none)/\(∀b∈fp,∀o,s2.heap.get? b=some o->s7.heap.get? b=some o):=λ{σ7 H7 s7} I7=>by
     have p1:=I7.pin (D,{ cls:=.type "list",data:=.seq its.toArray nD0 }) (List.mem_append_right _ (List.mem_append_left _ (by simp)))
     refine⟨⟨p1.1,p1.2.1⟩,λb hb=>?_,λb hb o q=>?_⟩
     ·obtain⟨o,q,_⟩:=T.obj _ _ st3 b hb
      exact (I7.pin (b,o) (List.mem_append_right _ (List.mem_append_right _ (L2.X2 hb q)))).2.1
     ·exact (I7.pin (b,o) (List.mem_append_right _ (List.mem_append_right _ (L2.X2 hb q)))).1
    have bare0:∀{ps:List (Addr×Obj)} {σ7:L2.St} {H7:L2.Hp} {s7:Shared},L2.Inv Y ps σ7 H7 s7->L2.Inv Y [] σ7 H7 s7:=λI7=>I7.pins_of λp hp=>absurd hp (by simp)
    cases ok with
    | false=>
      rw [if_neg (by simp)]
      rw [if_neg (by simp)] at ev4
      cases m with
      | zero=>rw [ab1] at ev4;cases ev4
      | succ m=>
        obtain⟨⟨u1,u2⟩,u3,u4⟩:=unpin I6
        exact⟨m,Nat.lt_succ_self _,i+1,σ5,H6,ρ6,B5,σ4,rest,accp,accv,its,bare0 I6,T.keep _ _ _ st3 u4,u3,x1.trans x16,rl6,rs5.mono x6,ev4,⟨nD0,u1⟩,u2,va,ra.mono x16,hys⟩
    | true=>
      rw [if_pos rfl]
      rw [if_pos rfl] at ev4
      obtain⟨y,B7,e7,ev5⟩:=B0 ev4
      obtain⟨more,B8,e8,ev6⟩:=B0 ev5
      cases ev6
      refine L2.thn (he C s H fp _ s6 σ5 H6 (λyv H7=>∃ρ7,Ext ρ6 H6 ρ7 H7/\Rel X.K cm ρ7 B7 H7/\RV ρ7 H7 y yv) I6 ⟨ρ6,B5,σ4,y,B7,rl6,rs5.mono x6,e7,λρ7 H7 yv x7 rl7 rv7=>⟨ρ7,x7,rl7,rv7⟩⟩) λyu s7 ⟨yv,H7,I7,ry,ρ7,x7,rl7,rv7⟩=>?_
      obtain⟨⟨u1,u2⟩,u3,u4⟩:=unpin I7
      have hlen:its.length<=sizeLine:=by
       rw [←va.length,←ra.length]
       refine V4 (Nat.le_trans ?_ hy)
       rw [←hys,List.length_append];exact Nat.le_add_right _ _
      refine wpAny_list_append_plain (items:=its.toArray) ⟨nD0,u1⟩ (λh8 pl8 sb8=>?_) (by rw [List.size_toArray];exact hlen)
      have I8:L2.Inv Y [] σ5 H7 { s7 with heap:=h8 }:=(bare0 I7).turned (t':=s7.toks) (λb o hb q=>(sb8.2 b hb).trans q) u2 hDC (.inr (by show s.heap.objs.size<=D;rw [hDe];exact Nat.le_refl _)) (λx c q=>Nat.ne_of_lt (cellD x c (subc x c q))) (λp hp=>absurd (show p∈([]:List (Addr×Obj)) from hp) (by simp))
      cases m with
      | zero=>rw [ab1] at e8;cases e8
      | succ m=>
        have x17:=x16.trans x7
        refine⟨m,Nat.lt_succ_self _,i+1,σ5,H7,ρ7,B7,σ4,more,accp++[y],accv++[yv],its++[yu],I8,T.keep _ _ _ st3 λb hb o q=>(sb8.2 b (hDfp b hb)).trans (u4 b hb o q),u3,x1.trans x17,rl7,(rs5.mono x6).mono x7,e8,by simpa using pl8,u2,va.append (.cons ry .nil),(ra.mono x17).append (.cons rv7 .nil),by rw [←hys];simp⟩
 exact codeAny_compStart_list (loop _ rfl) (T.self X.A 0 _ _ _ st1 (loop _ rfl))
end
end Ws
namespace Ws
open PySem
section
variable {X:L2.Cx} {cm:Nat->Addr}
theorem Y3 {elt tg iter:Expr} {ifs:List Expr} {scope:Scope} {pos:Pos} {cl:List (Str×Addr)} {N:List Str} (js:List (Option Nat)) {it:ID} {g:GD} {t:TD} {e:ED} (hc:X.calm=true) (S:aR8 X scope cl) (Fr:FreeOk X scope cl N js) (hi:L2.PI X tg iter (EvI X.K cm it))
 (hg:∀C s0 H0 fp,L2.PG (blk X N scope cl C s0 H0 fp) tg (EvG X.K cm g)) (ht:∀C s0 H0 fp,PTs (blk X N scope cl C s0 H0 fp) ifs (EvT X.K cm t)) (he:∀C s0 H0 fp,L2.PE (blk X N scope cl C s0 H0 fp) elt (EvE X.K cm e))
 (hs:∀x,foldedSetIterable iter X.env x=pure x:=by intro _;rfl):L2.PE X (.ListComp elt [⟨tg,iter,ifs,0⟩] scope pos) (EvE X.K cm (Q1 it (Ws.bst js) g t e)):=by
 intro pins s σ H Q I ⟨ρ,A,σp,v,A',rl,rs,ev,k⟩
 obtain⟨J,A1,e1,ev1⟩:=B0 ev
 obtain⟨n,A2,e2,ev2⟩:=B0 ev1
 obtain rfl:=z6 e2
 obtain⟨ys,A3,e3,ev3⟩:=B0 ev2
 obtain⟨c,ev4⟩:=C5 ev3
 cases ev4
 rw [eval_ListComp]
 refine wpAny_comprehension_free (use:=none) rfl hs S.clos S.kind S.names (wpAny_mono (hi pins s σ H (λj H1=>∃ρ1,Ext ρ H ρ1 H1/\Rel X.K cm ρ1 A2 H1/\RIt X.K ρ1 H1 J j) I ⟨ρ,A,σp,J,A2,rl,rs,e1,λρ1 H1 j x1 rl1 rj=>⟨ρ1,x1,rl1,rj⟩⟩) (λxv s1 h1=>wpAny_mono h1 (λitv s2 h2=>?_) λ_ _ z=>z) λ_ _ z=>z)
 obtain⟨itA,fp,tn,j,H1,rfl,I1,T,st,hf,ρ1,x1,rl1,rj⟩:=h2
 refine am1 (RR:=λacc C=>compPost (model X.prog X.w) X.A X.xe none (L2.EP X pins σ Q) acc C) hc S Fr hg ht he I1 T st hf rj rl1 (rs.mono x1) e3 c λD C s' m hn hCL hfin=>⟨m,hn,λh'' sb=>?_⟩
 obtain⟨ρ2,H2,x2,rl2,hD,I2,_⟩:=hfin h'' sb
 exact⟨.ref D,H2,I2,rfl,k ρ2 H2 _ (x1.trans x2) rl2 (.ref hD)⟩
theorem aS0 {elt tg iter:Expr} {ifs:List Expr} {scope:Scope} {pos spos py:Pos} {y:Str} {i:Nat} {cl:List (Str×Addr)} {N:List Str} (js:List (Option Nat)) {it:ID} {g:GD} {t:TD} {e:ED} (hc:X.calm=true) (S:aR8 X scope cl) (Fr:FreeOk X scope cl N js) (hi:L2.PI X tg iter (EvI X.K cm it))
 (hg:∀C s0 H0 fp,L2.PG (blk X N scope cl C s0 H0 fp) tg (EvG X.K cm g)) (ht:∀C s0 H0 fp,PTs (blk X N scope cl C s0 H0 fp) ifs (EvT X.K cm t)) (he:∀C s0 H0 fp,L2.PE (blk X N scope cl C s0 H0 fp) elt (EvE X.K cm e))
 (hN:X.N.Nodup) (hiy:X.N[i]?=some y) (hy:L2.Loc X.env.scope y)
 (hsw:swapsWith (.ListComp elt [⟨tg,iter,ifs,0⟩] scope pos) (some (.Name y py)) spos.line X.env=pure true:=by rfl)
 (hfn:X.fn y=true\/X.env.scope.names.lookup y=some .local:=by first | exact .inl rfl | exact .inr rfl)
 (hs:∀x,foldedSetIterable iter X.env x=pure x:=by intro _;rfl):L2.PS X (.Assign [.Name y py] (.ListComp elt [⟨tg,iter,ifs,0⟩] scope pos) spos) (EvS X.K cm (J7 (Q1 it (Ws.bst js) g t e) (gName i))):=by
 intro pins s σ H Dn I ⟨ρ,A,σp,fl,A',rl,rs,ev,k⟩
 obtain⟨v,A0,e0,ev0⟩:=B0 ev
 obtain⟨σ1,A9,e9,ev9⟩:=B0 ev0
 cases e9
 cases ev9
 obtain⟨J,A1,e1,ev1⟩:=B0 e0
 obtain⟨n,A2,e2,ev2⟩:=B0 ev1
 obtain rfl:=z6 e2
 obtain⟨ys,A3,e3,ev3⟩:=B0 ev2
 obtain⟨c,ev4⟩:=C5 ev3
 cases ev4
 rw [exec_Assign_Name_used _ _ _ _ hsw]
 refine wpAny_bind (wpAny_standAt (wpAny_bind ?_))
 show wpAny _ X.A (do let _ ←comprehension (.ListComp elt [⟨tg,iter,ifs,0⟩] scope pos) scope X.env _ (newList []) false (eval iter X.env) (some (assign (.Name y py) X.env))) _ _ s
 refine wpAny_bind (wpAny_mono (wpAny_comprehension_free (use:=some (assign (.Name y py) X.env)) (Q:=λ_ s'=>L2.SP X pins Dn .next s') rfl hs S.clos S.kind S.names (wpAny_mono (hi pins s σ H (λj H1=>∃ρ1,Ext ρ H ρ1 H1/\Rel X.K cm ρ1 A2 H1/\RIt X.K ρ1 H1 J j) I ⟨ρ,A,σp,J,A2,rl,rs,e1,λρ1 H1 j x1 rl1 rj=>⟨ρ1,x1,rl1,rj⟩⟩) (λxv s1 h1=>wpAny_mono h1 (λitv s2 h2=>?_) λ_ _ z=>z) λ_ _ z=>z)) (λ_ s' hq=>wpAny_pure (wpAny_pure hq)) λ_ _ z=>z)
 obtain⟨itA,fp,tn,j,H1,rfl,I1,T,st,hf,ρ1,x1,rl1,rj⟩:=h2
 refine am1 (RR:=λacc C=>compPost (model X.prog X.w) X.A X.xe (some (assign (.Name y py) X.env)) (λ_ s'=>L2.SP X pins Dn .next s') acc C) hc S Fr hg ht he I1 T st hf rj rl1 (rs.mono x1) e3 c λD C s' m hn hCL hfin=>?_
 show wpAny _ X.A (assign (.Name y py) X.env (.ref D)) _ _ _
 obtain⟨ρ2,H2,x2,rl2,hD,I2,fC⟩:=hfin s'.heap (.refl ..)
 obtain⟨oC,es,ep,hoC,hdC,rC⟩:=id hn
 have I3:L2.Inv X (pins++[(C,oC)]) σ H2 s':=L2.Inv.pins_of (I:=I2) λp hp=>by
  rcases List.mem_append.mp hp with hp | hp
  ·exact I2.pin p (List.mem_append_right _ hp)
  ·have e:p=(C,oC):=by simpa using hp
   subst e
   exact⟨hoC,fC.1,fC.2.1,fC.2.2.1,λv z=>by rw [hdC] at z;cases z⟩
 refine wpAny_assign_Name (L2.ad3 I3 hN hiy hy (show L2.RelV (.ref D) (.ref D) from rfl) (λs3 I4=>?_) hfn)
 have pC:=I4.pin (C,oC) (by simp)
 refine⟨m,⟨oC,es,ep,pC.1,hdC,rC⟩,λh4 sb=>?_⟩
 have I5:L2.Inv X pins (σ.set i (some (.ref D))) H2 s3:=I4.pins_of λp hp=>I4.pin p (List.mem_append_right _ (List.mem_append_left _ hp))
 have I6:L2.Inv X pins (σ.set i (some (.ref D))) H2 { s3 with heap:=h4 }:=I5.turned (t':=s3.toks) (λb o hb q=>(sb.2 b hb).trans q) fC.1 fC.2.1 fC.2.2.2.1 fC.2.2.2.2.1 fC.2.2.2.2.2
 exact⟨σ.set i (some (.ref D)),H2,I6,k ρ2 H2 (x1.trans x2) rl2 _ (((rs.mono x1).mono x2).set i (.ref hD))⟩
end
theorem J9 {α:Type} {P:α->Prop}:∀x∈([]:List α),P x:=λ_ h=>nomatch h
theorem C9 {α:Type} {P:α->Prop} {a:α} {l:List α} (h:P a) (r:∀x∈l,P x):∀x∈a::l,P x:=λx hx=>(List.mem_cons.mp hx).elim (λe=>e ▸ h) (r x)
end Ws
namespace Ws
open PySem PySem.W PyProof.Rows
noncomputable def wpk {α:Type} (n:Nat) (lt:Nat->Nat->Bool):KasT α->(α->Prop)->Prop
 | .ret a,Q=>Q a
 | .ask i j k,Q=>i<n/\j<n/\wpk n lt (k (lt i j)) Q
theorem V8 {α β:Type} {n:Nat} {lt:Nat->Nat->Bool} {f:α->KasT β} {Q:β->Prop}:∀{t:KasT α},wpk n lt t (λa=>wpk n lt (f a) Q)->wpk n lt (t.bind f) Q
 | .ret _,h=>h
 | .ask _ _ k,⟨h1,h2,h3⟩=>⟨h1,h2,V8 (t:=k _) h3⟩
theorem aG3 {α:Type} {n:Nat} {lt:Nat->Nat->Bool} {cmp:Nat->Nat->(Bool->Shared->Prop)->Shared->Prop} {G:α->Shared->Prop} {s:Shared} (hc:∀i j C,i<n->j<n->C (lt i j) s->cmp i j C s):∀{t:KasT α} {Q:α->Prop},wpk n lt t Q->(∀a,Q a->G a s)->t.kasWp cmp G s
 | .ret a,Q,h,hq=>hq a h
 | .ask i j k,Q,⟨h1,h2,h3⟩,hq=>hc i j _ h1 h2 (aG3 hc (t:=k _) h3 hq)
section
variable {n:Nat} {α:Type} {key:Nat->α} {lt:Nat->Nat->Bool}
structure Ord (key:Nat->α) (lt:Nat->Nat->Bool):Prop where
 asym:∀a b,lt a b=true->lt b a=false
 tr:∀a b c,lt b a=false->lt c b=false->lt c a=false
 tot:∀a b,lt a b=false->lt b a=false->key a=key b
 cong:∀a b c d,key a=key b->key c=key d->lt a c=lt b d
structure Pm (n:Nat) (p:Array Nat):Prop where
 size:p.size=n
 perm:p.Perm (List.toArray (List.range n))
theorem Pm.bd {p:Array Nat} (h:Pm n p) (hn:0<n) (i:Nat):p.getD i 0<n:=by
 by_cases hi:i<p.size
 ·have e:p.getD i 0=p[i]:=by simp [Array.getD,hi]
  rw [e]
  have hm:p[i]∈p.toList:=by simp
  have:=(Array.perm_iff_toList_perm.mp h.perm).mem_iff.mp hm
  simpa using this
 ·have e:p.getD i 0=0:=by simp [Array.getD,hi]
  rw [e];exact hn
theorem u5 {p q:Array Nat} {i j:Nat} (h:p[i]?=q[j]?):p.getD i 0=q.getD j 0:=by
 rw [Array.getD_eq_getD_getElem?,Array.getD_eq_getD_getElem?,h]
theorem Pm.rev {p:Array Nat} (h:Pm n p) (i j:Nat):Pm n (kas_rev p i j):=⟨by unfold kas_rev;rw [mirror_size];exact h.size,(mirror_perm _ _ _ _).trans h.perm⟩
theorem aC0 {p:Array Nat} {i j:Nat} (hj:j<=p.size) (k:Nat):(kas_rev p i j).getD k 0=if i<=k/\k<j then p.getD (i+j - 1 - k) 0 else p.getD k 0:=by
 have e:=getElem?_mirror_all (xs:=p) (i:=i) hj k
 unfold kas_rev
 by_cases h:i<=k/\k<j
 ·rw [if_pos h] at e ⊢;exact u5 e
 ·rw [if_neg h] at e ⊢;exact u5 e
theorem Pm.bub {p:Array Nat} (h:Pm n p) (i d:Nat):Pm n (bubble p i d):=⟨by rw [bubble_size];exact h.size,(bubble_perm _ _ _).trans h.perm⟩
theorem aS1 {p:Array Nat} {src d:Nat} (hs:src<p.size) (hd:d<=src) (k:Nat):(bubble p src d).getD k 0=if k=src - d then p.getD src 0 else if src - d<k/\k<=src then p.getD (k - 1) 0 else p.getD k 0:=by
 have e:=getElem?_bubble hs d hd k
 by_cases h1:k=src - d
 ·rw [if_pos h1] at e ⊢;exact u5 e
 ·rw [if_neg h1] at e ⊢
  by_cases h2:src - d<k/\k<=src
  ·rw [if_pos h2] at e ⊢;exact u5 e
  ·rw [if_neg h2] at e ⊢;exact u5 e
noncomputable def Inc (lt:Nat->Nat->Bool) (p:Array Nat) (m:Nat):Prop:=∀i j,i<=j->j<m->lt (p.getD j 0) (p.getD i 0)=false
noncomputable def Dec (lt:Nat->Nat->Bool) (p:Array Nat) (m:Nat):Prop:=∀i j,i<=j->j<m->lt (p.getD i 0) (p.getD j 0)=false
variable (O:Ord key lt) (hn:0<n)
include O hn
theorem Ord.irr (a:Nat):lt a a=false:=by
 cases h:lt a a with
 | false=>rfl
 | true=>have:=O.asym a a h;rw [h] at this;exact this
theorem aS2 {p:Array Nat} {m:Nat} (h:Inc lt p m) (h1:m=0\/lt (p.getD m 0) (p.getD (m - 1) 0)=false):Inc lt p (m+1):=λi j hij hj=>by
 by_cases e:j=m
 ·subst e
  by_cases e2:i=j
  ·subst e2;exact O.irr hn _
  ·rcases h1 with h1 | h1
   ·omega
   ·exact O.tr _ _ _ (h i (j - 1) (by omega) (by omega)) h1
 ·exact h i j hij (by omega)
theorem g8 {p:Array Nat} {m:Nat} (h:Dec lt p m) (h1:m=0\/lt (p.getD (m - 1) 0) (p.getD m 0)=false):Dec lt p (m+1):=λi j hij hj=>by
 by_cases e:j=m
 ·subst e
  by_cases e2:i=j
  ·subst e2;exact O.irr hn _
  ·rcases h1 with h1 | h1
   ·omega
   ·exact O.tr _ _ _ h1 (h i (j - 1) (by omega) (by omega))
 ·exact h i j hij (by omega)
theorem aS3 {p:Array Nat} (hp:Pm n p) {Q:Nat->Prop}:∀f m,1<=m->Inc lt p m->(∀m',m<=m'->m'<=m+f->Inc lt p m'->(m'<m+f->lt (p.getD m' 0) (p.getD (m' - 1) 0)=true)->Q m')->wpk n lt (kas_asc p f m) Q
 | 0,m,_,hi,h=>h m (Nat.le_refl _) (Nat.le_refl _) hi λz=>by omega
 | f+1,m,h1,hi,h=>by
   refine⟨hp.bd hn m,hp.bd hn (m - 1),?_⟩
   cases hc:lt (p.getD m 0) (p.getD (m - 1) 0) with
   | true=>exact h m (Nat.le_refl _) (by omega) hi λ_=>hc
   | false=>
     simp only [Bool.false_eq_true,if_false]
     exact aS3 hp f (m+1) (by omega) (aS2 O hn hi (.inr hc)) λm' a b c d=>h m' (by omega) (by omega) c λz=>d (by omega)
theorem af8 {p:Array Nat} {i j:Nat} (hj:j<=p.size) (he:∀k,i<=k->k<j->key (p.getD k 0)=key (p.getD (j - 1) 0)) (k:Nat):key ((kas_rev p i j).getD k 0)=key (p.getD k 0):=by
 rw [aC0 hj]
 by_cases h:i<=k/\k<j
 ·rw [if_pos h,he (i+j - 1 - k) (by omega) (by omega),he k h.1 h.2]
 ·rw [if_neg h]
theorem af9 {p q:Array Nat} {m:Nat} (h:∀k,key (p.getD k 0)=key (q.getD k 0)) (hd:Dec lt q m):Dec lt p m:=λi j hij hj=>by rw [O.cong _ _ _ _ (h i) (h j)];exact hd i j hij hj
noncomputable def Eqs (key:Nat->α) (p:Array Nat) (m q:Nat):Prop:=q+1<=m/\∀k,m - (q+1)<=k->k<m->key (p.getD k 0)=key (p.getD (m - 1) 0)
omit O hn in
theorem bd8 {p:Array Nat} {m:Nat} (h:1<=m):Eqs key p m 0:=⟨h,λk h1 h2=>by rw [show k=m - 1 by omega]⟩
theorem ar6 {Q:Array Nat×Nat×Nat->Prop}:∀f (p:Array Nat) m q,Pm n p->m+f<=n->Dec lt p m->Eqs key p m q->(∀p' m' q',Pm n p'->m<=m'->m'<=m+f->Dec lt p' m'->Eqs key p' m' q'->Q (p',m',q'))->wpk n lt (kas_desc f p m q) Q
 | 0,p,m,q,hp,hmf,hd,he,h=>h p m q hp (Nat.le_refl _) (Nat.le_refl _) hd he
 | f+1,p,m,q,hp,hmf,hd,he,h=>by
   refine⟨hp.bd hn m,hp.bd hn (m - 1),?_⟩
   have h1:=he.1
   cases hc:lt (p.getD m 0) (p.getD (m - 1) 0) with
   | true=>
     simp only [if_true]
     by_cases hq:q > 0
     ·rw [if_pos hq]
      have hs:=af8 O hn (p:=p) (i:=m - (q+1)) (j:=m) (by rw [hp.size];omega) he.2
      refine ar6 f _ (m+1) 0 (hp.rev _ _) (by omega) ?_ (bd8 (by omega)) λp' m' q' a b c d e=>h p' m' q' a (by omega) (by omega) d e
      exact af9 O hn hs (g8 O hn hd (.inr (O.asym _ _ hc)))
     ·rw [if_neg hq]
      exact ar6 f p (m+1) 0 hp (by omega) (g8 O hn hd (.inr (O.asym _ _ hc))) (bd8 (by omega)) λp' m' q' a b c d e=>h p' m' q' a (by omega) (by omega) d e
   | false=>
     simp only [Bool.false_eq_true,if_false]
     refine⟨hp.bd hn (m - 1),hp.bd hn m,?_⟩
     cases hc2:lt (p.getD (m - 1) 0) (p.getD m 0) with
     | true=>exact h p m q hp (Nat.le_refl _) (by omega) hd he
     | false=>
       simp only [Bool.false_eq_true,if_false]
       refine ar6 f p (m+1) (q+1) hp (by omega) (g8 O hn hd (.inr hc2)) ⟨by omega,λk k1 k2=>?_⟩ λp' m' q' a b c d e=>h p' m' q' a (by omega) (by omega) d e
       rw [Nat.add_sub_cancel]
       by_cases e:k=m
       ·rw [e]
       ·rw [he.2 k (by omega) (by omega)];exact O.tot _ _ hc2 hc
theorem aS4 {p:Array Nat} {m:Nat} (hp:Pm n p) (h1:1<=m) (hmn:m<=n) (hd:Dec lt p m) {Q:Nat×Array Nat->Prop} (h:∀m' p',Pm n p'->1<=m'->m'<=n->Inc lt p' m'->Q (m',p')):wpk n lt (kas_tail3 m n p) Q:=by
 refine V8 ?_
 have hi:Inc lt (kas_rev p 0 m) m:=λi j hij hj=>by
  rw [aC0 (by rw [hp.size];exact hmn),aC0 (by rw [hp.size];exact hmn),if_pos ⟨by omega,hj⟩,if_pos ⟨by omega,by omega⟩]
  exact hd _ _ (by omega) (by omega)
 exact aS3 O hn (hp.rev 0 m) (n - m) m h1 hi λm' a b c _=>h m' _ (hp.rev 0 m) (by omega) (by omega) c
theorem ag0 {p:Array Nat} {m:Nat} (hp:Pm n p) (h1:1<=m) (hmn:m<n) (hd:Dec lt p (m+1)) {Q:Nat×Array Nat->Prop} (h:∀m' p',Pm n p'->1<=m'->m'<=n->Inc lt p' m'->Q (m',p')):wpk n lt (kas_descPart m n p) Q:=by
 refine V8 (ar6 O hn (n - (m+1)) p (m+1) 0 hp (by omega) hd (bd8 (by omega)) λp' m' q' a b c d e=>?_)
 have e1:=e.1
 dsimp only
 by_cases hq:q' > 0
 ·rw [if_pos hq]
  have hs:=af8 O hn (p:=p') (i:=m' - (q'+1)) (j:=m') (by rw [a.size];omega) e.2
  exact aS4 O hn (a.rev _ _) (by omega) (by omega) (af9 O hn hs d) h
 ·rw [if_neg hq]
  exact aS4 O hn a (by omega) (by omega) d h
theorem a05 {p:Array Nat} (hp:Pm n p) (h2:2<=n) {Q:Nat×Array Nat->Prop} (h:∀m' p',Pm n p'->1<=m'->m'<=n->Inc lt p' m'->Q (m',p')):wpk n lt (kas_count n p) Q:=by
 refine V8 (aS3 O hn hp (n - 1) 1 (Nat.le_refl _) (λi j hij hj=>by rw [show i=j by omega];exact O.irr hn _) λm a b c d=>?_)
 by_cases hm:(m == n)=true
 ·rw [if_pos hm];exact h m p hp a (by omega) c
 ·rw [if_neg hm]
  have hmn:m<n:=by have:m≠n:=λz=>hm (by simp [z]);omega
  have hstop:=d (by omega)
  by_cases h1:m > 1
  ·rw [if_pos h1]
   refine⟨hp.bd hn 0,hp.bd hn (m - 1),?_⟩
   cases hc:lt (p.getD 0 0) (p.getD (m - 1) 0) with
   | true=>exact h m p hp a (by omega) c
   | false=>
     simp only [Bool.false_eq_true,if_false]
     have eq1:∀k,0<=k->k<m->key (p.getD k 0)=key (p.getD (m - 1) 0):=λk _ hk=>by
      refine O.tot _ _ ?_ (c k (m - 1) (by omega) (by omega))
      exact O.tr _ _ _ hc (c 0 k (by omega) hk)
     have hs:=af8 O hn (p:=p) (i:=0) (j:=m) (by rw [hp.size];omega) eq1
     refine ag0 O hn (hp.rev 0 m) a hmn (af9 O hn hs (g8 O hn (λi j hij hj=>?_) (.inr (O.asym _ _ hstop)))) h
     rw [O.cong _ _ _ _ (eq1 i (by omega) (by omega)) (eq1 j (by omega) hj)];exact O.irr hn _
  ·rw [if_neg h1]
   have:m=1:=by omega
   subst this
   refine ag0 O hn hp a hmn (g8 O hn (λi j hij hj=>by rw [show i=j by omega];exact O.irr hn _) (.inr (O.asym _ _ hstop))) h
theorem ar7 {p:Array Nat} (hp:Pm n p) {k:Nat} (hi:Inc lt p k) {Q:Nat->Prop}:∀f l r,l<=r->r<=k->r - l<=f->(∀i,i<l->lt (p.getD k 0) (p.getD i 0)=false)->(∀i,r<=i->i<k->lt (p.getD k 0) (p.getD i 0)=true)->
 (∀l',l'<=k->(∀i,i<l'->lt (p.getD k 0) (p.getD i 0)=false)->(∀i,l'<=i->i<k->lt (p.getD k 0) (p.getD i 0)=true)->Q l')->wpk n lt (kas_place p k f l r) Q
 | 0,l,r,hlr,hrk,hf,h1,h2,h=>h l (by omega) h1 λi a b=>h2 i (by omega) b
 | f+1,l,r,hlr,hrk,hf,h1,h2,h=>by
   unfold kas_place
   by_cases hc:l≥r
   ·rw [if_pos hc];exact h l (by omega) h1 λi a b=>h2 i (by omega) b
   ·rw [if_neg hc]
    refine⟨hp.bd hn k,hp.bd hn _,?_⟩
    cases hm:lt (p.getD k 0) (p.getD ((l+r) / 2) 0) with
    | true=>
      simp only [if_true]
      refine ar7 hp hi f l ((l+r) / 2) (by omega) (by omega) (by omega) h1 (λi a b=>?_) h
      cases e:lt (p.getD k 0) (p.getD i 0) with
      | true=>rfl
      | false=>
        have:=O.tr _ _ _ (hi ((l+r) / 2) i a b) e
        rw [hm] at this;exact this.symm
    | false=>
      simp only [Bool.false_eq_true,if_false]
      refine ar7 hp hi f ((l+r) / 2+1) r (by omega) hrk (by omega) (λi a=>?_) h2 h
      exact O.tr _ _ _ (hi i ((l+r) / 2) (by omega) (by omega)) hm
theorem a67 {Q:Array Nat->Prop}:∀f (p:Array Nat) k,Pm n p->k+f=n->Inc lt p k->(∀p',Pm n p'->Inc lt p' n->Q p')->wpk n lt (kas_bin f p k) Q
 | 0,p,k,hp,hk,hi,h=>h p hp (by rw [←hk];exact hi)
 | f+1,p,k,hp,hk,hi,h=>by
   refine V8 (ar7 O hn hp hi k 0 k (by omega) (by omega) (by omega) (λi a=>by omega) (λi a b=>by omega) λl hl h1 h2=>?_)
   refine a67 f _ (k+1) (hp.bub _ _) (by omega) (λi j hij hj=>?_) h
   have hsz:k<p.size:=by rw [hp.size];omega
   have hkl:k - (k - l)=l:=by omega
   rw [aS1 hsz (by omega),aS1 hsz (by omega),hkl]
   by_cases hj1:j=l
   ·rw [if_pos hj1]
    by_cases hi1:i=l
    ·rw [if_pos hi1];exact O.irr hn _
    ·rw [if_neg hi1,if_neg (by omega)];exact h1 i (by omega)
   ·rw [if_neg hj1]
    by_cases hj2:l<j/\j<=k
    ·rw [if_pos hj2]
     by_cases hi1:i=l
     ·rw [if_pos hi1];exact O.asym _ _ (h2 (j - 1) (by omega) (by omega))
     ·rw [if_neg hi1]
      by_cases hi2:l<i/\i<=k
      ·rw [if_pos hi2];exact hi (i - 1) (j - 1) (by omega) (by omega)
      ·rw [if_neg hi2];exact hi i (j - 1) (by omega) (by omega)
    ·rw [if_neg hj2]
     have hjl:j<l:=by omega
     rw [if_neg (by omega),if_neg (by omega)]
     exact hi i j hij (by omega)
theorem bd9 (h2:2<=n) {Q:Array Nat->Prop} (h:∀p',Pm n p'->Inc lt p' n->Q p'):wpk n lt (kas_sort n) Q:=by
 refine V8 (a05 O hn (p:=List.toArray (List.range n)) ⟨by simp,.refl _⟩ h2 λm p a b c d=>?_)
 dsimp only
 by_cases hm:m<n
 ·rw [if_pos hm,Nat.max_eq_left b]
  exact a67 O hn (n - m) p m a (by omega) d h
 ·rw [if_neg hm]
  have:m=n:=by omega
  subst this
  exact h p a d
end
end Ws
namespace Ws
open PySem PySem.W PyProof.Rows
noncomputable def aj5 (fin:Bool):List Int->List Int->Bool
 | x::xs,y::ys=>if x=y then aj5 fin xs ys else decide (x<y)
 | _,_=>fin
theorem aG4:∀xs ys:List Int,aj5 (decide (xs.length<ys.length)) xs ys=E4 xs ys
 | [],[]=>rfl
 | [],_::_=>by simp [aj5,E4]
 | _::_,[]=>by simp [aj5,E4]
 | x::xs,y::ys=>by
   simp only [aj5,E4,List.length_cons,Nat.add_lt_add_iff_right]
   rw [aG4 xs ys]
section
variable {prog:Program} {w:World} {A:Around} {E:Value->Shared->Prop} {s:Shared}
theorem ab6 {fin:Bool} {Q:Bool->Shared->Prop}:∀{vs us:List Value} {ns ms:List Int} (i:Nat),IntsAre vs ns->IntsAre us ms->Q (aj5 fin ns ms) s->KatLex prog w A true fin Q (vs.zip us) i s
 | _,_,_,_,i,.nil,_,h=>by simpa [aj5] using kat_nil h
 | _,_,_,_,i,.cons _ _ _,.nil,h=>by simpa [aj5] using kat_nil h
 | _,_,_,_,i,.cons a t hv,.cons c u hw,h=>by
   rw [List.zip_cons_cons]
   refine kat_cons (wpAny_eqBool_int ?_)
   by_cases e:a=c
   ·subst e
    simp only [aj5,if_true] at h
    rw [beq_self_eq_true]
    exact kat_yes (ab6 (i+1) hv hw h)
   ·rw [beq_eq_false_iff_ne.mpr e]
    simp only [aj5,e,if_false] at h
    refine kat_no ?_
    cases hb:(true&&i == 0) with
    | true=>exact oneLt_int h
    | false=>exact kat_one _ _ (lt_int h)
noncomputable def u6 (h:Heap) (v:Value) (t:List Int):Prop:=∃a o its n,v=.ref a/\h.get? a=some o/\o.cls=.type "tuple"/\o.data=.seq its n/\IntsAre its.toList t/\t≠[]
theorem ag1 {h:Heap}:∀{vs:List Value} {ts:List (List Int)} {i:Nat},Paired (u6 h) vs ts->i<vs.length->u6 h (vs.getD i .none) (ts.getD i [])
 | _,_,_,.nil,hi=>by simp at hi
 | _,_,0,.cons r _,_=>r
 | _,_,i+1,.cons _ t,hi=>by
   have:=ag1 (i:=i) t (by simpa using hi)
   simpa using this
theorem aw3 {h:Heap}:∀{vs:List Value} {ts:List (List Int)},Paired (u6 h) vs ts->∃fs,KatTups h vs fs/\fs.length=vs.length/\∀f∈fs,∃i t,f=Value.int i t
 | _,_,.nil=>⟨[],KatTups.nil,rfl,by simp⟩
 | _,_,.cons r t=>by
   obtain⟨a,o,its,n,rfl,ho,hc,hd,hi,hne⟩:=r
   obtain⟨fs,k,hl,hf⟩:=aw3 t
   cases hh:its.toList with
   | nil=>rw [hh] at hi;cases hi;exact absurd rfl hne
   | cons v r=>
     rw [hh] at hi
     cases hi with
     | cons i tk hr=>
       refine⟨.int i tk::fs,KatTups.cons ho hc hd (by rw [←Array.getElem?_toList,hh];rfl) k,by simp [hl],λf hm=>?_⟩
       rcases List.mem_cons.mp hm with rfl | hm
       ·exact⟨_,_,rfl⟩
       ·exact hf f hm
theorem a06 (ts:List (List Int)):Ord (λi=>ts.getD i []) (λi j=>E4 (ts.getD i []) (ts.getD j [])):=
 ⟨λ_ _ h=>ae7 _ _ h,λ_ _ _ h h'=>aB0 _ _ _ h h',λ_ _ h h'=>aq8 _ _ h h',λ_ _ _ _ h h'=>congr (congrArg E4 h) h'⟩
noncomputable def U3 (ts:List (List Int)) (n:Nat) (p:List Nat):Prop:=p.Perm (List.range n)/\(p.map λi=>ts.getD i []).Pairwise (λx y=>E4 y x=false)
theorem ag2 {a:Addr} {vs:List Value} {ts:List (List Int)} {n:Nat} {P:PySem.Fin->Shared->Prop} (ho:s.heap.get? a=some (seqObj "list" vs.toArray n)) (ht:Paired (u6 s.heap) vs ts) (h64:vs.length<64)
 (h:∀p,U3 ts vs.length p->P (.done (.ret .none)) { s with heap:=sortedHeap s.heap a vs (List.toArray (p.map λi=>vs.getD i Value.none)) }) :
 wpAny (model prog w) A (Builtin.«list.sort» ⟨[.ref a],[]⟩) P E s:=by
 rw [list_sort_plain]
 have ha:a<s.heap.objs.size:=Heap.lt_size ho
 refine wpAny_bind (listItems_at ho rfl ?_)
 refine wpAny_bind (listUpdate_at ho rfl ?_)
 obtain⟨e1,ho1⟩:∃e1,(s.heap.update a (Obj.mapSeq λ_=>#[])).get? a=some (seqObj "list" #[] e1):=⟨_,get?_update_seq ho (λ_=>#[])⟩
 refine wpAny_bind (seqEpoch_at ho1 rfl ?_)
 refine wpAny_bind (wpAny_newTuple ?_)
 refine wpAny_bind (wpAny_newList ?_)
 refine wpAny_holding ?_
 have ho6:(((s.heap.update a (Obj.mapSeq λ_=>#[])).push (seqObj "tuple" vs.toArray 0)).push (seqObj "list" #[] 0)).get? a=some (seqObj "list" #[] e1):=by
  rw [Heap.get?_push_ne _ _ _ (by rw [size_push',Heap.size_update];exact Nat.ne_of_lt (Nat.lt_succ_of_lt ha)),Heap.get?_push_ne _ _ _ (by rw [Heap.size_update];exact Nat.ne_of_lt ha)]
  exact ho1
 show wpAny (model prog w) A _ P E { s with heap:=((s.heap.update a (Obj.mapSeq λ_=>#[])).push (seqObj "tuple" vs.toArray 0)).push (seqObj "list" #[] 0) }
 dsimp only
 have hsz:vs.toArray.size=vs.length:=by simp
 have tst:∀v t,u6 s.heap v t->u6 (((s.heap.update a (Obj.mapSeq λ_=>#[])).push (seqObj "tuple" vs.toArray 0)).push (seqObj "list" #[] 0)) v t:=λv t ⟨b,o,its,k,e,q,c,d,r⟩=>by
  have hb:b≠a:=by
   rintro rfl
   rw [ho] at q;cases q
   exact absurd (Value.type.inj (show Value.type "list" = Value.type "tuple" from c)) (by decide)
  exact⟨b,o,its,k,e,Heap.get?_push_of_some _ (Heap.get?_push_of_some _ (by rw [Heap.get?_update_ne _ _ _ _ hb];exact q)),c,d,r⟩
 have ht6:Paired (u6 (((s.heap.update a (Obj.mapSeq λ_=>#[])).push (seqObj "tuple" vs.toArray 0)).push (seqObj "list" #[] 0))) vs ts:=L2.Paired.mapP ht tst
 by_cases h2:vs.toArray.size<2
 ·rw [if_pos h2,if_pos h2]
  refine wpAny_bind (wpAny_pure ?_)
  rw [StateT.run_pure]
  refine wpAny_bind (wpAny_pure ?_)
  dsimp only
  refine wpAny_bind (seqEpoch_at ho6 rfl ?_)
  refine wpAny_bind (listUpdate_at ho6 rfl ?_ (hsz2:=by rw [Array.size_map];show (pairsOf vs).size<=_;rw [pairsOf_size,sizeLine_eq];omega))
  simp only [bne_self_eq_false,Bool.false_eq_true,if_false]
  have hp:U3 ts vs.length (List.range vs.length):=by
   refine⟨.refl _,?_⟩
   rw [hsz] at h2
   match hl:vs.length,h2 with
   | 0,_=>simp
   | 1,_=>simp [List.range_succ]
  have hout:(arrOf (SortSt.mk' general' (vs.toArray.zip vs.toArray) #[] 7 none)).map (·.2)=List.toArray ((List.range vs.length).map λi=>vs.getD i Value.none):=by
   apply Array.toList_inj.mp
   show ((vs.toArray.zip vs.toArray).map (·.2)).toList=_
   apply List.ext_getElem
   ·simp
   ·intro i h1 h2
    have hi:i<vs.length:=by simpa using h1
    simp [hi]
  have:=h _ hp
  rw [←hout] at this
  exact wpAny_pure this
 ·rw [if_neg h2,if_neg h2]
  have hl2:2<=vs.length:=by omega
  obtain⟨fs,hk,hfl,hfi⟩:=aw3 ht6
  refine wpAny_bind (kat_kind (T:=.type "int") hk (by omega) (λv hv=>by
   obtain⟨i,t,rfl⟩:=hfi v hv
   exact Looks.of_pure rfl) (by rfl) ?_)
  have ev:(kas_sort vs.length).kasWp (kas_ask prog w A (tuples' (Value.type "int" != Value.type "tuple")) vs) (λp s'=>U3 ts vs.length p.toList/\s'={ s with heap:=((s.heap.update a (Obj.mapSeq λ_=>#[])).push (seqObj "tuple" vs.toArray 0)).push (seqObj "list" #[] 0) }) { s with heap:=((s.heap.update a (Obj.mapSeq λ_=>#[])).push (seqObj "tuple" vs.toArray 0)).push (seqObj "list" #[] 0) }:=by
   refine aG3 (n:=vs.length) (lt:=λi j=>E4 (ts.getD i []) (ts.getD j [])) (λi j C hi hj hC=>?_) (bd9 (a06 ts) (by omega) hl2 (Q:=λp=>U3 ts vs.length p.toList) λp hp hinc=>?_) λp hp=>⟨hp,rfl⟩
   ·obtain⟨b,o,its,k,e,q,c,d,r,_⟩:=ag1 ht6 hi
    obtain⟨b',o',its',k',e',q',c',d',r',_⟩:=ag1 ht6 hj
    unfold kas_ask
    rw [e,e']
    refine kat_lt (b:=true) q d q' d' (ab6 0 r r' ?_)
    have z1:its.size=(ts.getD i []).length:=by rw [←r.length];simp
    have z2:its'.size=(ts.getD j []).length:=by rw [←r'.length];simp
    rw [z1,z2,aG4];exact hC
   ·refine⟨by simpa using Array.perm_iff_toList_perm.mp hp.perm,?_⟩
    rw [List.pairwise_map,List.pairwise_iff_getElem]
    intro i j hi hj hij
    have:=hinc i j (by omega) (by rw [←hp.size];simpa using hj)
    have hi':i<p.size:=by simpa using hi
    have hj':j<p.size:=by simpa using hj
    simpa [Array.getD,hi',hj'] using this
  refine wpAny_bind (wpAny_mono (kat_run (Q:=λst' s'=>∃p:Array Nat,p.size=vs.length/\arrOf st'=p.map (kas_item (vs.toArray.zip vs.toArray))/\failedOf st'=none/\U3 ts vs.length p.toList/\s'={ s with heap:=((s.heap.update a (Obj.mapSeq λ_=>#[])).push (seqObj "tuple" vs.toArray 0)).push (seqObj "list" #[] 0) })
   rfl hl2 h64 (λp' st' s' a1 a2 a3 a4=>⟨p',a1,a2,a3,a4.1,a4.2⟩) ev) ?_ λ_ _ e=>e)
  rintro⟨⟨⟩,st'⟩ s' ⟨p,hp,har,hf,hres,rfl⟩
  dsimp only
  have hout:=kat_snds rfl har
  have hsz3:(List.toArray (p.toList.map λi=>vs.getD i Value.none)).size=vs.length:=by rw [List.size_toArray,List.length_map,Array.length_toList,hp]
  refine wpAny_bind (seqEpoch_at ho6 rfl ?_)
  rw [hout]
  refine wpAny_bind (listUpdate_at ho6 rfl ?_ (hsz2:=by rw [hsz3,sizeLine_eq];omega))
  rw [hf]
  simp only [bne_self_eq_false,Bool.false_eq_true,if_false]
  exact wpAny_pure (h p.toList hres)
theorem aw4 {l:Addr} {vs:List Value} {ts:List (List Int)} {Q:Value->Shared->Prop} (hl:s.heap.IsList l vs.toArray) (ht:Paired (u6 s.heap) vs ts) (h64:vs.length<64)
 (h:∀p,U3 ts vs.length p->Q (.ref (s.heap.objs.size+1)) { s with heap:=sortedAll s.heap vs (List.toArray (p.map λi=>vs.getD i Value.none)) }) :
 wpAny (model prog w) A (call (.builtin "sorted") [.ref l]) Q E s:=by
 refine Calls.call_function_entry kind_sorted plain_sorted entry_sorted (args_sorted1 _) ?_
 unfold Builtin.«sorted»
 refine wpAny_bind (m:=checkCount "sorted" 1 1 _) (wpAny_pure ?_)
 refine wpAny_bind (collect_list hl ?_)
 refine wpAny_bind (wpAny_newList ?_)
 have hsz:((s.heap.push (seqObj "list" #[] 0)).update s.heap.objs.size (Obj.mapSeq (·++vs.toArray))).objs.size=s.heap.objs.size+1:=by
  rw [Heap.size_update,size_push']
 have hoL:(((s.heap.push (seqObj "list" #[] 0)).update s.heap.objs.size (Obj.mapSeq (·++vs.toArray))).push (seqObj "list" vs.toArray 0)).get? (s.heap.objs.size+1)=some (seqObj "list" vs.toArray 0):=by
  rw [←hsz];exact Heap.get?_push_size _ rfl
 show wpAny _ _ _ _ _ { s with heap:=((s.heap.push (seqObj "list" #[] 0)).update s.heap.objs.size (Obj.mapSeq (·++vs.toArray))).push (seqObj "list" vs.toArray 0) }
 rw [hsz]
 have keep:∀b o,s.heap.get? b=some o->(((s.heap.push (seqObj "list" #[] 0)).update s.heap.objs.size (Obj.mapSeq (·++vs.toArray))).push (seqObj "list" vs.toArray 0)).get? b=some o:=λb o q=>by
  have hlt:b<s.heap.objs.size:=Heap.lt_size q
  rw [Heap.get?_push_ne _ _ _ (by rw [hsz];exact Nat.ne_of_lt (Nat.lt_succ_of_lt hlt)),Heap.get?_update_ne _ _ _ _ (Nat.ne_of_lt hlt),Heap.get?_push_ne _ _ _ (Nat.ne_of_lt hlt)]
  exact q
 refine wpAny_bind (wpAny_holding (wpAny_call_entry slot_list_sort ⟨_,hoL,rfl⟩ entry_list_sort (ag2 hoL (L2.Paired.mapP ht λv t ⟨b,o,its,k,e,q,r⟩=>⟨b,o,its,k,e,keep b o q,r⟩) h64 λp hp=>⟨_,rfl,?_⟩) (args_list_sort _)))
 exact wpAny_pure ⟨_,rfl,h p hp⟩
end
section
variable {X:L2.Cx} {cm:Nat->Addr}
noncomputable def be0 (K:PySem.W.Frag):List L2.V->L2.Hp->L2.VK->Prop:=λvs H Q=>∃a ns,vs=[.ref a]/\L2.SqL K H a (ns.map L2.V.int)/\ns.length<64/\∀l,H l=none->Q (.ref l) (L2.upd H l (.lst ((G2 ltI ns).map L2.V.int)))
theorem call_sortI:L2.CallR X (.builtin "sorted") (be0 X.K):=by
 intro pins s σ H xs us Q I r h
 obtain⟨a,ns,rfl,hq,h64,q⟩:=h
 obtain⟨u,rfl,rx⟩:=L2.R8 r
 cases rx
 obtain⟨its,ri,pl,hz⟩:=I.list hq
 have hI:IntsAre its ns:=L2.ad8 ri
 have hl:its.length=ns.length:=hI.length
 refine sorted_ints pl.isList hI (by omega) λout ns' h1 h2 h3=>?_
 have e:ns'=G2 ltI ns:=al5 (h2.trans (K0 _ _).symm) h3 (aq7 ns)
 subst e
 obtain⟨c,hat⟩:=sortedAll_at s.heap its out
 have hlen:(G2 ltI ns).length=ns.length:=(K0 _ _).length_eq
 refine⟨.ref (s.heap.objs.size+1),_,I.laid (t':=s.toks) (a:=s.heap.objs.size+1) (o:=.lst ((G2 ltI ns).map L2.V.int)) (λb o e=>sortedAll_old e) (Nat.le_succ _) ?_,rfl,q _ (I.hok.fresh (Nat.le_succ _))⟩
 refine⟨by rw [List.length_map,hlen,sizeLine_eq];omega,out.toList,c,L2.x9 h1,?_⟩
 rw [Array.toArray_toList];exact hat
noncomputable def TupV (H:L2.Hp) (x:L2.V) (t:List Int):Prop:=∃b,x=.ref b/\H b=some (.tup (t.map L2.V.int))/\t≠[]
noncomputable def be1 (K:PySem.W.Frag):List L2.V->L2.Hp->L2.VK->Prop:=λvs H Q=>∃a xs ts,vs=[.ref a]/\L2.SqL K H a xs/\Paired (TupV H) xs ts/\xs.length<64/\∀l p,U3 ts xs.length p->H l=none->Q (.ref l) (L2.upd H l (.lst (p.map λi=>xs.getD i .non)))
theorem aG5 {pins:List (Addr×Obj)} {σ:L2.St} {H:L2.Hp} {s:Shared} (I:L2.Inv X pins σ H s):∀{xs:List L2.V} {its:List Value} {ts:List (List Int)},L2.Vals xs its->Paired (TupV H) xs ts->Paired (u6 s.heap) its ts
 | _,_,_,.nil,.nil=>.nil
 | _,_,_,.cons r t,.cons h k=>by
   refine .cons ?_ (aG5 I t k)
   obtain⟨b,rfl,hb,hne⟩:=h
   cases r
   obtain⟨_,vals,rv,ob,ho,hc,n,hd⟩:=I.hok b _ hb
   exact⟨b,ob,vals.toArray,n,rfl,ho,hc,hd,by simpa using L2.ad8 rv,hne⟩
theorem am2 {xs:List L2.V} {its:List Value} (r:L2.Vals xs its):∀p:List Nat,(∀i∈p,i<xs.length)->L2.Vals (p.map λi=>xs.getD i .non) (p.map λi=>its.getD i .none)
 | [],_=>.nil
 | i::p,h=>by
   have hi:=h i List.mem_cons_self
   obtain⟨u,hu,ru⟩:=r.get (i:=i) (x:=xs[i]) (by simp [hi])
   refine .cons ?_ (am2 r p λj hj=>h j (List.mem_cons_of_mem _ hj))
   have e1:xs.getD i .non=xs[i]:=by simp [hi]
   have e2:its.getD i .none=u:=by rw [List.getD_eq_getElem?_getD,hu];rfl
   show L2.RelV (xs.getD i .non) (its.getD i .none)
   rw [e1,e2];exact ru
theorem aC1:L2.CallR X (.builtin "sorted") (be1 X.K):=by
 intro pins s σ H xs us Q I r h
 obtain⟨a,ys,ts,rfl,hq,ht,h64,q⟩:=h
 obtain⟨u,rfl,rx⟩:=L2.R8 r
 cases rx
 obtain⟨its,ri,pl,hz⟩:=I.list hq
 have hl:ys.length=its.length:=ri.length
 refine aw4 pl.isList (aG5 I ri ht) (by omega) λp hp=>?_
 have hp':U3 ts ys.length p:=by rw [hl];exact hp
 obtain⟨c,hat⟩:=sortedAll_at s.heap its (List.toArray (p.map λi=>its.getD i Value.none))
 have hpl:p.length=ys.length:=by rw [hp'.1.length_eq];simp
 refine⟨.ref (s.heap.objs.size+1),_,I.laid (t':=s.toks) (a:=s.heap.objs.size+1) (o:=.lst (p.map λi=>ys.getD i .non)) (λb o e=>sortedAll_old e) (Nat.le_succ _) ?_,rfl,q _ p hp' (I.hok.fresh (Nat.le_succ _))⟩
 refine⟨by rw [List.length_map,hpl,sizeLine_eq];omega,p.map λi=>its.getD i Value.none,c,am2 ri p λi hi=>?_,hat⟩
 have:=hp'.1.mem_iff.mp hi
 simpa using this
theorem Y4:∀{l:List PV} {ns:List Int},M4 l=some ns->l=ns.map .int
 | [],ns,h=>by simp [M4] at h;subst h;rfl
 | x::r,ns,h=>by
   cases x with
   | int i=>
     simp only [M4,Option.map_eq_some_iff] at h
     obtain⟨m,h1,rfl⟩:=h
     rw [Y4 h1];rfl
   | _=>simp [M4] at h
theorem ag3:∀{l:List PV} {ts:List (List Int)},S8 l=some ts->l=ts.map (λt=>PV.tup (t.map .int))/\∀t∈ts,t≠[]
 | [],ts,h=>by simp [S8] at h;subst h;simp
 | x::r,ts,h=>by
   cases x with
   | tup m=>
     cases m with
     | nil=>simp [S8] at h
     | cons y ys=>
       unfold S8 at h
       rcases e1:M4 (y::ys) with _ | z
       ·rw [e1] at h;cases h
       ·rcases e2:S8 r with _ | zs
        ·rw [e1,e2] at h;cases h
        ·rw [e1,e2] at h
         cases h
         obtain⟨a,b⟩:=ag3 e2
         have e3:=Y4 e1
         refine⟨by rw [a,e3];rfl,λt ht=>?_⟩
         rcases List.mem_cons.mp ht with rfl | ht
         ·rintro rfl;simp at e3
         ·exact b t ht
   | _=>simp [S8] at h
theorem RVs.ints_inv {ρ:List Addr} {H:L2.Hp}:∀{ns:List Int} {xs:List L2.V},RVs ρ H (ns.map .int) xs->xs=ns.map L2.V.int
 | [],_,h=>by cases h;rfl
 | i::ns,_,h=>by cases h with | cons h r=>cases h;rw [RVs.ints_inv r];rfl
theorem aG6 {ρ:List Addr} {H:L2.Hp}:∀{ts:List (List Int)} {xs:List L2.V},RVs ρ H (ts.map λt=>PV.tup (t.map .int)) xs->(∀t∈ts,t≠[])->Paired (TupV H) xs ts
 | [],_,h,_=>by cases h;exact .nil
 | t::ts,_,h,hne=>by
   cases h with
   | cons h r=>
     cases h with
     | tup ha rt=>
       rw [RVs.ints_inv rt] at ha
       exact .cons ⟨_,rfl,ha,hne t List.mem_cons_self⟩ (aG6 r λu hu=>hne u (List.mem_cons_of_mem _ hu))
theorem aw5 {ρ:List Addr} {H:L2.Hp} {l:List PV} {xs:List L2.V} (r:RVs ρ H l xs):∀p:List Nat,(∀i∈p,i<l.length)->RVs ρ H (p.map λi=>l.getD i .non) (p.map λi=>xs.getD i .non)
 | [],_=>.nil
 | i::p,h=>by
   have hi:=h i List.mem_cons_self
   obtain⟨u,hu,ru⟩:=r.get (i:=i) (x:=l[i]) (by simp [hi])
   refine .cons ?_ (aw5 r p λj hj=>h j (List.mem_cons_of_mem _ hj))
   have e1:l.getD i .non=l[i]:=by simp [hi]
   have e2:xs.getD i .non=u:=by rw [List.getD_eq_getElem?_getD,hu];rfl
   show RV ρ H (l.getD i .non) (xs.getD i .non)
   rw [e1,e2];exact ru
theorem aL1 {α:Type} (ts:List α) (d:α) {p:List Nat} (hp:p.Perm (List.range ts.length)):(p.map λi=>ts.getD i d).Perm ts:=by
 refine (hp.map _).trans ?_
 have:(List.range ts.length).map (λi=>ts.getD i d)=ts:=by
  apply List.ext_getElem
  ·simp
  ·intro i h1 h2;simp [h2]
 rw [this]
theorem u7 {e:Expr} {d:ED} {p pos:Pos} (hr:X.A.units+64<cLine) (he:L2.PE X e (EvE X.K cm d)) (hg:L2.Gl X "sorted") (hm:X.mg "sorted" = none) (hs:starEach [e] X.env=(false,eval e X.env)::starEach [] X.env:=by exact G0 rfl):L2.PE X (.Call (.Name "sorted" p) [e] [] pos) (EvE X.K cm (X6 d)):=
 E3 (L2.S7 (call_sortI.or aC1) hg hm PyProof.Rows.boot_sorted (r_cons he r_nil hs) (he:=hs)) λσ H Q h=>U9 (f:=λx=>match x with | .ref n=>bnd (D0 n) λl=>bnd (T8 l) λm=>alloc (.lst m) | _=>stuck) (λ_=>rfl) (λρ A H x z A' v Q rl rx ev k=>by
  cases x with
  | ref n=>
    obtain⟨l,A1,e1,ev1⟩:=B0 ev
    obtain⟨rfl,a,xs,rfl,hq,r⟩:=J2 rl rx e1
    obtain⟨m,A2,e2,ev2⟩:=B0 ev1
    obtain⟨h64,e3⟩:=C5 e2
    rcases hi:M4 l with _ | ns
    ·rcases ht:S8 l with _ | ts
     ·rw [hi,ht] at e3;cases e3
     ·rw [hi,ht] at e3
      cases e3
      cases ev2
      obtain⟨rfl,hne⟩:=ag3 ht
      have hl:xs.length=ts.length:=by rw [←r.length];simp
      refine .inr ⟨a,xs,ts,rfl,hq,aG6 r hne,by rw [←r.length];exact h64,λD p hp hD=>?_⟩
      rw [hl] at hp
      have es:(p.map λi=>ts.getD i [])=G2 E4 ts:=y8 (lt:=E4) aq8 ((aL1 ts [] hp.1).trans (K0 _ _).symm) hp.2 (aB1 ts)
      have hlt:∀i∈p,i<ts.length:=λi hi=>by simpa using hp.1.mem_iff.mp hi
      have ep:(G2 E4 ts).map (λt=>PV.tup (t.map .int))=p.map λi=>(ts.map λt=>PV.tup (t.map .int)).getD i .non:=by
       rw [←es,List.map_map]
       refine List.map_congr_left λi hi=>?_
       have:=hlt i hi
       simp [this]
      have ex:Ext ρ H (ρ++[D]) (L2.upd H D (.lst (p.map λi=>xs.getD i .non))):=Ext.new hD
      refine k (ρ++[D]) _ _ ex (rl.alloc hD ⟨_,L2.D4,?_⟩ rfl) (.ref (by rw [←rl.len];simp))
      rw [ep]
      exact (aw5 r p λi hi=>by rw [List.length_map];exact hlt i hi).mono ex
    ·rw [hi] at e3
     cases e3
     cases ev2
     have hl:=Y4 hi
     subst hl
     have hx:=RVs.ints_inv r
     subst hx
     refine .inl ⟨a,ns,rfl,hq,by simpa using h64,λD hD=>?_⟩
     have ex:Ext ρ H (ρ++[D]) (L2.upd H D (.lst ((G2 ltI ns).map L2.V.int))):=Ext.new hD
     exact k (ρ++[D]) _ _ ex (rl.alloc hD ⟨_,L2.D4,RVs.ints _⟩ rfl) (.ref (by rw [←rl.len];simp))
  | _=>cases ev) h
end
end Ws
namespace Ws
open PySem
theorem a07 (K:PySem.W.Frag):Kit K:=⟨λa b ha hb=>by
 simp only [List.mem_cons,List.not_mem_nil,or_false] at ha hb
 rcases ha with rfl | rfl | rfl | rfl | rfl | rfl <;> rcases hb with rfl | rfl | rfl | rfl <;> with_unfolding_all rfl⟩
noncomputable def n5 (s:SD):Prop:=∀σ A v A',s σ A≠.ok (.rt v) A'
theorem M9 {a b:SD} (ha:n5 a) (hb:n5 b):n5 (D9 a b):=λσ A v A' h=>by
 obtain⟨o,A1,e1,e2⟩:=B0 h
 cases o with
 | nx σ1=>exact hb _ _ _ _ e2
 | rt u=>exact ha _ _ _ _ e1
 | bk σ1=>cases e2
 | ct σ1=>cases e2
theorem ar8 {t:TD} {a b:SD} (ha:n5 a) (hb:n5 b):n5 (sIf t a b):=λσ A v A' h=>by
 obtain⟨c,A1,e1,e2⟩:=B0 h
 cases c with
 | true=>rw [if_pos rfl] at e2;exact ha _ _ _ _ e2
 | false=>rw [if_neg (by simp)] at e2;exact hb _ _ _ _ e2
theorem u8:n5 sPass:=λσ A v A' h=>by cases h
theorem i6:n5 sNever:=λσ A v A' h=>by cases h
theorem aG7 {e:ED} {g:GD}:n5 (J7 e g):=λσ A v A' h=>by
 obtain⟨x,A1,e1,e2⟩:=B0 h
 obtain⟨y,A2,e3,e4⟩:=B0 e2
 cases e4
theorem Y5 {a e:ED} {f:Nat}:n5 (sFld a f e):=λσ A v A' h=>by
 obtain⟨x,A1,e1,e2⟩:=B0 h
 obtain⟨y,A2,e3,e4⟩:=B0 e2
 cases y with
 | ref n=>
   obtain⟨o,A3,e5,e6⟩:=B0 e4
   obtain⟨_,e7⟩:=C5 e6
   cases e7
 | _=>cases e4
theorem aS5 {n p:Nat} {s:SD} (hs:n5 s) {vs:List PV} {A A':PHp} {v:PV} (h:fn n p s vs A=.ok v A'):v=.non:=by
 obtain⟨_,h1⟩:=C5 h
 obtain⟨o,A1,e1,e2⟩:=B0 h1
 cases o with
 | nx σ1=>cases e2;rfl
 | rt u=>exact absurd e1 (hs _ _ _ _)
 | bk σ1=>cases e2
 | ct σ1=>cases e2
noncomputable def aG8 (K:PySem.W.Frag):L2.Sp:=λvs H Q _=>∃(a:Addr) (ns:List Int),vs=[.ref a]/\L2.SqL K H a (ns.map L2.V.int)/\ns.length<=63/\L2.bb3 H/\∀H',Q (.bl true) H'
theorem be2 {K:PySem.W.Frag} {cm:Nat->Addr} {f:Fun} (h:∀ns:List Int,∃A',f [.ref 0] [.ro (ns.map .int)]=.ok (.bl true) A') (vs:List L2.V) (H:L2.Hp) (Q:L2.VK) (E:L2.XK) (q:aG8 K vs H Q E):SpF K cm f 1 vs H Q E:=by
 obtain⟨a,ns,rfl,hS,_,hO,k⟩:=q
 obtain⟨A',e⟩:=h ns
 have fz:Fz K H a (ns.map L2.V.int):=by
  rcases hS with (hS | hS) | hS
  ·rcases hO a with z | ⟨o,xs,z⟩ <;> (rw [hS] at z;cases z)
  ·exact .inl hS
  ·exact .inr hS
 refine⟨[a],[.ro (ns.map .int)],[.ref 0],.bl true,A',⟨rfl,λn o b h1 h2=>?_,λm n b o p h1 h2 h3 h4 m1 m2=>?_⟩,.cons (.ref rfl) .nil,rfl,e,λρ' H' v' _ _ rv=>by cases rv;exact k H'⟩
 ·cases n with
  | zero=>simp at h1 h2;subst h1;subst h2;exact⟨_,fz,RVs.ints ns⟩
  | succ n=>simp at h1
 ·cases m with
  | zero=>cases n with
    | zero=>rfl
    | succ n=>simp at h4
  | succ m=>simp at h3
end Ws
namespace Ws
open PySem PySem.W
noncomputable def a08 (ok:Thread->Bool) (stp:SharedT->Thread->Option (SharedT×Thread)) (n:Nat):SharedT->Thread->Option SharedT:=
 @Nat.rec (λ_=>SharedT->Thread->Option SharedT) (λ_ _=>none)
  (λ_ ih s t=>@Bool.rec (λ_=>Option SharedT) (@Bool.rec (λ_=>Option SharedT) none (@Option.rec _ (λ_=>Option SharedT) none (λr=>ih r.1 r.2) (stp s t)) (ok t)) (some s) (through t)) n
theorem a09 {tb:String->Option Builtin} {p:Program} {w:World} {m:Nat} {an:Option Value}:∀(n:Nat) (S:SharedT) (t:Thread) (R:SharedT),
 a08 (stepOk m an) (stepT (denote tb) p w) n S t=some R->topRun tb p w m an n S.abs t=some R.abs:=by
 intro n
 induction n with
 | zero=>intro S t R h;cases h
 | succ n ih=>
   intro S t R h
   unfold topRun
   have h':@Bool.rec (λ_=>Option SharedT) (@Bool.rec (λ_=>Option SharedT) none (@Option.rec _ (λ_=>Option SharedT) none (λr=>a08 (stepOk m an) (stepT (denote tb) p w) n r.1 r.2) (stepT (denote tb) p w S t)) (stepOk m an t)) (some S) (through t)=some R:=h
   cases a:through t with
   | true=>rw [a] at h';cases h';rfl
   | false=>
     rw [a] at h'
     cases b:stepOk m an t with
     | false=>rw [b] at h';cases h'
     | true=>
       rw [b] at h'
       cases c:stepT (denote tb) p w S t with
       | none=>rw [c] at h';cases h'
       | some r=>
         rw [c] at h'
         obtain⟨S1,t1⟩:=r
         show (match step (denote tb) p w S.abs t with | .go s' t'=>topRun tb p w m an n s' t' | .halt _ _=>none)=_
         rw [stepT_spec c]
         exact ih S1 t1 R h'
noncomputable def aS6:List Obj->Nat->BT->BT
 | [],_,t=>t
 | o::r,n,t=>aS6 r (n+1) (t.ins n o)
noncomputable def aS7 (w:World) (os:OsState):SharedT:=⟨aS6 (boot_heap w.params).objs.toList 0 .nil,11,(boot_heap w.params).life,#[],boot_drawn,boot_toks,os⟩
theorem aS8 (w:World) (os:OsState):(aS7 w os).abs=⟨boot_heap w.params,#[],boot_drawn,boot_toks,os⟩:=by kernel_rfl
theorem a28 (P:Params):((boot_heap P).isNs mainGlobals,(boot_heap P).objs.size,(boot_heap P).nsMap mainGlobals "__annotations__")=(true,11,some (.ref 6)):=by kernel_rfl
noncomputable def aw6 (h:Heap):Frag:=(List.range h.objs.size).filterMap λa=>(h.get? a).map λo=>(a,o)
noncomputable def aG9 (S:SharedT):Frag:=(List.range S.n).filterMap λa=>(alive ((S.tree.get a).getD default)).map λo=>(a,o)
theorem z8 {h:Heap}:∀(l:List Nat) {a:Addr} {o:Obj},(l.filterMap λa=>(h.get? a).map λo=>(a,o)).lookup a=some o->h.get? a=some o
 | [],_,_,e=>by cases e
 | b::l,a,o,e=>by
   rw [List.filterMap_cons] at e
   cases q:h.get? b with
   | none=>rw [q] at e;exact z8 l e
   | some x=>
     rw [q] at e
     change ((b,x)::_).lookup a=some o at e
     rw [List.lookup_cons] at e
     by_cases z:(a == b)=true
     ·rw [z] at e;cases e;rw [beq_iff_eq.mp z];exact q
     ·have z':(a == b)=false:=by simpa using z
      rw [z'] at e;exact z8 l e
theorem a29 (h:Heap):(aw6 h).In h:=λa o e=>z8 _ e
theorem aS9 (S:SharedT):aw6 S.abs.heap=aG9 S:=by
 have hs:S.abs.heap.objs.size=S.n:=absHeap_size ..
 unfold aw6 aG9
 rw [hs]
 have key:∀l:List Nat,(∀a∈l,a<S.n)->(l.filterMap λa=>(S.abs.heap.get? a).map λo=>(a,o))=l.filterMap λa=>(alive ((S.tree.get a).getD default)).map λo=>(a,o):=by
  intro l
  induction l with
  | nil=>intro _;rfl
  | cons a l ih=>
    intro h
    have ha:S.abs.heap.get? a=alive ((S.tree.get a).getD default):=by
     show (absHeap S.tree S.n S.life).get? a=_
     unfold Heap.get?
     rw [absHeap_at,if_pos (h a (.head _))]
     cases (S.tree.get a).getD default with
     | mk c d dt sl=>cases dt <;> rfl
    rw [List.filterMap_cons,List.filterMap_cons,ha,ih λb hb=>h b (.tail _ hb)]
 exact key _ λa ha=>List.mem_range.mp ha
noncomputable def Kw (p:Program) (N:Nat) (w:World):Frag:=match openEnds treeTable p w N with
 | some s=>aw6 s.heap
 | none=>[]
noncomputable def lk {α:Type} (sn:Program->List Str->List Str->(Shared->Bool)->Bool->Shared->α) (p q:Program) (loose:List Str) (Xt:Shared->Bool) (w:World) (s:Shared):Bool×α:=
 (staticsOk (importedModules p.main.body) (boot_heap w.params) s.heap&&namesBound p s.heap&&gensDone s&&laidKept (boot_heap w.params) s.heap,sn q loose (importedModules p.main.body) Xt true s)
theorem a30 {p p':Program} {q:Program->Program} {loose:List Str} {Xt:Program->Shared->Bool} {N:Nat} {β:Type} {ob:Frag->β} {va:Program->β}
 {ok:Nat->Option Value->Thread->Bool} {st:(Code->Sem Fin)->Program->World->SharedT->Thread->Option (SharedT×Thread)} {dn:(String->Option Builtin)->Code->Sem Fin} {tb:String->Option Builtin}
 {sn:Program->List Str->List Str->(Shared->Bool)->Bool->Shared->_}
 (hp:p=p') (hok:stepOk=ok) (hst:stepT=st) (hdn:denote=dn) (htb:treeTable=tb) (hsn:openSeen=sn)
 (op:∀w:World,(fencedOpening treeTable p w N).map (λs=>(s.heap,s.gens,s.drawn,s.toks))=some (boot_heap w.params,#[],boot_drawn,boot_toks))
 (ck:∀(w:World) (os:OsState),(a08 (ok 11 (some (.ref 6))) (st (dn tb) p' w) N (aS7 w os) (topStub p')).map (λS=>(lk sn p' (q p') loose (Xt p') w S.abs,ob (aG9 S)))=some ((true,openGood (q p') loose),va p')) :
 LeftO p (q p) loose (Xt p) (λs=>aw6 s.heap) (Kw p N) N/\∀w,ob (Kw p N w)=va p:=by
 subst hp hok hst hdn htb hsn
 have key:∀w,∃s,openEnds treeTable p w N=some s/\openSeen (q p) loose (importedModules p.main.body) (Xt p) true s=openGood (q p) loose/\ob (aw6 s.heap)=va p:=by
  intro w
  obtain⟨⟨h,gs,d,k,os⟩,e,e'⟩:=Option.map_eq_some_iff.mp (op w)
  simp only [Prod.mk.injEq] at e'
  obtain⟨rfl,rfl,rfl,rfl⟩:=e'
  obtain⟨S,r,c⟩:=Option.map_eq_some_iff.mp (ck w os)
  simp only [lk,Prod.mk.injEq] at c
  obtain⟨⟨c1,c2⟩,c3⟩:=c
  have r1:=a09 N _ _ _ r
  rw [aS8] at r1
  have b:=a28 w.params
  simp only [Prod.mk.injEq] at b
  obtain⟨b1,b2,b3⟩:=b
  refine⟨S.abs,?_,c2,by rw [aS9];exact c3⟩
  unfold openEnds
  rw [e]
  show topFrom treeTable p w N _=_
  unfold topFrom
  dsimp only
  rw [b1,b2,b3,r1]
  show (match staticsOk (importedModules p.main.body) (boot_heap w.params) S.abs.heap&&namesBound p S.abs.heap&&gensDone S.abs&&laidKept (boot_heap w.params) S.abs.heap with | true=>some S.abs | false=>none)=_
  rw [c1]
 refine⟨λw=>?_,λw=>?_⟩
 ·obtain⟨s,e,c2,_⟩:=key w
  rw [e]
  show some _=some _
  unfold Kw
  rw [e]
  exact congrArg some (Prod.ext c2 rfl)
 ·obtain⟨s,e,_,c3⟩:=key w
  unfold Kw
  rw [e]
  exact c3
noncomputable def bk8:Stmt->Pos
 | .FunctionDef _ _ _ _ _ _ _ _ _ p=>p
 | _=>⟨0,0,0,0⟩
theorem aT0 {l:OpenLaw} {q:Program} {loose:List Str} {N:Nat} {d:DefRec}
 (left:LeftO l.row.prog q loose (λs=>xlAt q [] s&&recOk (RowW.records l.row.toRowW) s) (λs=>aw6 s.heap) (Kw l.row.prog N) N)
 (hdef:defOf q l.row.name=some (d,[])) (hp:l.row.prog.theDef l.row.name=some (d.params,d.body,d.scope)) (hk:kwWritten? d.params.kwonlyargs d.params.kw_defaults=some [])
 (hwr:(!l.row.writes||l.row.records.isEmpty)=true) (k1:l.row.wellSaid=true) (ok:(chainsOk q&&opensWell l.row.prog&&(frees l.row.toRowW&&l.row.within.isEmpty))=true) (hb:l.row.prog.bare) (hw:l.row.toRowW.promised)
 (call:WalkO q loose (XL q []) (λw h=>(Kw l.row.prog N w).In h) l.row.toRowW d [] λf vs=>PySem.call f vs):l.row.Holds:=
 holds_open left (λw s e=>by rw [←e];exact a29 _) (λw h h' x k=>x.keeps k) (λs e=>xl_of s (Bool.and_eq_true_iff.mp e).1) XL.keeps hdef hp hk (λs e=>recFacts_of (Bool.and_eq_true_iff.mp e).2) hwr k1 ok hb hw call
theorem p1 {α β:Type} {a a':α} {b b':β} (h:(a,b)=(a',b')):a=a':=(Prod.mk.inj h).1
theorem p2 {α β:Type} {a a':α} {b b':β} (h:(a,b)=(a',b')):b=b':=(Prod.mk.inj h).2
theorem s2 {α β γ:Type} {a a':α} {b b':β} {c c':γ} (h:(a,b,c)=(a',b',c')):c=c':=p2 (p2 h)
theorem s4 {α β γ δ ε:Type} {a a':α} {b b':β} {c c':γ} {d d':δ} {e e':ε} (h:(a,b,c,d,e)=(a',b',c',d',e')):e=e':=s2 (s2 h)
end Ws
namespace Ws
open PySem
theorem aL2 {l:PySem.W.OpenLaw} {q:Program} {loose:List Str} {XP:(Str->Option Value)->Heap->Prop} {YP:World->Heap->Prop} {d:DefRec} {K:World->PySem.W.Frag} {k:Nat} {x:Str} (hn:l.most=some 63) (hdf:d.params.defaults=[]) (hr:L2.Room k PySem.callerA)
 (hY:∀(w:World) (h:Heap),YP w h->(K w).In h)
 (F:∀(w:World) (mg:Str->Option Value) (fa:Addr) (h:Heap),(K w).In h->h.Ns mainGlobals mg->mg d.name=some (.ref fa)->
  ∃fd:FuncData,(∀(s:Shared) (u:Value),BindsTo s fd ⟨[u],[]⟩ [(x,u)])/\∀base:Heap,(K w).In base->base.Ns mainGlobals mg->L2.FnOk l.prog w (K w) mg base L2.CX0 k fa fd [x] (aG8 (K w))) :
 PySem.W.WalkO q loose XP YP l.row.toRowW d [] (λf vs=>PySem.call f vs):=by
 refine Att.au3 hn hdf λw s₀ s₁ mg mb fa o pm cd doc a vs ns G Y ho hd hcd hmg hobj hints hlen hg=>?_
 obtain⟨fd,hb,hF⟩:=F w mg fa _ (hY w _ Y) G.T.g hmg
 exact L2.aP3 (hY w _ Y) G.T.g G.T.b G.T.builtins G.T.nolimit hg hobj hints (Nat.le_trans hlen (by decide)) hr hF hb (λH hO hS=>⟨a,ns,rfl,hS,hlen,hO,λ_=>rfl⟩) λH e s' z=>z
end Ws
open PySem PySem.Spec PyProof.Rows
namespace Ws
end Ws
namespace Ws
open PySem
end Ws
namespace Ws
open PySem
section
variable {ρ:List Addr} {H:L2.Hp} {K:PySem.W.Frag} {A:PHp} {n:Nat} {v:L2.V}
theorem Pairs.cons_inv {κ κ':Type} {f:κ->κ'} {p:κ×PV} {r:List (κ×PV)} {kv:List (κ'×L2.V)} (h:Pairs f ρ H (p::r) kv):∃u kv',kv=(f p.1,u)::kv'/\RV ρ H p.2 u/\Pairs f ρ H r kv':=by
 obtain⟨k,v⟩:=h
 cases kv with
 | nil=>cases k
 | cons q t=>
   obtain⟨g,u⟩:=q
   simp only [List.map_cons,List.cons.injEq] at k
   cases v with
   | cons hv hr=>exact⟨u,t,by rw [←k.1],hv,k.2,hr⟩
theorem Pairs.nil_inv {κ κ':Type} {f:κ->κ'} {kv:List (κ'×L2.V)} (h:Pairs f ρ H [] kv):kv=[]:=by
 obtain⟨k,v⟩:=h
 cases kv with
 | nil=>rfl
 | cons q t=>cases k
theorem Pairs.cons' {κ κ':Type} {f:κ->κ'} {p:κ×PV} {u:L2.V} {r:List (κ×PV)} {kv:List (κ'×L2.V)} (h:RV ρ H p.2 u) (t:Pairs f ρ H r kv):Pairs f ρ H (p::r) ((f p.1,u)::kv):=
 ⟨by rw [List.map_cons,List.map_cons,t.keys],.cons h t.vals⟩
end
end Ws
namespace Ws
open PySem
end Ws
namespace Ws
open PySem PySem.W PyProof.Rows
end Ws
namespace Ws
open PySem PySem.W PyProof.Rows
end Ws
namespace Ws
open PySem PySem.W PyProof.Rows
end Ws
namespace Ws
open PySem PySem.W PyProof.Rows
end Ws
namespace Ws
open PySem PySem.W PyProof.Rows
section
variable {X:L2.Cx} {cm:Nat->Addr}
theorem aH0:∀{bs:List Bool} {us:List Value},L2.Vals (bs.map L2.V.bl) us->∀(i:Nat) (v:Value),us[i]?=some v->∃b,bs[i]?=some b/\v=.bool b
 | [],_,.nil,i,v,h=>by simp at h
 | b::bs,_,.cons r t,0,v,h=>by
   cases r
   simp at h;subst h
   exact⟨b,rfl,rfl⟩
 | b::bs,_,.cons r t,i+1,v,h=>aH0 t i v (by simpa using h)
theorem aL3 (bs:List Bool):((List.range bs.length).all λi=>(bs[i]?).getD true)=bs.all id:=by
 induction bs with
 | nil=>rfl
 | cons b r ih=>
   rw [List.length_cons,List.range_succ_eq_map,List.all_cons,List.all_map,List.all_cons,←ih]
   rfl
noncomputable def bn9 (K:PySem.W.Frag):List L2.V->L2.Hp->L2.VK->Prop:=λvs H Q=>∃(a:Addr) (bs:List Bool),vs=[.ref a]/\L2.SqL K H a (bs.map L2.V.bl)/\Q (.bl (bs.all id)) H
theorem aL4 (hcalm:X.calm=true):L2.CallR X (.builtin "all") (bn9 X.K):=by
 intro pins s σ H xs us Q I r h
 obtain⟨a,bs,rfl,hq,q⟩:=h
 obtain⟨u,rfl,rx⟩:=L2.R8 r
 cases rx
 obtain⟨its,ri,pl,hz⟩:=I.list hq
 have hil:=pl.isList
 have hal:a<s.heap.objs.size:=by
  obtain⟨_,e,_⟩:=hil
  exact Heap.lt_size e
 have hlen:its.length=bs.length:=by
  have:=ri.length
  simpa using this.symm
 refine call_all_walk (wpAny_pyIter_list hil ⟨s.heap.objs.size,[s.heap.objs.size,a],[s.heap.objs.size],its.toArray.size,_,_,λi=>(bs[i]?).getD true,rfl,
  Walks.list (A:=X.A.in1) (I.ok.hd hcalm) _ a (Nat.ne_of_lt hal) its.toArray,⟨⟨_,Heap.get?_push_size _ rfl,rfl,rfl⟩,hil.push _⟩,?_,?_⟩)
 ·intro i v s2 Q2 E2 hP hQ2
  obtain⟨b,e1,rfl⟩:=aH0 ri i v (by simpa using hP)
  have hQ3:Q2 ((bs[i]?).getD true) s2:=hQ2
  rw [e1] at hQ3
  exact wpAny_truthy_bool hQ3
 ·intro h2 tk hk
  have e1:its.toArray.size=bs.length:=by rw [List.size_toArray];exact hlen
  rw [e1,aL3]
  exact⟨.bl _,H,I.kept (t':=tk) (λb o e=>hk b o (λhm=>by rw [List.mem_singleton.mp hm] at e;exact absurd (Heap.lt_size e) (Nat.lt_irrefl _)) (Heap.get?_push_of_some _ e)),rfl,q⟩
theorem am3:∀{l:List PV} {bs:List Bool},j8 l=some bs->l=bs.map .bl
 | [],bs,h=>by simp [j8] at h;subst h;rfl
 | x::r,bs,h=>by
   cases x with
   | bl b=>
     simp only [j8,Option.map_eq_some_iff] at h
     obtain⟨m,h1,rfl⟩:=h
     rw [am3 h1];rfl
   | _=>simp [j8] at h
theorem aH1:∀{ρ:List Addr} {H:L2.Hp} {bs:List Bool} {xs:List L2.V},RVs ρ H (bs.map PV.bl) xs->xs=bs.map L2.V.bl
 | _,_,[],_,.nil=>rfl
 | _,_,b::bs,_,.cons h t=>by cases h;rw [aH1 t];rfl
theorem aH2 {e:Expr} {d:ED} {p pos:Pos} (hcalm:X.calm=true) (he:L2.PE X e (EvE X.K cm d)) (hg:L2.Gl X "all") (hm:X.mg "all" = none) (hs:starEach [e] X.env=(false,eval e X.env)::starEach [] X.env:=by exact G0 rfl):L2.PE X (.Call (.Name "all" p) [e] [] pos) (EvE X.K cm (aK5 d)):=
 E3 (L2.S7 (aL4 hcalm) hg hm (by rfl) (r_cons he r_nil hs) (he:=hs)) λσ H Q h=>U9 (f:=λx=>match x with | .ref n=>bnd (D0 n) λl=>(match j8 l with | some bs=>ret (.bl (bs.all id)) | none=>stuck) | _=>stuck) (λ_=>rfl) (λρ A H x z A' v Q rl rx ev k=>by
  cases x with
  | ref n=>
    obtain⟨l,A1,e1,ev1⟩:=B0 ev
    obtain⟨rfl,a,xs,rfl,hq,hv⟩:=J2 rl rx e1
    cases hb:j8 l with
    | none=>rw [hb] at ev1;cases ev1
    | some bs=>
      rw [hb] at ev1
      cases ev1
      rw [am3 hb] at hv
      exact⟨a,bs,rfl,by rw [←aH1 hv];exact hq,k ρ H _ (Ext.refl _ _) rl (.bl _)⟩
  | _=>cases ev) h
end
end Ws
namespace Ws
open PySem PySem.W PyProof.Rows
section
variable {X:L2.Cx} {cm:Nat->Addr}
theorem aw7:∀{ρ:List Addr} {H:L2.Hp} {ns:List Int} {xs:List L2.V},RVs ρ H (ns.map PV.int) xs->xs=ns.map L2.V.int
 | _,_,[],_,.nil=>rfl
 | _,_,i::ns,_,.cons h t=>by cases h;rw [aw7 t];rfl
end
end Ws
namespace Ws
open PySem PySem.W PyProof.Rows
end Ws
namespace Ws
open PySem PySem.W PyProof.Rows
end Ws
namespace Ws
open PySem PySem.W PyProof.Rows
end Ws
namespace Ws
open PySem
end Ws
namespace Ws
open PySem PySem.W PyProof.Rows
end Ws
namespace Ws
open PySem PySem.W PyProof.Rows
section
variable {X:L2.Cx} {cm:Nat->Addr}
noncomputable def a31 (K:PySem.W.Frag):List L2.V->L2.Hp->L2.VK->Prop:=λvs H Q=>∃(a:Addr) (xs:List L2.V),vs=[.ref a]/\L2.SqL K H a xs/\∀p,H p=none->Q (.ref p) (L2.upd H p (.tup xs))
theorem aw8:L2.CallR X (.type "tuple") (a31 X.K):=by
 intro pins s σ H xs us Q I r h
 obtain⟨a,ys,rfl,hq,q⟩:=h
 obtain⟨u,rfl,rx⟩:=L2.R8 r
 cases rx
 obtain⟨its,ri,pl,hz⟩:=I.list hq
 have hl:ys.length=its.length:=ri.length
 refine call_tuple_list pl.isList (λh' hk=>?_) (by rw [List.size_toArray,←hl];exact hz)
 have I1:=I.kept (t':=s.toks) hk
 exact⟨.ref h'.objs.size,_,I1.laid (t':=s.toks) (a:=h'.objs.size) (o:=.tup ys) (λb o e=>Heap.get?_push_of_some _ e) (Nat.le_refl _) ⟨hz,its,ri,_,Heap.get?_push_size _ rfl,rfl,_,rfl⟩,rfl,q _ (I1.hok.fresh (Nat.le_refl _))⟩
theorem aL5 {e:Expr} {d:ED} {p pos:Pos} (he:L2.PE X e (EvE X.K cm d)) (hg:L2.Gl X "tuple") (hm:X.mg "tuple" = none) (hv:bootBuiltins "tuple" = some (.type "tuple")) (hs:starEach [e] X.env=(false,eval e X.env)::starEach [] X.env:=by exact G0 rfl):L2.PE X (.Call (.Name "tuple" p) [e] [] pos) (EvE X.K cm (ae8 d)):=
 E3 (L2.S5 aw8 hg hm hv (r_cons he r_nil hs) (he:=hs)) λσ H Q h=>U9 (f:=λx=>match x with | .ref n=>bnd (D0 n) λl=>D2 (l.length<=LIM) (ret (.tup l)) | _=>stuck) (λ_=>rfl) (λρ A H x z A' v Q rl rx ev k=>by
  cases x with
  | ref n=>
    obtain⟨l,A1,e1,ev1⟩:=B0 ev
    obtain⟨rfl,a,xs,rfl,hq,hv⟩:=J2 rl rx e1
    obtain⟨c,ev2⟩:=C5 ev1
    cases ev2
    refine⟨a,xs,rfl,hq,λp hp=>?_⟩
    have ex:Ext ρ H ρ (L2.upd H p (.tup xs)):=Ext.same hp
    exact k ρ _ _ ex (rl.tup hp) (.tup L2.D4 (hv.mono ex))
  | _=>cases ev) h
end
end Ws
namespace Ws
open PySem PySem.W PyProof.Rows
section
variable {prog:Program} {w:World} {A:Around} {E:Value->Shared->Prop} {s:Shared}
theorem aT1 {it t:Addr} {i:Nat} {its:Array Value} {x:Value} {Q:Value->Shared->Prop} (hi:s.heap.IsTupleIter it t i) (ht:s.heap.IsTuple t its) (hx:its[i]?=some x)
 (hQ:∀h',h'.IsTupleIter it t (i+1)->Heap.SameBut it s.heap h'->Q x { s with heap:=h' }):wpAny (model prog w) A (Builtin.SmallTypes.nextOf (.ref it)) Q E s:=by
 obtain⟨o,ho,hc,hd⟩:=id hi
 obtain⟨ot,hot,_,nt,hdt⟩:=ht
 unfold Builtin.SmallTypes.nextOf
 refine wpAny_bind (wpAny_callSpecial?_slot (name:=Str.ofString "__next__") hi.typeIs F.slot_tuple_iterator_next (wpAny_call_entry F.slot_tuple_iterator_next hi.typeIs F.entry_tuple_iterator_next ?_ (F.args_tuple_iterator_next_1 _)))
 show wpAny _ _ (field (.ref it) 0>>=_) _ _ s
 refine wpAny_bind (wpAny_field ho hd (x:=.ref t) rfl ?_)
 show wpAny _ _ (if (Value.ref t == Value.none)=true then _ else _) _ _ s
 rw [if_neg (show ¬((Value.ref t == Value.none)=true) from Bool.false_ne_true)]
 show wpAny _ _ (field (.ref it) 1>>=_) _ _ s
 refine wpAny_bind (wpAny_field ho hd (x:=.int i 0) rfl ?_)
 show wpAny _ _ (seqItems? (.ref t)>>=_) _ _ s
 refine wpAny_bind (wpAny_seqItems hot hdt ?_)
 simp only [Int.toNat_natCast,hx]
 refine wpAny_bind (wpAny_setField ho hd (by simp) (wpAny_pure ⟨x,rfl,wpAny_pure (hQ _ ⟨_,Heap.get?_update_self _ ho (Obj.isFreed_of_fields (Obj.data_mapFields hd _)),(Obj.cls_mapFields ..).trans hc,by rw [Obj.data_mapFields hd];simp [rawInt]⟩ (Heap.SameBut.update ..))⟩))
theorem a32 {it t:Addr} {i:Nat} {its:Array Value} {Q:Value->Shared->Prop} (hh:A.handled=none) (hi:s.heap.IsTupleIter it t i) (ht:s.heap.IsTuple t its) (hx:its[i]?=none)
 (hE:∀h' e,Heap.ExtBut it s.heap h'->(∃o,h'.get? e=some o/\o.cls=.type "StopIteration")->E (.ref e) { s with heap:=h' }):wpAny (model prog w) A (Builtin.SmallTypes.nextOf (.ref it)) Q E s:=by
 obtain⟨o,ho,hc,hd⟩:=id hi
 obtain⟨ot,hot,_,nt,hdt⟩:=ht
 unfold Builtin.SmallTypes.nextOf
 refine wpAny_bind (wpAny_callSpecial?_slot (name:=Str.ofString "__next__") hi.typeIs F.slot_tuple_iterator_next (wpAny_call_entry F.slot_tuple_iterator_next hi.typeIs F.entry_tuple_iterator_next ?_ (F.args_tuple_iterator_next_1 _)))
 show wpAny _ _ (field (.ref it) 0>>=_) _ _ s
 refine wpAny_bind (wpAny_field ho hd (x:=.ref t) rfl ?_)
 show wpAny _ _ (if (Value.ref t == Value.none)=true then _ else _) _ _ s
 rw [if_neg (show ¬((Value.ref t == Value.none)=true) from Bool.false_ne_true)]
 show wpAny _ _ (field (.ref it) 1>>=_) _ _ s
 refine wpAny_bind (wpAny_field ho hd (x:=.int i 0) rfl ?_)
 show wpAny _ _ (seqItems? (.ref t)>>=_) _ _ s
 refine wpAny_bind (wpAny_seqItems hot hdt ?_)
 simp only [Int.toNat_natCast,hx]
 refine wpAny_bind (wpAny_rule (wpAny_bind (wpAny_setField ho hd (by simp) ?_)))
 show wpAny _ _ (newExc (.type "StopIteration") []>>=_) _ _ _
 refine wpAny_bind ?_
 simp only [newExc,newTuple]
 refine wpAny_bind (wpAny_newObj_type ?_ (by size_fits))
 refine wpAny_bind (m:=firstArgMember _ _) (wpAny_of_eq (a:=Value.none) (by first | rfl | (simp only [firstArgMember];rfl)) ?_)
 refine wpAny_newObj_type ?_ (by size_fits)
 simp only [raiseNew]
 refine wpAny_bind (wpAny_handled ?_)
 first | rw [show A.in1.handled=none from hh] | rw [hh]
 refine wpAny_bind (wpAny_pure (wpAny_throw ?_))
 exact hE _ _ (((Heap.SameBut.update ..).extBut.push _).push _) ⟨_,Heap.get?_push_size _ rfl,rfl⟩
noncomputable def IterAt (k:Bool) (h:Heap) (it l:Addr) (i:Nat):Prop:=match k with
 | true=>h.IsTupleIter it l i
 | false=>h.IsListIter it l i
noncomputable def SeqAt (k:Bool) (h:Heap) (l:Addr) (its:Array Value):Prop:=match k with
 | true=>h.IsTuple l its
 | false=>h.IsList l its
theorem IterAt.at {k:Bool} {h h':Heap} {it l:Addr} {i:Nat} (x:IterAt k h it l i) (e:∀o,h.get? it=some o->h'.get? it=some o):IterAt k h' it l i:=by
 cases k with
 | true=>exact Heap.IsTupleIter.at x e
 | false=>exact Heap.IsListIter.at x e
theorem SeqAt.at {k:Bool} {h h':Heap} {l:Addr} {its:Array Value} (x:SeqAt k h l its) (e:∀o,h.get? l=some o->h'.get? l=some o):SeqAt k h' l its:=by
 cases k with
 | true=>obtain⟨o,h1,h2⟩:=x;exact⟨o,e o h1,h2⟩
 | false=>exact Heap.IsList.at x e
theorem IterAt.obj {k:Bool} {h:Heap} {it l:Addr} {i:Nat} (x:IterAt k h it l i):∃o vs,h.get? it=some o/\o.data=.fields vs:=by
 cases k with
 | true=>obtain⟨o,h1,_,h2⟩:=x;exact⟨o,_,h1,h2⟩
 | false=>obtain⟨o,h1,_,h2⟩:=x;exact⟨o,_,h1,h2⟩
theorem SeqAt.lt {k:Bool} {h:Heap} {l:Addr} {its:Array Value} (x:SeqAt k h l its):l<h.objs.size:=by
 cases k with
 | true=>obtain⟨o,h1,_⟩:=x;exact Heap.lt_size h1
 | false=>obtain⟨o,h1,_⟩:=x;exact Heap.lt_size h1
theorem i7 {k:Bool} {it t:Addr} {i:Nat} {its:Array Value} {x:Value} {Q:Value->Shared->Prop} (hi:IterAt k s.heap it t i) (ht:SeqAt k s.heap t its) (hx:its[i]?=some x)
 (hQ:∀h',IterAt k h' it t (i+1)->Heap.SameBut it s.heap h'->Q x { s with heap:=h' }):wpAny (model prog w) A (Builtin.SmallTypes.nextOf (.ref it)) Q E s:=by
 cases k with
 | true=>exact aT1 hi ht hx hQ
 | false=>exact wpAny_nextOf_list_item hi ht hx hQ
theorem ar9 {k:Bool} {it t:Addr} {i:Nat} {its:Array Value} {Q:Value->Shared->Prop} (hh:A.handled=none) (hi:IterAt k s.heap it t i) (ht:SeqAt k s.heap t its) (hx:its[i]?=none)
 (hE:∀h' e,Heap.ExtBut it s.heap h'->(∃o,h'.get? e=some o/\o.cls=.type "StopIteration")->E (.ref e) { s with heap:=h' }):wpAny (model prog w) A (Builtin.SmallTypes.nextOf (.ref it)) Q E s:=by
 cases k with
 | true=>exact a32 hh hi ht hx hE
 | false=>exact wpAny_nextOf_list_end hh hi ht hx hE
noncomputable def aw9 (k:Bool) (l:Addr):Obj:={ cls:=.type (match k with | true=>"tuple_iterator" | false=>"list_iterator"),data:=.fields #[.ref l,.int 0 0] }
theorem aT2 (k:Bool) (h:Heap) (l:Addr):IterAt k (h.push (aw9 k l)) h.objs.size l 0:=by
 cases k with
 | true=>exact⟨_,Heap.get?_push_size _ rfl,rfl,rfl⟩
 | false=>exact⟨_,Heap.get?_push_size _ rfl,rfl,rfl⟩
theorem ax0 {k:Bool} {l:Addr} {its:Array Value} {Q:Value->Shared->Prop} (hl:SeqAt k s.heap l its) (hQ:Q (.ref s.heap.objs.size) { s with heap:=s.heap.push (aw9 k l) }):wpAny (model prog w) A (pyIter (.ref l)) Q E s:=by
 cases k with
 | true=>exact wpAny_pyIter_tuple hl hQ
 | false=>exact wpAny_pyIter_list hl hQ
noncomputable def aT3 (h:Heap) (z TI TO:Addr):Prop:=∃(f0:Value) (f1:Bool),(f0=.none\/∃T:Addr,f0=rawInt T)/\h.get? z=some { cls:=.type "zip",dict:=none,data:=.fields #[f0,.bool f1,.bool false,.ref TI,.ref TO],slots:=#[] }
end
end Ws
namespace Ws
open PySem PySem.W PyProof.Rows
section
variable {prog:Program} {w:World} {A:Around} {E:Value->Shared->Prop} {s:Shared}
noncomputable abbrev ag4 (f0:Value) (f1:Bool) (TI TO:Addr):Obj:={ cls:=.type "zip",dict:=none,data:=.fields #[f0,.bool f1,.bool false,.ref TI,.ref TO],slots:=#[] }
structure ZSt (k1 k2:Bool) (z TI TO i1 i2 l1 l2:Addr) (i:Nat) (h:Heap):Prop where
 zr:aT3 h z TI TO
 ti:IsPair h TI (.ref i1) (.ref i2)
 to:∃a b,IsPair h TO a b
 j1:IterAt k1 h i1 l1 i
 j2:IterAt k2 h i2 l2 i
noncomputable abbrev Kp (z TO i1 i2:Addr) (h h':Heap):Prop:=∀c o,c≠z->c≠TO->c≠i1->c≠i2->h.get? c=some o->h'.get? c=some o
structure ZA (z TI TO i1 i2 l1 l2:Addr):Prop where
 TIz:TI≠z
 TOz:TO≠z
 i1z:i1≠z
 i2z:i2≠z
 TITO:TI≠TO
 TIi1:TI≠i1
 TIi2:TI≠i2
 TOi1:TO≠i1
 TOi2:TO≠i2
 i12:i1≠i2
 l1z:l1≠z
 l1TO:l1≠TO
 l1i1:l1≠i1
 l1i2:l1≠i2
 l2z:l2≠z
 l2TO:l2≠TO
 l2i1:l2≠i1
 l2i2:l2≠i2
theorem ZSt.keep {k1 k2:Bool} {z TI TO i1 i2 l1 l2:Addr} {i:Nat} {h h':Heap} (S:ZSt k1 k2 z TI TO i1 i2 l1 l2 i h) (k:∀b∈[z,TI,TO,i1,i2],∀o,h.get? b=some o->h'.get? b=some o):ZSt k1 k2 z TI TO i1 i2 l1 l2 i h':=by
 obtain⟨⟨f0,f1,hf,hz⟩,ti,⟨a,b,to⟩,j1,j2⟩:=S
 exact⟨⟨f0,f1,hf,k z (by simp) _ hz⟩,k TI (by simp) _ ti,⟨a,b,k TO (by simp) _ to⟩,j1.at λo e=>k i1 (by simp) o e,j2.at λo e=>k i2 (by simp) o e⟩
theorem aL6 {a:Addr} {Q:Option Obj->Shared->Prop} (h:Q (s.heap.get? a) s):wpAny (model prog w) A (loadIfAlive a) Q E s:=λ_ _ _=>h
theorem ax1 {z TI TO:Addr} {Q:Bool->Shared->Prop} (hz:aT3 s.heap z TI TO) (h:∀b h' f0 f1,h'.get? z=some (ag4 f0 f1 TI TO)->(b=false->∃T:Addr,f0=rawInt T)->Heap.SameBut z s.heap h'->Q b { s with heap:=h' }) :
 wpAny (model prog w) A (Builtin.SmallTypes.ownedTupleIsFree (.ref z)) Q E s:=by
 obtain⟨f0,f1,hf,hz⟩:=hz
 unfold Builtin.SmallTypes.ownedTupleIsFree
 rcases hf with rfl | ⟨T,rfl⟩
 ·exact wpAny_bind (wpAny_field hz rfl (x:=.none) rfl (wpAny_pure (h true s.heap _ _ hz (by simp) ⟨rfl,λ_ _=>rfl⟩)))
 ·refine wpAny_bind (wpAny_field hz rfl (x:=rawInt T) rfl ?_)
  refine wpAny_bind (aL6 ?_)
  by_cases hn:(s.heap.get? ((T:Int).toNat)).isNone=true
  ·rw [if_pos hn]
   exact wpAny_pure (h true s.heap _ _ hz (by simp) ⟨rfl,λ_ _=>rfl⟩)
  ·rw [if_neg hn]
   refine wpAny_bind (wpAny_field hz rfl (x:=.bool f1) rfl ?_)
   cases f1 with
   | true=>
     rw [if_neg (by simp)]
     exact wpAny_pure (h false s.heap _ _ hz (λ_=>⟨T,rfl⟩) ⟨rfl,λ_ _=>rfl⟩)
   | false=>
     rw [if_pos (by decide)]
     refine wpAny_bind (wpAny_setField_rec hz (by simp) λh1 hz1 hs1=>wpAny_pure (h false h1 (rawInt T) true hz1 (λ_=>⟨T,rfl⟩) hs1))
theorem be3 {k1 k2:Bool} {z TI TO i1 i2 l1 l2:Addr} {k:Nat} {xs ys:Array Value} {x y:Value} {Q:Value->Shared->Prop} (D:ZA z TI TO i1 i2 l1 l2) (S:ZSt k1 k2 z TI TO i1 i2 l1 l2 k s.heap)
 (hl1:SeqAt k1 s.heap l1 xs) (hl2:SeqAt k2 s.heap l2 ys) (hx:xs[k]?=some x) (hy:ys[k]?=some y)
 (hQ:∀h',ZSt k1 k2 z TI TO i1 i2 l1 l2 (k+1) h'->IsPair h' s.heap.objs.size x y->Kp z TO i1 i2 s.heap h'->Q (.ref s.heap.objs.size) { s with heap:=h' }) :
 wpAny (model prog w) A (Builtin.«zip.__next__» ⟨[.ref z],[]⟩) (λfin s'=>∃v,fin=.done (.ret v)/\Q v s') E s:=by
 obtain⟨hz,hTI,⟨a,b,hTO⟩,h1,h2⟩:=S
 obtain⟨g0,g1,_,hzz⟩:=id hz
 show wpAny _ _ (field (.ref z) 2>>=_) _ _ _
 refine wpAny_bind (wpAny_field hzz rfl (x:=.bool false) rfl ?_)
 show wpAny _ _ (field (.ref z) 3>>=_) _ _ _
 refine wpAny_bind (wpAny_field hzz rfl (x:=.ref TI) rfl ?_)
 refine wpAny_bind (wpAny_seqItems hTI rfl ?_)
 show wpAny _ _ (Builtin.SmallTypes.ownedTupleIsFree (.ref z)>>=_) _ _ _
 refine wpAny_bind (ax1 hz λfr h0 f0 f1 hz0 hfr hs0=>?_)
 have hTO0:IsPair h0 TO a b:=hs0.extBut _ _ D.TOz hTO
 have hTI0:IsPair h0 TI (.ref i1) (.ref i2):=hs0.extBut _ _ D.TIz hTI
 have j1:IterAt k1 h0 i1 l1 k:=h1.at λo e=>hs0.extBut _ _ D.i1z e
 have j2:IterAt k2 h0 i2 l2 k:=h2.at λo e=>hs0.extBut _ _ D.i2z e
 have q1:SeqAt k1 h0 l1 xs:=hl1.at λo e=>hs0.extBut _ _ D.l1z e
 have q2:SeqAt k2 h0 l2 ys:=hl2.at λo e=>hs0.extBut _ _ D.l2z e
 cases fr with
 | true=>
   simp only [if_true]
   refine wpAny_bind (wpAny_rule ?_)
   refine wpAny_bind (wpAny_field hz0 rfl (x:=.ref TO) rfl ?_)
   refine wpAny_bind (wpAny_setField_rec hz0 (by simp) λh₁ hz₁ hs₁=>?_)
   replace hz₁:h₁.get? z=some (ag4 .ellipsis f1 TI TO):=hz₁
   refine wpAny_bind ?_
   simp only [List.zipIdx_cons,List.zipIdx_nil,List.forIn_cons,List.forIn_nil]
   refine wpAny_bind (wpAny_bind (wpAny_onRaise ?_))
   show wpAny _ _ (Builtin.SmallTypes.nextOf (.ref i1)>>=_) _ _ _
   refine wpAny_bind (i7 (j1.at λo e=>hs₁.extBut _ _ D.i1z e) (q1.at λo e=>hs₁.extBut _ _ D.l1z e) hx λh₂ h1₂ hs₂=>wpAny_pure ?_)
   have hTO₂:IsPair h₂ TO a b:=hs₂.extBut _ _ D.TOi1 (hs₁.extBut _ _ D.TOz hTO0)
   refine wpAny_bind (wpAny_seqItems hTO₂ rfl ?_)
   refine wpAny_bind (wpAny_updateSeq_pair hTO₂ λh₃ hTO₃ hs₃=>?_)
   replace hTO₃:IsPair h₃ TO x b:=hTO₃
   refine wpAny_bind (wpAny_letGo (wpAny_pure ?_))
   refine wpAny_bind (wpAny_bind (wpAny_onRaise ?_))
   show wpAny _ _ (Builtin.SmallTypes.nextOf (.ref i2)>>=_) _ _ _
   refine wpAny_bind (i7 (j2.at λo e=>hs₃.extBut _ _ D.TOi2.symm (hs₂.extBut _ _ D.i12.symm (hs₁.extBut _ _ D.i2z e))) (q2.at λo e=>hs₃.extBut _ _ D.l2TO (hs₂.extBut _ _ D.l2i1 (hs₁.extBut _ _ D.l2z e))) hy λh₄ h2₄ hs₄=>wpAny_pure ?_)
   have hTO₄:IsPair h₄ TO x b:=hs₄.extBut _ _ D.TOi2 hTO₃
   refine wpAny_bind (wpAny_seqItems hTO₄ rfl ?_)
   refine wpAny_bind (wpAny_updateSeq_pair hTO₄ λh₅ hTO₅ hs₅=>?_)
   replace hTO₅:IsPair h₅ TO x y:=hTO₅
   refine wpAny_bind (wpAny_letGo (wpAny_pure (wpAny_pure ?_)))
   refine wpAny_bind (wpAny_seqItems hTO₅ rfl ?_)
   refine wpAny_bind (wpAny_newTuple ?_)
   have hsz:h₅.objs.size=s.heap.objs.size:=by rw [hs₅.1,hs₄.1,hs₃.1,hs₂.1,hs₁.1,hs0.1]
   have hz₅:h₅.get? z=some (ag4 .ellipsis f1 TI TO):=hs₅.extBut _ _ D.TOz.symm (hs₄.extBut _ _ D.i2z.symm (hs₃.extBut _ _ D.TOz.symm (hs₂.extBut _ _ D.i1z.symm hz₁)))
   have hk₅:Kp z TO i1 i2 s.heap h₅:=λc o c1 c2 c3 c4 e=>
    hs₅.extBut _ _ c2 (hs₄.extBut _ _ c4 (hs₃.extBut _ _ c2 (hs₂.extBut _ _ c3 (hs₁.extBut _ _ c1 (hs0.extBut _ _ c1 e)))))
   have h1₅:IterAt k1 h₅ i1 l1 (k+1):=h1₂.at λo e=>hs₅.extBut _ _ D.TOi1.symm (hs₄.extBut _ _ D.i12 (hs₃.extBut _ _ D.TOi1.symm e))
   have h2₅:IterAt k2 h₅ i2 l2 (k+1):=h2₄.at λo e=>hs₅.extBut _ _ D.TOi2.symm e
   have hzlt:z<h₅.objs.size:=Heap.lt_size hz₅
   show wpAny _ _ (Builtin.SmallTypes.ownedTupleHandOut (.ref z) (.ref h₅.objs.size)>>=_) _ _ _
   refine wpAny_bind ?_
   unfold Builtin.SmallTypes.ownedTupleHandOut
   have hz₆:(h₅.push { cls:=.type "tuple",data:=.seq #[x,y] }).get? z=some (ag4 .ellipsis f1 TI TO):=Heap.get?_push_of_some _ hz₅
   refine wpAny_bind (wpAny_setField_rec hz₆ (by simp) λh₇ hz₇ hs₇=>?_)
   replace hz₇:h₇.get? z=some (ag4 (rawInt h₅.objs.size) f1 TI TO):=hz₇
   refine wpAny_setField_rec hz₇ (by simp) λh₈ hz₈ hs₈=>?_
   replace hz₈:h₈.get? z=some (ag4 (rawInt h₅.objs.size) false TI TO):=hz₈
   have up:∀c o,c≠z->h₅.get? c=some o->h₈.get? c=some o:=λc o c1 e=>hs₈.extBut _ _ c1 (hs₇.extBut _ _ c1 (Heap.get?_push_of_some _ e))
   have hT₈:IsPair h₈ h₅.objs.size x y:=hs₈.extBut _ _ (Nat.ne_of_gt hzlt) (hs₇.extBut _ _ (Nat.ne_of_gt hzlt) (Heap.get?_push_size _ rfl))
   refine wpAny_pure ⟨_,rfl,?_⟩
   show Q (.ref h₅.objs.size) _
   rw [hsz] at hT₈ ⊢
   exact hQ h₈ ⟨⟨_,_,.inr ⟨_,rfl⟩,hz₈⟩,up _ _ D.TIz (hk₅ _ _ D.TIz D.TITO D.TIi1 D.TIi2 hTI),⟨_,_,up _ _ D.TOz hTO₅⟩,h1₅.at λo e=>up _ o D.i1z e,h2₅.at λo e=>up _ o D.i2z e⟩ hT₈ λc o c1 c2 c3 c4 e=>up c o c1 (hk₅ c o c1 c2 c3 c4 e)
 | false=>
   simp only [Bool.false_eq_true,if_false]
   obtain⟨T,hT⟩:=hfr rfl
   refine wpAny_bind ?_
   simp only [Array.forIn_toList.symm,List.forIn_cons,List.forIn_nil]
   refine wpAny_bind (wpAny_bind (wpAny_holding ?_))
   show wpAny _ _ (Builtin.SmallTypes.nextOf (.ref i1)>>=_) _ _ _
   refine wpAny_bind (i7 (s:={ s with heap:=h0 }) j1 q1 hx λh₂ h1₂ hs₂=>wpAny_pure (wpAny_pure ?_))
   refine wpAny_bind (wpAny_bind (wpAny_holding ?_))
   show wpAny _ _ (Builtin.SmallTypes.nextOf (.ref i2)>>=_) _ _ _
   refine wpAny_bind (i7 (s:={ s with heap:=h₂ }) (j2.at λo e=>hs₂.extBut _ _ D.i12.symm e) (q2.at λo e=>hs₂.extBut _ _ D.l2i1 e) hy λh₄ h2₄ hs₄=>wpAny_pure (wpAny_pure (wpAny_pure ?_)))
   refine wpAny_bind (wpAny_newTuple ?_ (by show 2<=sizeLine;decide))
   have hsz:h₄.objs.size=s.heap.objs.size:=by rw [hs₄.1,hs₂.1,hs0.1]
   refine wpAny_pure ⟨_,rfl,?_⟩
   show Q (.ref h₄.objs.size) _
   have hk:Kp z TO i1 i2 s.heap h₄:=λc o c1 c2 c3 c4 e=>hs₄.extBut _ _ c4 (hs₂.extBut _ _ c3 (hs0.extBut _ _ c1 e))
   have hz₄:h₄.get? z=some (ag4 f0 f1 TI TO):=hs₄.extBut _ _ D.i2z.symm (hs₂.extBut _ _ D.i1z.symm hz0)
   have hp:IsPair (h₄.push { cls:=.type "tuple",data:=.seq #[x,y] }) h₄.objs.size x y:=Heap.get?_push_size _ rfl
   rw [hsz] at hp ⊢
   refine hQ _ ⟨⟨_,_,.inr ⟨T,hT⟩,Heap.get?_push_of_some _ hz₄⟩,Heap.get?_push_of_some _ (hk _ _ D.TIz D.TITO D.TIi1 D.TIi2 hTI),⟨a,b,Heap.get?_push_of_some _ (hs₄.extBut _ _ D.TOi2 (hs₂.extBut _ _ D.TOi1 hTO0))⟩,
    h1₂.at λo e=>Heap.get?_push_of_some _ (hs₄.extBut _ _ D.i12 e),h2₄.at λo e=>Heap.get?_push_of_some _ e⟩ hp λc o c1 c2 c3 c4 e=>Heap.get?_push_of_some _ (hk c o c1 c2 c3 c4 e)
theorem a33 {k1 k2:Bool} {z TI TO i1 i2 l1 l2:Addr} {k:Nat} {xs ys:Array Value} {Q:Fin->Shared->Prop} (hh:A.handled=none) (D:ZA z TI TO i1 i2 l1 l2) (S:ZSt k1 k2 z TI TO i1 i2 l1 l2 k s.heap)
 (hl1:SeqAt k1 s.heap l1 xs) (hl2:SeqAt k2 s.heap l2 ys) (hend:xs[k]?=none\/ys[k]?=none)
 (hE:∀h' e,Kp z TO i1 i2 s.heap h'->(∃o,h'.get? e=some o/\o.cls=.type "StopIteration")->E (.ref e) { s with heap:=h' }) :
 wpAny (model prog w) A (Builtin.«zip.__next__» ⟨[.ref z],[]⟩) Q E s:=by
 obtain⟨hz,hTI,⟨a,b,hTO⟩,h1,h2⟩:=S
 obtain⟨g0,g1,_,hzz⟩:=id hz
 show wpAny _ _ (field (.ref z) 2>>=_) _ _ _
 refine wpAny_bind (wpAny_field hzz rfl (x:=.bool false) rfl ?_)
 show wpAny _ _ (field (.ref z) 3>>=_) _ _ _
 refine wpAny_bind (wpAny_field hzz rfl (x:=.ref TI) rfl ?_)
 refine wpAny_bind (wpAny_seqItems hTI rfl ?_)
 show wpAny _ _ (Builtin.SmallTypes.ownedTupleIsFree (.ref z)>>=_) _ _ _
 refine wpAny_bind (ax1 hz λfr h0 f0 f1 hz0 hfr hs0=>?_)
 have hTO0:IsPair h0 TO a b:=hs0.extBut _ _ D.TOz hTO
 have j1:IterAt k1 h0 i1 l1 k:=h1.at λo e=>hs0.extBut _ _ D.i1z e
 have j2:IterAt k2 h0 i2 l2 k:=h2.at λo e=>hs0.extBut _ _ D.i2z e
 have q1:SeqAt k1 h0 l1 xs:=hl1.at λo e=>hs0.extBut _ _ D.l1z e
 have q2:SeqAt k2 h0 l2 ys:=hl2.at λo e=>hs0.extBut _ _ D.l2z e
 cases fr with
 | true=>
   simp only [if_true]
   refine wpAny_bind (wpAny_rule ?_)
   refine wpAny_bind (wpAny_field hz0 rfl (x:=.ref TO) rfl ?_)
   refine wpAny_bind (wpAny_setField_rec hz0 (by simp) λh₁ hz₁ hs₁=>?_)
   replace hz₁:h₁.get? z=some (ag4 .ellipsis f1 TI TO):=hz₁
   refine wpAny_bind ?_
   simp only [List.zipIdx_cons,List.zipIdx_nil,List.forIn_cons,List.forIn_nil]
   refine wpAny_bind (wpAny_bind (wpAny_onRaise ?_))
   show wpAny _ _ (Builtin.SmallTypes.nextOf (.ref i1)>>=_) _ _ _
   cases hx:xs[k]? with
   | none=>
     refine wpAny_bind (ar9 hh (j1.at λo e=>hs₁.extBut _ _ D.i1z e) (q1.at λo e=>hs₁.extBut _ _ D.l1z e) hx λh₂ e hs₂ he=>?_)
     obtain⟨oe,hoe,hce⟩:=he
     have hz₂:h₂.get? z=some (ag4 .ellipsis f1 TI TO):=hs₂ _ _ D.i1z.symm hz₁
     have hez:e≠z:=λx=>by subst x;rw [hz₂] at hoe;cases hoe;simp at hce
     refine wpAny_setField_rec hz₂ (by simp) λh₃ _ hs₃=>hE h₃ e (λc o c1 _ c3 _ x=>hs₃.extBut _ _ c1 (hs₂ _ _ c3 (hs₁.extBut _ _ c1 (hs0.extBut _ _ c1 x)))) ⟨oe,hs₃.extBut _ _ hez hoe,hce⟩
   | some x=>
     have hy:ys[k]?=none:=by rcases hend with h | h;· rw [hx] at h;cases h
                             ·exact h
     refine wpAny_bind (i7 (j1.at λo e=>hs₁.extBut _ _ D.i1z e) (q1.at λo e=>hs₁.extBut _ _ D.l1z e) hx λh₂ h1₂ hs₂=>wpAny_pure ?_)
     have hTO₂:IsPair h₂ TO a b:=hs₂.extBut _ _ D.TOi1 (hs₁.extBut _ _ D.TOz hTO0)
     refine wpAny_bind (wpAny_seqItems hTO₂ rfl ?_)
     refine wpAny_bind (wpAny_updateSeq_pair hTO₂ λh₃ hTO₃ hs₃=>?_)
     refine wpAny_bind (wpAny_letGo (wpAny_pure ?_))
     refine wpAny_bind (wpAny_bind (wpAny_onRaise ?_))
     show wpAny _ _ (Builtin.SmallTypes.nextOf (.ref i2)>>=_) _ _ _
     refine wpAny_bind (ar9 hh (j2.at λo e=>hs₃.extBut _ _ D.TOi2.symm (hs₂.extBut _ _ D.i12.symm (hs₁.extBut _ _ D.i2z e))) (q2.at λo e=>hs₃.extBut _ _ D.l2TO (hs₂.extBut _ _ D.l2i1 (hs₁.extBut _ _ D.l2z e))) hy λh₄ e hs₄ he=>?_)
     obtain⟨oe,hoe,hce⟩:=he
     have hz₄:h₄.get? z=some (ag4 .ellipsis f1 TI TO):=hs₄ _ _ D.i2z.symm (hs₃.extBut _ _ D.TOz.symm (hs₂.extBut _ _ D.i1z.symm hz₁))
     have hez:e≠z:=λx=>by subst x;rw [hz₄] at hoe;cases hoe;simp at hce
     refine wpAny_setField_rec hz₄ (by simp) λh₅ _ hs₅=>hE h₅ e (λc o c1 c2 c3 c4 x=>hs₅.extBut _ _ c1 (hs₄ _ _ c4 (hs₃.extBut _ _ c2 (hs₂.extBut _ _ c3 (hs₁.extBut _ _ c1 (hs0.extBut _ _ c1 x)))))) ⟨oe,hs₅.extBut _ _ hez hoe,hce⟩
 | false=>
   simp only [Bool.false_eq_true,if_false]
   refine wpAny_bind ?_
   simp only [Array.forIn_toList.symm,List.forIn_cons,List.forIn_nil]
   refine wpAny_bind (wpAny_bind (wpAny_holding ?_))
   show wpAny _ _ (Builtin.SmallTypes.nextOf (.ref i1)>>=_) _ _ _
   cases hx:xs[k]? with
   | none=>exact wpAny_bind (ar9 (s:={ s with heap:=h0 }) hh j1 q1 hx λh₂ e hs₂ he=>hE h₂ e (λc o c1 _ c3 _ x=>hs₂ _ _ c3 (hs0.extBut _ _ c1 x)) he)
   | some x=>
     have hy:ys[k]?=none:=by rcases hend with h | h;· rw [hx] at h;cases h
                             ·exact h
     refine wpAny_bind (i7 (s:={ s with heap:=h0 }) j1 q1 hx λh₂ h1₂ hs₂=>wpAny_pure (wpAny_pure ?_))
     refine wpAny_bind (wpAny_bind (wpAny_holding ?_))
     show wpAny _ _ (Builtin.SmallTypes.nextOf (.ref i2)>>=_) _ _ _
     exact wpAny_bind (ar9 (s:={ s with heap:=h₂ }) hh (j2.at λo e=>hs₂.extBut _ _ D.i12.symm e) (q2.at λo e=>hs₂.extBut _ _ D.l2i1 e) hy λh₄ e hs₄ he=>hE h₄ e (λc o c1 _ c3 c4 x=>hs₄ _ _ c4 (hs₂.extBut _ _ c3 (hs0.extBut _ _ c1 x))) he)
theorem aC2 {k1 k2:Bool} {z TI TO i1 i2 l1 l2:Addr} {k:Nat} {xs ys:Array Value} {x y:Value} {Q:Option Value->Shared->Prop} (D:ZA z TI TO i1 i2 l1 l2) (S:ZSt k1 k2 z TI TO i1 i2 l1 l2 k s.heap)
 (hl1:SeqAt k1 s.heap l1 xs) (hl2:SeqAt k2 s.heap l2 ys) (hx:xs[k]?=some x) (hy:ys[k]?=some y)
 (hQ:∀h',ZSt k1 k2 z TI TO i1 i2 l1 l2 (k+1) h'->IsPair h' s.heap.objs.size x y->Kp z TO i1 i2 s.heap h'->Q (some (.ref s.heap.objs.size)) { s with heap:=h' }) :
 wpAny (model prog w) A (pyNext (.ref z)) Q E s:=by
 have hT:s.TypeIs (.ref z) "zip":=by obtain⟨_,_,_,h⟩:=S.zr;exact⟨_,h,rfl⟩
 unfold pyNext
 refine wpAny_bind (wpAny_attempt (wpAny_callSpecial?_slot (name:=Str.ofString "__next__") hT F.slot_zip_next (wpAny_call_entry F.slot_zip_next hT F.entry_zip_next (be3 D S hl1 hl2 hx hy λh' a1 a2 a3=>wpAny_pure (hQ h' a1 a2 a3)) (F.args_zip_next_1 _))))
theorem ax2 {k1 k2:Bool} {z TI TO i1 i2 l1 l2:Addr} {k:Nat} {xs ys:Array Value} {Q:Option Value->Shared->Prop} (hh:A.handled=none) (D:ZA z TI TO i1 i2 l1 l2) (S:ZSt k1 k2 z TI TO i1 i2 l1 l2 k s.heap)
 (hl1:SeqAt k1 s.heap l1 xs) (hl2:SeqAt k2 s.heap l2 ys) (hend:xs[k]?=none\/ys[k]?=none) (hQ:∀h',Kp z TO i1 i2 s.heap h'->Q none { s with heap:=h' }) :
 wpAny (model prog w) A (pyNext (.ref z)) Q E s:=by
 have hT:s.TypeIs (.ref z) "zip":=by obtain⟨_,_,_,h⟩:=S.zr;exact⟨_,h,rfl⟩
 unfold pyNext
 refine wpAny_bind (wpAny_attempt (wpAny_callSpecial?_slot (name:=Str.ofString "__next__") hT F.slot_zip_next (wpAny_call_entry F.slot_zip_next hT F.entry_zip_next (a33 (A:=_) hh D S hl1 hl2 hend λh' e hk he=>?_) (F.args_zip_next_1 _))))
 obtain⟨o,ho,hc⟩:=he
 exact wpAny_bind (wpAny_isInstance (T:="StopIteration") (b:=true) ⟨o,ho,hc⟩ isSubtype_stop (wpAny_pure (hQ _ hk)))
theorem be4 {k1 k2:Bool} {tg:Expr} {z TI TO i1 i2 l1 l2 T:Addr} {k:Nat} {Q:Unit->Shared->Prop} (ht:∀es p,tg≠.List es p) (D:ZA z TI TO i1 i2 l1 l2) (S:ZSt k1 k2 z TI TO i1 i2 l1 l2 k s.heap)
 (hQ:∀h',ZSt k1 k2 z TI TO i1 i2 l1 l2 k h'->Heap.SameBut z s.heap h'->Q () { s with heap:=h' }) :
 wpAny (model prog w) A (letOwnedTupleGo tg (.ref z) (.ref T)) Q E s:=by
 have q0:Q () s:=hQ s.heap S ⟨rfl,λ_ _=>rfl⟩
 unfold letOwnedTupleGo
 cases tg with
 | Tuple elts x1 pos=>
   obtain⟨⟨f0,f1,hf,hz⟩,hTI,⟨a,b,hTO⟩,h1,h2⟩:=S
   refine wpAny_bind (wpAny_load hz ?_)
   by_cases c:(["enumerate","zip","dict_itemiterator","dict_reverseitemiterator","odict_iterator","itertools.zip_longest","itertools.pairwise"].contains "zip"&&(#[f0,.bool f1,.bool false,.ref TI,.ref TO]:Array Value)[0]? == some (rawInt T))=true
   ·show wpAny _ _ (if _ then _ else _) Q E s
    rw [if_pos c]
    refine wpAny_bind (wpAny_rule ?_)
    show wpAny _ _ (setField (.ref z) 0 .none) Q E s
    refine wpAny_setField_rec hz (by simp) λh' hz' hs'=>hQ h' ⟨⟨.none,f1,.inl rfl,hz'⟩,hs'.extBut _ _ D.TIz hTI,⟨a,b,hs'.extBut _ _ D.TOz hTO⟩,h1.at λo e=>hs'.extBut _ _ D.i1z e,h2.at λo e=>hs'.extBut _ _ D.i2z e⟩ hs'
   ·show wpAny _ _ (if _ then _ else _) Q E s
    rw [if_neg c]
    exact wpAny_pure q0
 | List es p=>exact absurd rfl (ht _ _)
 | _=>exact wpAny_pure q0
theorem ag5 {z TI TO:Addr} {Q:Value->Shared->Prop} (hz:aT3 s.heap z TI TO) (h:Q (.ref z) s):wpAny (model prog w) A (pyIter (.ref z)) Q E s:=by
 have hT:s.TypeIs (.ref z) "zip":=by obtain⟨_,_,_,h⟩:=hz;exact⟨_,h,rfl⟩
 refine wpAny_pyIter_slot hT F.slot_zip_iter (wpAny_call_entry F.slot_zip_iter hT F.entry_zip_iter ?_ (F.args_zip_iter_1 _))
 show wpAny _ _ (PySem.ret (.ref z)) _ _ s
 exact wpAny_pure ⟨_,rfl,"zip",_,hT,F.slot_zip_next.lookup,h⟩
end
end Ws
namespace Ws
open PySem PySem.W PyProof.Rows
section
variable {X:L2.Cx} {cm:Nat->Addr}
theorem z9 {k:Bool} {pins:List (Addr×Obj)} {σ:L2.St} {H:L2.Hp} {s:Shared} {a:Addr} {xs:List L2.V} (I:L2.Inv X pins σ H s) (h:SqK k X.K H a xs):∃its:List Value,L2.Vals xs its/\SeqAt k s.heap a its.toArray:=by
 cases k with
 | true=>obtain⟨its,r,p,_⟩:=I.tuple h;exact⟨its,r,p⟩
 | false=>obtain⟨its,r,p,_⟩:=I.list h;exact⟨its,r,p.isList⟩
theorem aH3 {k:Bool} {pins:List (Addr×Obj)} {σ:L2.St} {H:L2.Hp} {s:Shared} {a:Addr} {xs ys:List L2.V} (I:L2.Inv X pins σ H s) (h:SqK k X.K H a xs) (h':SqK k X.K H a ys):xs=ys:=by
 cases k with
 | true=>exact I.tuple_inj h h'
 | false=>exact I.list_inj h h'
end
theorem aT4 {P:Program} {w:World} {K:PySem.W.Frag} {tg:Expr} (ht:∀es p,tg≠.List es p) (k1 k2:Bool) (a b z TI TO i1 i2:Addr) (D:ZA z TI TO i1 i2 a b) :
 L2.ap0 P w K tg (Itz K k1 k2 a b) [z,TI,TO,i1,i2] z (λi h=>ZSt k1 k2 z TI TO i1 i2 a b i h) where
 mem:=by simp
 obj:=λi h S c hc=>by
  obtain⟨⟨f0,f1,_,hz⟩,ti,⟨x,y,to⟩,j1,j2⟩:=S
  simp only [List.mem_cons,List.not_mem_nil,or_false] at hc
  rcases hc with rfl | rfl | rfl | rfl | rfl
  ·exact⟨_,hz,λv z=>by cases z⟩
  ·exact⟨_,ti,λv z=>by cases z⟩
  ·exact⟨_,to,λv z=>by cases z⟩
  ·obtain⟨o,vs,h1,h2⟩:=j1.obj;exact⟨o,h1,λv z=>by rw [h2] at z;cases z⟩
  ·obtain⟨o,vs,h1,h2⟩:=j2.obj;exact⟨o,h1,λv z=>by rw [h2] at z;cases z⟩
 keep:=λi h h' S k=>S.keep k
 item:=by
  intro X hP hw hK hc i pins s σ H E I hf S hg
  subst hP hw hK
  obtain⟨xs,ys,x,y,hq1,hq2,hx,hy⟩:=hg
  obtain⟨its1,r1,p1⟩:=z9 I hq1
  obtain⟨its2,r2,p2⟩:=z9 I hq2
  obtain⟨u,hu,ru⟩:=r1.get hx
  obtain⟨v,hv,rv⟩:=r2.get hy
  refine aC2 D S p1 p2 (x:=u) (y:=v) (by simpa using hu) (by simpa using hv) λh' S' hT hk=>?_
  refine⟨.ref s.heap.objs.size,rfl,be4 (s:={ s with heap:=h' }) ht D S' λh2 S2 hs2=>?_⟩
  have zlt:z<s.heap.objs.size:=by obtain⟨_,_,_,e⟩:=S.zr;exact Heap.lt_size e
  have I2:L2.Inv X pins σ (L2.upd H s.heap.objs.size (.tup [x,y])) { s with heap:=h2 }:=by
   refine n4 (s:=s) (t':=s.toks) I hf (λb u hb q=>?_) (Nat.le_refl _) ?_
   ·have n1:b≠z:=λe=>hb (by simp [e])
    exact hs2.extBut _ _ n1 (hk b u n1 (λe=>hb (by simp [e])) (λe=>hb (by simp [e])) (λe=>hb (by simp [e])) q)
   ·exact⟨by show 2<=sizeLine;decide,[u,v],.cons ru (.cons rv .nil),_,hs2.extBut _ _ (Nat.ne_of_gt zlt) hT,rfl,_,rfl⟩
  refine⟨.ref s.heap.objs.size,L2.upd H s.heap.objs.size (.tup [x,y]),I2,rfl,⟨x,y,s.heap.objs.size,λzs hz=>by rw [aH3 I hz hq1];exact hx,λzs hz=>by rw [aH3 I hz hq2];exact hy,I.hok.fresh (Nat.le_refl _),rfl,rfl⟩,S2,λb hb=>?_⟩
  rw [L2.D6]
  ·exact (hf b hb).1
  ·intro e
   subst e
   have:∃o,s.heap.get? s.heap.objs.size=some o:=by
    obtain⟨⟨f0,f1,_,hz⟩,ti,⟨x,y,to⟩,j1,j2⟩:=S
    simp only [List.mem_cons,List.not_mem_nil,or_false] at hb
    rcases hb with e | e | e | e | e
    ·rw [e];exact⟨_,hz⟩
    ·rw [e];exact⟨_,ti⟩
    ·rw [e];exact⟨_,to⟩
    ·rw [e];obtain⟨o,vs,h1,h2⟩:=j1.obj;exact⟨o,h1⟩
    ·rw [e];obtain⟨o,vs,h1,h2⟩:=j2.obj;exact⟨o,h1⟩
   obtain⟨o,ho⟩:=this
   exact absurd (Heap.lt_size ho) (Nat.lt_irrefl _)
 done:=by
  intro X hP hw hK hc i pins s σ H E I hf S hg
  subst hP hw hK
  obtain⟨xs,ys,hq1,hq2,hx⟩:=hg
  obtain⟨its1,r1,p1⟩:=z9 I hq1
  obtain⟨its2,r2,p2⟩:=z9 I hq2
  have l1:=r1.length
  have l2:=r2.length
  refine ax2 (I.ok.hd hc) D S p1 p2 ?_ λh' hk=>⟨rfl,V7 (t':=s.toks) I hf λb u hb q=>hk b u (λe=>hb (by simp [e])) (λe=>hb (by simp [e])) (λe=>hb (by simp [e])) (λe=>hb (by simp [e])) q⟩
  rcases hx with hx | hx
  ·left;rw [Array.getElem?_eq_none];simp;omega
  ·right;rw [Array.getElem?_eq_none];simp;omega
 self:=λ_ _ _ _ _ S h=>ag5 S.zr h
end Ws
namespace Ws
open PySem PySem.W PyProof.Rows
noncomputable abbrev zH1 (k1:Bool) (h:Heap) (l1:Addr):Heap:=h.push (aw9 k1 l1)
noncomputable abbrev zH2 (k1 k2:Bool) (h:Heap) (l1 l2:Addr):Heap:=(zH1 k1 h l1).push (aw9 k2 l2)
noncomputable abbrev zH3 (k1 k2:Bool) (h:Heap) (l1 l2:Addr):Heap:=(zH2 k1 k2 h l1 l2).push { cls:=.type "tuple",data:=.seq #[.ref h.objs.size,.ref (zH1 k1 h l1).objs.size] }
noncomputable abbrev zH4 (k1 k2:Bool) (h:Heap) (l1 l2:Addr):Heap:=(zH3 k1 k2 h l1 l2).push { cls:=.type "tuple",data:=.seq #[.none,.none] }
noncomputable abbrev zH5 (k1 k2:Bool) (h:Heap) (l1 l2:Addr):Heap:=(zH4 k1 k2 h l1 l2).push (ag4 .none false (zH2 k1 k2 h l1 l2).objs.size (zH3 k1 k2 h l1 l2).objs.size)
theorem aC3 (k1 k2:Bool) (l1 l2:Addr) (xs ys:Array Value) :
 Meets (Builtin.«zip.__new__» ⟨[.type "zip",.ref l1,.ref l2],[]⟩) (λ_ R s=>SeqAt k1 s.heap l1 xs/\SeqAt k2 s.heap l2 ys/\R (.ok (.ret (.ref (zH4 k1 k2 s.heap l1 l2).objs.size))) { s with heap:=zH5 k1 k2 s.heap l1 l2 }):=
 .of_wp λprog w A R s h=>by
  obtain⟨hp,g,d,tk,os⟩:=s
  obtain⟨hl1,hl2,h⟩:=h
  have hsub:=sub_zip
  have hL1:SeqAt k1 (Shared.heap ⟨hp,g,d,tk,os⟩) l1 xs:=hl1
  have hL2:SeqAt k2 (Shared.heap ⟨hp.push (aw9 k1 l1),g,d,tk,os⟩) l2 ys:=hl2.at λo e=>Heap.get?_push_of_some _ e
  wp_walk using ax0 hL1,ax0 hL2
  exact⟨_,rfl,h⟩
section
variable {prog:Program} {w:World} {A:Around} {E:Value->Shared->Prop} {s:Shared}
theorem aL7 {k1 k2:Bool} {l1 l2:Addr} {xs ys:Array Value} {Q:Value->Shared->Prop} (hl1:SeqAt k1 s.heap l1 xs) (hl2:SeqAt k2 s.heap l2 ys)
 (h:∀h',ZSt k1 k2 (s.heap.objs.size+4) (s.heap.objs.size+2) (s.heap.objs.size+3) s.heap.objs.size (s.heap.objs.size+1) l1 l2 0 h'->(∀c o,s.heap.get? c=some o->h'.get? c=some o)->Q (.ref (s.heap.objs.size+4)) { s with heap:=h' }) :
 wpAny (model prog w) A (call (.type "zip") [.ref l1,.ref l2]) Q E s:=by
 refine callType_new F.called_zip (by decide) (F.typeCall_zip_2 _ _) (F.newCall_zip_2 _ _) (λobj=>F.args_object_init_3 obj _ _) F.entry_zip_new (aC3 k1 k2 l1 l2 xs ys) ⟨hl1,hl2,?_⟩
 have z1:(zH1 k1 s.heap l1).objs.size=s.heap.objs.size+1:=Heap.size_push ..
 have z2:(zH2 k1 k2 s.heap l1 l2).objs.size=s.heap.objs.size+2:=by rw [Heap.size_push,z1]
 have z3:(zH3 k1 k2 s.heap l1 l2).objs.size=s.heap.objs.size+3:=by rw [Heap.size_push,z2]
 have z4:(zH4 k1 k2 s.heap l1 l2).objs.size=s.heap.objs.size+4:=by rw [Heap.size_push,z3]
 have g5:(zH5 k1 k2 s.heap l1 l2).get? (zH4 k1 k2 s.heap l1 l2).objs.size=some _:=Heap.get?_push_size _ rfl
 have g4:(zH5 k1 k2 s.heap l1 l2).get? (zH3 k1 k2 s.heap l1 l2).objs.size=some _:=Heap.get?_push_of_some _ (Heap.get?_push_size _ rfl)
 have g3:(zH5 k1 k2 s.heap l1 l2).get? (zH2 k1 k2 s.heap l1 l2).objs.size=some _:=Heap.get?_push_of_some _ (Heap.get?_push_of_some _ (Heap.get?_push_size _ rfl))
 have g2:IterAt k2 (zH5 k1 k2 s.heap l1 l2) (zH1 k1 s.heap l1).objs.size l2 0:=(aT2 k2 (zH1 k1 s.heap l1) l2).at λo e=>Heap.get?_push_of_some _ (Heap.get?_push_of_some _ (Heap.get?_push_of_some _ e))
 have g1:IterAt k1 (zH5 k1 k2 s.heap l1 l2) s.heap.objs.size l1 0:=(aT2 k1 s.heap l1).at λo e=>Heap.get?_push_of_some _ (Heap.get?_push_of_some _ (Heap.get?_push_of_some _ (Heap.get?_push_of_some _ e)))
 show _/\_
 rw [z2,z3,z4] at g5
 rw [z1,z2] at g3
 rw [z3] at g4
 rw [z1] at g2
 rw [z4]
 exact⟨⟨_,g5,rfl⟩,h _ ⟨⟨_,_,.inl rfl,g5⟩,g3,⟨_,_,g4⟩,g1,g2⟩ λc o x=>Heap.get?_push_of_some _ (Heap.get?_push_of_some _ (Heap.get?_push_of_some _ (Heap.get?_push_of_some _ (Heap.get?_push_of_some _ x))))⟩
end
section
variable {X:L2.Cx} {cm:Nat->Addr}
theorem bk9 {a b tg:Expr} {d e:ED} {p pos:Pos} (ht:∀es p,tg≠.List es p) (hg:L2.Gl X "zip") (hm:X.mg "zip" = none) (ha:L2.PE X a (EvE X.K cm d)) (hb:L2.PE X b (EvE X.K cm e))
 (hs:starEach [a,b] X.env=(false,eval a X.env)::starEach [b] X.env:=by exact G0 rfl) (hs2:starEach [b] X.env=(false,eval b X.env)::starEach [] X.env:=by exact G0 rfl):L2.PI X tg (.Call (.Name "zip" p) [a,b] [] pos) (EvI X.K cm (bc5 d e)):=by
 intro pins s σ H R I h
 obtain⟨ρ,A,σp,J,A',rl,rs,ev,k⟩:=h
 obtain⟨x,A1,e1,ev1⟩:=B0 ev
 obtain⟨y,A2,e2,ev2⟩:=B0 ev1
 refine Call_ (L2.m5 I hg hm (show bootBuiltins "zip" = some (.type "zip") from by rfl) (callWith_type1 (L2.thn ((r_cons ha (r_cons hb r_nil hs2) hs) pos pins s σ H (λvs H1=>∃a xs b ys,vs=[.ref a,.ref b]/\SqK (kindOf x) X.K H1 a xs/\SqK (kindOf y) X.K H1 b ys/\R (Itz X.K (kindOf x) (kindOf y) a b) H1) I ⟨ρ,A,σp,[x,y],A2,rl,rs,by show bnd (d σp) _ A=_;rw [bnd_ok e1];show bnd (bnd (e σp) _) _ A1=_;rw [bnd_ok (show bnd (e σp) _ A1=.ok [y] A2 by rw [bnd_ok e2];rfl)];rfl,λρ1 H1 vs1 x1 rl1 rv1=>?_⟩) λus s1 ⟨vs,H1,I1,r1,q1⟩=>?_) hs (by rw [hs2];rfl)))
 ·cases rv1 with
  | cons hv hr=>
    cases hr with
    | cons hv2 hr2=>
      cases hr2
      obtain⟨l,A3,e3,ev3⟩:=B0 ev2
      obtain⟨rfl,a,xs,rfl,hq,r⟩:=i5 rl1 hv e3
      obtain⟨m,A4,e4,ev4⟩:=B0 ev3
      obtain⟨rfl,b,ys,rfl,hq2,r2⟩:=i5 rl1 hv2 e4
      cases ev4
      exact⟨a,xs,b,ys,rfl,hq,hq2,k ρ1 H1 _ x1 rl1 ⟨a,b,hv,hv2,rfl⟩⟩
 ·obtain⟨a,xs,b,ys,rfl,hq,hq2,q⟩:=q1
  cases r1 with
  | cons h1 t1=>
    cases t1 with
    | cons h2 t2=>
      cases t2
      cases h1
      cases h2
      obtain⟨its1,r1,p1⟩:=z9 I1 hq
      obtain⟨its2,r2,p2⟩:=z9 I1 hq2
      refine aL7 p1 p2 λh' S kp=>?_
      refine ag5 S.zr ?_
      have I2:L2.Inv X pins σ H1 { s1 with heap:=h' }:=I1.kept (t':=s1.toks) kp
      have la:=p1.lt
      have lb:=p2.lt
      refine⟨s1.heap.objs.size+4,[s1.heap.objs.size+4,s1.heap.objs.size+2,s1.heap.objs.size+3,s1.heap.objs.size,s1.heap.objs.size+1],_,_,H1,rfl,I2,aT4 ht (kindOf x) (kindOf y) a b _ _ _ _ _ ?_,S,λc hc=>?_,q⟩
      ·have la:@LT.lt Nat _ a s1.heap.objs.size:=la
       have lb:@LT.lt Nat _ b s1.heap.objs.size:=lb
       constructor <;> first | exact Nat.ne_of_lt (by omega) | exact Nat.ne_of_gt (by omega)
      ·have hb2:s1.heap.objs.size<=c:=by
        simp only [List.mem_cons,List.not_mem_nil,or_false] at hc
        rcases hc with rfl | rfl | rfl | rfl | rfl
        ·exact Nat.le_add_right _ 4
        ·exact Nat.le_add_right _ 2
        ·exact Nat.le_add_right _ 3
        ·exact Nat.le_refl _
        ·exact Nat.le_add_right _ 1
       exact I1.fpOk hb2 (I1.hok.fresh hb2)
end
end Ws
namespace Ws
open PySem PySem.W PyProof.Rows
end Ws
namespace Ws
open PySem PySem.W PyProof.Rows
end Ws
namespace Ws
open PySem PySem.W PyProof.Rows
end Ws
namespace Ws
open PySem PySem.W PyProof.Rows PySem.Calls
end Ws
namespace Ws
open PySem PySem.W PyProof.Rows PySem.Calls
end Ws
namespace Ws
open PySem PySem.W PyProof.Rows PySem.Calls Builtin Builtin.ObjectAttr
end Ws
namespace Ws
open PySem PySem.W PyProof.Rows PySem.Calls
end Ws
namespace Ws
open PySem PySem.W PyProof.Rows PySem.Calls
end Ws
namespace Ws
open PySem PySem.W PyProof.Rows PySem.Calls
end Ws
namespace Ws
open PySem PySem.W PyProof.Rows PySem.Calls
end Ws
namespace Ws
open PySem PySem.W PyProof.Rows PySem.Calls
end Ws
namespace Ws
open PySem PySem.W PyProof.Rows PySem.Calls
end Ws
namespace Ws
open PySem PySem.W PyProof.Rows PySem.Calls
end Ws
namespace Ws
open PySem PySem.W PyProof.Rows PySem.Calls
end Ws
namespace Ws
open PySem PySem.W PyProof.Rows PySem.Calls
end Ws
namespace Ws
open PySem PySem.W PyProof.Rows PySem.Calls
end Ws
namespace Ws
open PySem PySem.W PyProof.Rows PySem.Calls
end Ws
namespace Ws
open PySem
section
variable {X:L2.Cx} {cm:Nat->Addr}
theorem be5:M6 X.K cm bc6 (L2.rI L2.bi3 λi j=>.int (i ^ j.toNat)):=okI (g:=λi j=>.int (i ^ j.toNat)) (λx y A z A' h=>by
 cases x <;> cases y <;> first | (obtain⟨c,h⟩:=C5 h;cases h;exact⟨_,_,rfl,rfl,⟨c.1,by omega,by have:=c.2.2;omega⟩,rfl,rfl⟩) | cases h) (λ_ _ _ _=>.int _) _ _
end
end Ws
namespace Ws
open PySem
open PySem.SeqAt
end Ws
namespace Ws
end Ws
namespace Ws
open PySem PySem.Spec PySem.Calls PyProof.Rows
end Ws
namespace Ws
open PySem
theorem ag6 {i j:List Int} (h:i.map (Sum.inl:Int->L2.Key)=j.map Sum.inl):i=j:=(List.map_inj_right λ_ _ z=>Sum.inl.inj z).mp h
section
variable {ρ:List Addr} {H:L2.Hp} {K:PySem.W.Frag} {A:PHp} {n:Nat} {v:L2.V}
noncomputable abbrev PT2 (ρ:List Addr) (H:L2.Hp) (m:List (List Int×PV)) (kv:List (List L2.Key×L2.V)):Prop:=Pairs (List.map Sum.inl:List Int->List L2.Key) ρ H m kv
theorem PT2.len {m:List (List Int×PV)} {kv:List (List L2.Key×L2.V)} (h:PT2 ρ H m kv):m.length=kv.length:=by
 have:=congrArg List.length h.keys
 simpa using this.symm
theorem PT2.val:∀{m:List (List Int×PV)} {kv:List (List L2.Key×L2.V)} (i:List Int),PT2 ρ H m kv->(N8 m i=none/\L2.o8 kv (i.map Sum.inl)=none)\/∃x u,N8 m i=some x/\L2.o8 kv (i.map Sum.inl)=some u/\RV ρ H x u
 | [],kv,i,h=>by obtain rfl:=h.nil_inv;exact .inl ⟨rfl,rfl⟩
 | p::r,kv,i,h=>by
   obtain⟨u,kv',rfl,hu,t⟩:=h.cons_inv
   unfold N8
   by_cases e:p.1=i
   ·rw [if_pos e,L2.o9 (by rw [e])]
    exact .inr ⟨_,_,rfl,rfl,hu⟩
   ·rw [if_neg e,L2.q8 (λz=>e (ag6 z))]
    exact PT2.val i t
theorem PT2.some_eq {m:List (List Int×PV)} {kv:List (List L2.Key×L2.V)} (i:List Int) (h:PT2 ρ H m kv):(L2.o8 kv (i.map Sum.inl)).isSome=(N8 m i).isSome:=by
 rcases PT2.val i h with ⟨a,b⟩ | ⟨x,u,a,b,_⟩ <;> rw [a,b] <;> rfl
theorem ax3 (i:List Int):∀m:List (List Int×PV),(m.any λp=>decide (p.1=i))=(N8 m i).isSome
 | []=>rfl
 | p::r=>by
   unfold N8
   rw [List.any_cons]
   by_cases e:p.1=i
   ·rw [if_pos e,decide_eq_true e];rfl
   ·rw [if_neg e,decide_eq_false e,Bool.false_or];exact ax3 i r
theorem PT2.repl {x:PV} {u:L2.V} (ru:RV ρ H x u) (i:List Int):∀{m:List (List Int×PV)} {kv:List (List L2.Key×L2.V)},PT2 ρ H m kv->PT2 ρ H (m.map λp=>if p.1=i then (p.1,x) else p) (kv.map λp=>if p.1=(i.map Sum.inl) then (p.1,u) else p)
 | [],kv,h=>by obtain rfl:=h.nil_inv;exact⟨rfl,.nil⟩
 | p::r,kv,h=>by
   obtain⟨w,kv',rfl,hw,t⟩:=h.cons_inv
   have ih:=PT2.repl ru i t
   rw [List.map_cons,List.map_cons]
   by_cases e:p.1=i
   ·rw [if_pos e,if_pos (by rw [e])];exact Pairs.cons' (p:=(p.1,x)) ru ih
   ·rw [if_neg e,if_neg (λz=>e (ag6 z))];exact Pairs.cons' hw ih
theorem PT2.snoc {x:PV} {u:L2.V} (ru:RV ρ H x u) (i:List Int):∀{m:List (List Int×PV)} {kv:List (List L2.Key×L2.V)},PT2 ρ H m kv->PT2 ρ H (m++[(i,x)]) (kv++[(i.map Sum.inl,u)])
 | [],kv,h=>by obtain rfl:=h.nil_inv;exact Pairs.cons' (p:=(i,x)) ru ⟨rfl,.nil⟩
 | p::r,kv,h=>by
   obtain⟨w,kv',rfl,hw,t⟩:=h.cons_inv
   exact Pairs.cons' hw (PT2.snoc ru i t)
theorem PT2.put {x:PV} {u:L2.V} (ru:RV ρ H x u) (i:List Int) {m:List (List Int×PV)} {kv:List (List L2.Key×L2.V)} (h:PT2 ρ H m kv):PT2 ρ H (av3 m i x) (L2.m6 kv (i.map Sum.inl) u):=by
 unfold av3 L2.m6
 have e:(kv.any λp=>decide (p.1=(i.map Sum.inl)))=(m.any λp=>decide (p.1=i)):=by
  rw [ax3,L2.ad9];exact h.some_eq i
 rw [e]
 by_cases a:(m.any λp=>decide (p.1=i))=true
 ·rw [if_pos a,if_pos a];exact h.repl ru i
 ·rw [if_neg a,if_neg a];exact h.snoc ru i
theorem R3 {cm:Nat->Addr} {m:List (List Int×PV)} {A':PHp} (rl:Rel K cm ρ A H) (r:RV ρ H (.ref n) v) (h:R1 n A=.ok m A'):A'=A/\A[n]?=some (.dT m)/\∃a kv,v=.ref a/\ρ[n]?=some a/\H a=some (.dT kv)/\PT2 ρ H m kv:=by
 cases r with
 | ref hn=>
   unfold R1 at h
   rcases hA:A[n]? with _ | o
   ·rw [hA] at h;cases h
   ·have q:=rl.obj n o _ hA hn
    cases o with
    | dT m=>rw [hA] at h;cases h;obtain⟨xs,h1,h2⟩:=q;exact⟨rfl,rfl,_,xs,rfl,hn,h1,h2⟩
    | _=>rw [hA] at h;cases h
end
theorem ag7 {ρ:List Addr} {H:L2.Hp} {kx:PV} {j:List Int} {v:L2.V} (h:T6 kx=some j) (r:RV ρ H kx v):∃b,v=.ref b/\H b=some (.tup ((j.map Sum.inl).map L2.kV)):=by
 cases kx with
 | tup l=>
   have h:M4 l=some j:=h
   cases r with
   | tup ha hv=>
     rw [Y4 h] at hv
     have:=aw7 hv
     refine⟨_,rfl,?_⟩
     rw [ha,this]
     congr 2
     simp [L2.kV]
 | _=>cases h
section
variable {X:L2.Cx} {cm:Nat->Addr}
theorem aC4 {o i value:Expr} {d y e:ED} {pos pos':Pos} (hu:X.A.units+1<cLine) (ho:L2.PE X o (EvE X.K cm d)) (hi:L2.PE X i (EvE X.K cm y)) (hv:L2.PE X value (EvE X.K cm e)) (hs:swapsWith value (some (.Subscript o i pos')) pos.line X.env=pure false:=by rfl) :
 L2.PS X (.Assign [.Subscript o i pos'] value pos) (EvS X.K cm (al6 d y e)):=
 Y1 (L2.aZ0 hu ho hi hv hs) λD σ H ⟨ρ,A,σp,f,A',rl,rs,ev,k⟩=>by
  obtain⟨w,A1,e1,ev1⟩:=B0 ev
  obtain⟨x,A2,e2,ev2⟩:=B0 ev1
  obtain⟨kx,A3,e3,ev3⟩:=B0 ev2
  refine⟨ρ,A,σp,w,A1,rl,rs,e1,λρ1 H1 v1 x1 rl1 rv1=>⟨ρ1,A1,σp,x,A2,rl1,rs.mono x1,e2,λρ2 H2 v2 x2 rl2 rv2=>⟨ρ2,A2,σp,kx,A3,rl2,(rs.mono x1).mono x2,e3,λρ3 H3 v3 x3 rl3 rv3=>?_⟩⟩⟩
  rcases hkj:T6 kx with _ | j <;> rw [hkj] at ev3
  ·cases x <;> cases ev3
  cases x with
  | ref n=>
    obtain⟨m,A4,e4,ev4⟩:=B0 ev3
    obtain⟨rfl,hA,a,kv,rfl,hn,hH,hp⟩:=R3 rl3 (rv2.mono x3) e4
    obtain⟨c,ev5⟩:=C5 ev4
    cases ev5
    obtain⟨b,rfl,hb⟩:=ag7 hkj rv3
    refine⟨a,_,rfl,L2.DPut.t hH hb (by rw [←hp.len];exact aQ9 c),?_⟩
    have ex:Ext ρ3 H3 ρ3 (L2.upd H3 a (.dT (L2.m6 kv (j.map Sum.inl) v1))):=Ext.put rl3 hn hA rfl
    have rl4:Rel X.K cm ρ3 (A4.set n (.dT (av3 m j w))) (L2.upd H3 a (.dT (L2.m6 kv (j.map Sum.inl) v1))):=
     rl3.put hn hA rfl rfl ⟨_,L2.D4,PT2.put ((((rv1.mono x2).mono x3)).mono ex) j (hp.mono ex)⟩
    exact k ρ3 _ (((x1.trans x2).trans x3).trans ex) rl4 σ ((((rs.mono x1).mono x2).mono x3).mono ex)
  | _=>cases ev3
theorem as0 {o i:Expr} {d y:ED} {pos:Pos} (hu:X.A.units+1<cLine) (ho:L2.PE X o (EvE X.K cm d)) (hi:L2.PE X i (EvE X.K cm y)) (hs:L2.bb5 i):L2.PE X (.Subscript o i pos) (EvE X.K cm (al7 d y)):=
 E3 (L2.aY9 hu ho hi hs) λσ H Q ⟨ρ,A,σp,v,A',rl,rs,ev,k⟩=>by
  obtain⟨x,A1,e1,ev1⟩:=B0 ev
  obtain⟨kx,A2,e2,ev2⟩:=B0 ev1
  refine⟨ρ,A,σp,x,A1,rl,rs,e1,λρ1 H1 v1 x1 rl1 rv1=>⟨ρ1,A1,σp,kx,A2,rl1,rs.mono x1,e2,λρ2 H2 v2 x2 rl2 rv2=>?_⟩⟩
  rcases hkj:T6 kx with _ | j <;> rw [hkj] at ev2
  ·cases x <;> cases ev2
  cases x with
  | ref n=>
    obtain⟨m,A3,e3,ev3⟩:=B0 ev2
    obtain⟨rfl,hA,a,kv,rfl,hn,hH,hp⟩:=R3 rl2 (rv1.mono x2) e3
    obtain⟨b,rfl,hb⟩:=ag7 hkj rv2
    rcases hp.val j with ⟨h1,h2⟩ | ⟨z,u,h1,h2,ru⟩
    ·rw [h1] at ev3;cases ev3
    ·rw [h1] at ev3
     cases ev3
     exact⟨a,u,rfl,by rw [←h2];exact L2.DGet.t hH hb,k ρ2 H2 _ (x1.trans x2) rl2 ru⟩
  | _=>cases ev2
theorem aC5 {pos:Pos}:L2.PE X (.Dict [] [] pos) (EvE X.K cm av4):=
 E3 L2.aP6 λσ H Q ⟨ρ,A,σp,v,A',rl,rs,ev,k⟩ p hp=>by
  cases ev
  have ex:Ext ρ H (ρ++[p]) (L2.upd H p (.dT [])):=Ext.new hp
  exact k (ρ++[p]) _ _ ex (rl.alloc hp ⟨_,L2.D4,⟨rfl,.nil⟩⟩ rfl) (.ref (by rw [←rl.len];simp))
theorem a34 {o e:Expr} {d y:ED} {apos cpos:Pos} (hu:X.A.units+1<cLine) (ho:L2.PE X o (EvE X.K cm d)) (he:L2.PE X e (EvE X.K cm y)) (m:L2.M1 X o "get" apos e cpos:=by exact⟨rfl,rfl,rfl,rfl⟩):L2.PE X (.Call (.Attribute o "get" apos) [e] [] cpos) (EvE X.K cm (aB2 d y)):=
 E3 (L2.aP7 hu ho he m) λσ H Q ⟨ρ,A,σp,v,A',rl,rs,ev,k⟩=>by
  obtain⟨x,A1,e1,ev1⟩:=B0 ev
  refine⟨ρ,A,σp,x,A1,rl,rs,e1,λρ1 H1 v1 x1 rl1 rv1=>?_⟩
  cases x with
  | ref n=>
    obtain⟨m0,A2,e2,ev2⟩:=B0 ev1
    obtain⟨rfl,hA,a,kv,rfl,hn,hH,hp⟩:=R3 rl1 rv1 e2
    refine⟨a,rfl,.inr ⟨kv,.inl hH⟩,?_⟩
    obtain⟨kx,A3,e3,ev3⟩:=B0 ev2
    refine⟨ρ1,_,σp,kx,A3,rl1,rs.mono x1,e3,λρ2 H2 v2 x2 rl2 rv2=>?_⟩
    rcases hkj:T6 kx with _ | j <;> rw [hkj] at ev3
    ·cases ev3
    obtain⟨m1,A5,e5,ev5⟩:=B0 ev3
    obtain⟨rfl,hA2,a2,kv2,e6,hn2,hH2,hp2⟩:=R3 rl2 (rv1.mono x2) e5
    cases e6
    cases ev5
    obtain⟨b,rfl,hb⟩:=ag7 hkj rv2
    refine⟨_,L2.DGet.t hH2 hb,?_⟩
    rcases hp2.val j with ⟨h1,h2⟩ | ⟨q,u,h1,h2,ru⟩
    ·rw [h1] at k;rw [h2];exact k ρ2 H2 _ (x1.trans x2) rl2 .non
    ·rw [h1] at k;rw [h2];exact k ρ2 H2 _ (x1.trans x2) rl2 ru
  | _=>cases ev1
end
end Ws
namespace Ws
open PySem PySem.W PyProof.Rows
end Ws
namespace Ws
open PySem PySem.W PyProof.Rows
end Ws
namespace Ws
open PySem PySem.W PyProof.Rows PySem.SeqAt
open MeetsSeq MeetsSeq2 MeetsSeq3 SeqRoads2
section
variable {X:L2.Cx} {cm:Nat->Addr} {pins:List (Addr×Obj)} {σ:L2.St} {H:L2.Hp} {s:Shared}
theorem ag8 (A:Around) (s:Shared) (i j:Int) (t u:Tok):EqAt A s (.int i t) (.int j u) (decide (i=j)):=
 av9 (ρ:=[]) (H:=λ_=>none) (x:=.int i) (y:=.int j) (.int i) (.int j) rfl rfl ⟨t,rfl⟩ ⟨u,rfl⟩
end
end Ws
namespace Ws
open PySem PySem.W PyProof.Rows
end Ws
namespace Ws
open PySem PySem.W PyProof.Rows
end Ws
namespace Ws
open PySem PySem.W PyProof.Rows
theorem aL8 {α β:Type} {m:Type->Type} [Monad m] [LawfulMonad m] (xs:Array α) (b:β) (f:α->β->m (ForInStep β)):forIn xs b f=forIn xs.toList b f:=by
 rw [Array.forIn_toList]
section
variable {prog:Program} {w:World} {A:Around} {E:Value->Shared->Prop} {s:Shared}
theorem be6 {nm:String} {d:Addr} {o:Obj} {es:Array DictEntry} {ep:Nat} {Q:Array DictEntry->Shared->Prop} (ho:s.heap.get? d=some o) (hd:o.data=.dict es ep)
 (hk:∀e∈es.toList,∃a,e.key=.ref a/\s.TypeIs (.ref a) "tuple") (hn:∀e∈es.toList,(es.filter (·.hash == e.hash)).size<=1) (h:Q es s):wpAny (model prog w) A (Builtin.Dict.entriesForEmpty nm d) Q E s:=by
 unfold Builtin.Dict.entriesForEmpty
 refine wpAny_bind (wpAny_dictEntries ho hd ?_)
 refine wpAny_bind ?_
 rw [aL8]
 refine wpAny_forIn_list _ (λrest _ s'=>s'=s/\∀e∈rest,e∈es.toList) _ ?_ ?_ _ _ ⟨rfl,λe he=>he⟩
 ·rintro e rest b s' ⟨rfl,hr⟩
  have he:=hr e List.mem_cons_self
  obtain⟨a,ea,hT⟩:=hk e he
  refine wpAny_bind ?_
  unfold Builtin.Dict.quietEq
  rw [ea]
  refine wpAny_bind (wpAny_specialOf hT PySem.F.slot_tuple_eq.lookup (wpAny_pure ?_))
  rw [if_pos (by decide),if_neg (by have:=hn e he;omega)]
  exact wpAny_pure ⟨rfl,λx hx=>hr x (List.mem_cons_of_mem _ hx)⟩
 ·rintro b s' ⟨rfl,_⟩
  exact wpAny_pure h
noncomputable abbrev TK (prog:Program) (w:World):HeapKind prog w (List L2.Key):=tupleKind (L2.J6 prog w)
theorem a35 {o:Addr} {xs:List (List L2.Key×Addr×Value)} {Q:Value->Shared->Prop} (hoS:(o == sysModules)=false) (ho:s.heap.DictOfH (TK prog w) o xs) (hsz:xs.length<=sizeLine)
 (hdis:∀x∈xs,(xs.filter λy=>(TK prog w).hash y.1 == (TK prog w).hash x.1).length<=1)
 (h:∀h',h'.DictOfH (TK prog w) s.heap.objs.size xs->Heap.SameBut s.heap.objs.size (s.heap.push { cls:=.type "dict",data:=.dict #[] }) h'->Q (.ref s.heap.objs.size) { s with heap:=h' }) :
 wpAny (model prog w) A (call (.type "dict") [.ref o]) Q E s:=by
 obtain⟨oo,es,ep,hoo,hc,hdat,hes,hk,hn⟩:=id ho
 have hesz:es.size=xs.length:=size_of_entries hes
 refine callType_codes (Q₁:=λobj s₁=>obj=.ref s.heap.objs.size/\s₁={ s with heap:=s.heap.push { cls:=.type "dict",data:=.dict #[] } }) PySem.F.kt_called_dict (PySem.F.kt_typeCall_dict_1 _) PySem.F.entry_dict_init (kt_code_dict_new _ ⟨rfl,rfl⟩) ?_
 rintro obj s₁ ⟨rfl,rfl⟩
 have hD0:(s.heap.push { cls:=.type "dict",data:=.dict #[] }).get? s.heap.objs.size=some { cls:=.type "dict",data:=.dict #[] }:=Heap.get?_push_size _ rfl
 have hT0:Shared.TypeIs { s with heap:=s.heap.push { cls:=.type "dict",data:=.dict #[] } } (.ref s.heap.objs.size) "dict":=⟨_,hD0,rfl⟩
 have hoo':(s.heap.push { cls:=.type "dict",data:=.dict #[] }).get? o=some oo:=Heap.get?_push_of_some _ hoo
 have hTo:Shared.TypeIs { s with heap:=s.heap.push { cls:=.type "dict",data:=.dict #[] } } (.ref o) "dict":=⟨_,hoo',hc.1⟩
 have hdo:s.heap.objs.size≠o:=λe=>absurd (Heap.lt_size hoo) (by rw [e];exact Nat.lt_irrefl _)
 refine⟨hT0,PySem.F.args_dict_init_2 _ _,?_⟩
 unfold Builtin.«dict.__init__»
 refine wpAny_bind ?_
 unfold Builtin.Dict.selfAndRest
 refine wpAny_bind (wpAny_notOrdered_dict hT0 ?_)
 show wpAny _ _ (pure (s.heap.objs.size,[Value.ref o])) _ _ _
 refine wpAny_pure ?_
 show wpAny _ _ (Builtin.Dict.updateFrom "dict.__init__" s.heap.objs.size (.ref o) [] .none) _ _ _
 unfold Builtin.Dict.updateFrom
 refine wpAny_bind (wpAny_typeOf hTo ?_)
 rw [if_neg (by decide)]
 refine wpAny_bind ?_
 unfold Builtin.Dict.merge
 refine wpAny_bind ?_
 unfold Builtin.Dict.readDirectly
 refine wpAny_bind (wpAny_isInstance hTo isSubtype_dict_dict ?_)
 simp only [Bool.not_true,Bool.false_eq_true,if_false]
 refine wpAny_bind (wpAny_specialOf hTo PySem.F.slot_dict_iter.lookup (wpAny_pure ?_))
 simp only [beq_self_eq_true,if_true]
 refine wpAny_bind (wpAny_pure ?_)
 unfold Builtin.Dict.mergeDict
 rw [if_neg (by simpa using hdo)]
 unfold Builtin.Dict.showsAll
 rw [if_neg (by rw [hoS];exact Bool.false_ne_true)]
 refine wpAny_bind (wpAny_pure ?_)
 refine wpAny_bind (wpAny_dictEntries hoo' hdat ?_)
 cases hxs:xs with
 | nil=>
   subst hxs
   have hes0:es=#[]:=Array.toList_inj.mp (by rw [hes];rfl)
   subst hes0
   dsimp only
   rw [if_neg (by simp)]
   refine wpAny_bind (wpAny_dictEpoch hoo' hdat ?_)
   refine wpAny_bind (wpAny_dictEntries hoo' hdat ?_)
   refine wpAny_bind ?_
   rw [Std.Legacy.Range.forIn_eq_forIn_range']
   refine wpAny_pure ?_
   refine wpAny_pure ?_
   show wpAny _ _ (Builtin.Dict.addKeywords s.heap.objs.size []>>=_) _ _ _
   refine wpAny_bind (wpAny_pure (wpAny_pure ⟨rfl,h _ ?_ (Heap.SameBut.refl _ _)⟩))
   exact⟨_,_,_,hD0,⟨rfl,rfl,rfl⟩,rfl,rfl,λx hx=>by simp at hx,List.nodup_nil⟩
 | cons x0 xr=>
   have hx0:x0∈xs:=by rw [hxs];exact List.mem_cons_self
   have hkeys:∀e∈es.toList,∃a,e.key=.ref a/\Shared.TypeIs { s with heap:=s.heap.push { cls:=.type "dict",data:=.dict #[] } } (.ref a) "tuple":=by
    intro e he
    rw [hes] at he
    obtain⟨x,hx,rfl⟩:=List.mem_map.mp he
    obtain⟨ot,its,n,h1,h2,_⟩:=hk x hx
    exact⟨x.2.1,rfl,ot,Heap.get?_push_of_some _ h1,h2⟩
   have hfew:(decide (es.size<=8)&&es.all λe=>(keyPart e.key).isSome)=false:=by
    rw [Bool.and_eq_false_iff]
    refine .inr ?_
    rw [←Array.all_toList,List.all_eq_false]
    refine⟨entryOfKey (TK prog w) x0,by rw [hes];exact List.mem_map.mpr ⟨x0,hx0,rfl⟩,?_⟩
    simp [entryOfKey,keyPart]
   rw [hfew]
   dsimp only
   rw [if_pos (by decide)]
   refine wpAny_bind (wpAny_dictEntries hD0 rfl ?_)
   rw [if_pos (by decide)]
   refine wpAny_bind (be6 hoo' hdat hkeys (λe he=>?_) ?_)
   ·have he':=he
    rw [hes] at he'
    obtain⟨x,hx,rfl⟩:=List.mem_map.mp he'
    have:=hdis x hx
    rw [←Array.length_toList,Array.toList_filter,hes,List.filter_map,List.length_map]
    exact this
   ·have hne:es.isEmpty=false:=by
     cases hh:es.isEmpty with
     | false=>rfl
     | true=>
       have:es.size=0:=by simpa using hh
       rw [hesz,hxs] at this;simp at this
    rw [hne,if_pos (by decide)]
    refine wpAny_bind (wpAny_updateDictKeysTo hD0 rfl ?_ (by rw [hesz];omega))
    refine wpAny_pure ?_
    show wpAny _ _ (Builtin.Dict.addKeywords s.heap.objs.size []>>=_) _ _ _
    refine wpAny_bind (wpAny_pure (wpAny_pure ⟨rfl,h _ ?_ (Heap.SameBut.update ..)⟩))
    have hc0:Obj.ExactDict { cls:=.type "dict",data:=.dict #[] }:=⟨rfl,rfl,rfl⟩
    refine⟨_,es,_,Heap.get?_update_self _ hD0 (Obj.isFreed_of_dict (Obj.data_mapDictKeys rfl _)),hc0.mapDictKeys _,Obj.data_mapDictKeys rfl _,hes,λx hx=>?_,hn⟩
    refine (TK prog w).keeps (?_:(TK prog w).is (s.heap.push { cls:=.type "dict",data:=.dict #[] }) x.1 x.2.1) hD0 rfl (Heap.SameBut.update ..)
    obtain⟨ot,its,n,h1,h2⟩:=hk x hx
    exact⟨ot,its,n,Heap.get?_push_of_some _ h1,h2⟩
end
end Ws
namespace Ws
open PySem PySem.W PyProof.Rows
noncomputable def hashK (k:List Int):Int:=reduceHash (Builtin.Tuple.tupleHashOf (k.map hashInt))
theorem ag9 (P:Program) (w:World) (k:List Int):(TK P w).hash (k.map Sum.inl)=hashK k:=by
 show reduceHash (Builtin.Tuple.tupleHashOf ((k.map Sum.inl).map (L2.bh0 w)))=_
 rw [List.map_map];rfl
theorem ax4:(small.map hashK).Nodup:=by decide +kernel
theorem aT5 {a b:List Int} (ha:a∈small) (hb:b∈small) (h:hashK a=hashK b):a=b:=by
 obtain⟨i,hi,rfl⟩:=List.mem_iff_getElem.mp ha
 obtain⟨j,hj,rfl⟩:=List.mem_iff_getElem.mp hb
 have:=(List.getElem_inj (i:=i) (j:=j) (h₀:=by simpa using hi) (h₁:=by simpa using hj) ax4).mp (by simpa using h)
 subst this;rfl
theorem aT6 {P:Program} {w:World} {ks:List (List Int)} (hs:∀k∈ks,k∈small):∀{xs:List (List L2.Key×Addr×Value)},xs.map (·.1)=ks.map (List.map Sum.inl)->ks.Nodup->∀x∈xs,(xs.filter λy=>(TK P w).hash y.1 == (TK P w).hash x.1).length<=1:=by
 intro xs he nd x hx
 have nd2:(xs.map λy=>(TK P w).hash y.1).Nodup:=by
  have e:(xs.map λy=>(TK P w).hash y.1)=ks.map hashK:=by
   have:(xs.map λy=>(TK P w).hash y.1)=(xs.map (·.1)).map (TK P w).hash:=by rw [List.map_map];rfl
   rw [this,he,List.map_map]
   exact List.map_congr_left λk _=>ag9 P w k
  rw [e]
  have key:∀l:List (List Int),(∀k∈l,k∈small)->l.Nodup->(l.map hashK).Nodup:=by
   intro l
   induction l with
   | nil=>intro _ _;simp
   | cons a l ih=>
     intro h n
     rw [List.nodup_cons] at n
     rw [List.map_cons,List.nodup_cons]
     refine⟨λz=>?_,ih (λk hk=>h k (List.mem_cons_of_mem _ hk)) n.2⟩
     obtain⟨b,hb,e⟩:=List.mem_map.mp z
     exact n.1 (aT5 (h b (List.mem_cons_of_mem _ hb)) (h a List.mem_cons_self) e ▸ hb)
  exact key ks hs nd
 have gen:∀(l:List (List L2.Key×Addr×Value)) (v:Int),(l.map λy=>(TK P w).hash y.1).Nodup->(l.filter λy=>(TK P w).hash y.1 == v).length<=1:=by
  intro l v
  induction l with
  | nil=>intro _;simp
  | cons a l ih=>
    intro n
    rw [List.map_cons,List.nodup_cons] at n
    by_cases e:(TK P w).hash a.1=v
    ·have:l.filter (λy=>(TK P w).hash y.1 == v)=[]:=by
      rw [List.filter_eq_nil_iff]
      intro y hy z
      exact n.1 (List.mem_map.mpr ⟨y,hy,by rw [eq_of_beq z,e]⟩)
     rw [List.filter_cons_of_pos (by simpa using e),this];simp
    ·rw [List.filter_cons_of_neg (by simpa using e)]
     exact ih n.2
 exact gen xs _ nd2
end Ws
namespace Ws
open PySem PySem.W PyProof.Rows
theorem a36 {H:L2.Hp} {kvs:List (List L2.Key×L2.V)} {xs:List (List L2.Key×Addr×Value)} (r:L2.KT H kvs xs):kvs.map (·.1)=xs.map (·.1):=by
 unfold L2.KT at r
 induction r with
 | nil=>rfl
 | cons h _ ih=>rw [List.map_cons,List.map_cons,ih,h.1]
section
variable {X:L2.Cx} {cm:Nat->Addr}
theorem a37:L2.CallR X (.type "dict") (λxs H Q=>∃(a:Addr) (kvs:List (List L2.Key×L2.V)) (ks:List (List Int)),xs=[.ref a]/\H a=some (.dT kvs)/\kvs.map (·.1)=ks.map (List.map Sum.inl)/\ks.Nodup/\(∀k∈ks,k∈small)/\∀l,H l=none->Q (.ref l) (L2.upd H l (.dT kvs))):=by
 intro pins s σ H xs us Q I r h
 obtain⟨a,kvs,ks,rfl,hH,hks,nd,hsm,q⟩:=h
 obtain⟨u,rfl,rx⟩:=L2.R8 r
 cases rx
 obtain⟨z,hd,xs,rel,dd⟩:=L2.au6 I.hok hH
 have hl:kvs.length=xs.length:=Paired.length rel
 refine a35 hd dd (by rw [←hl];exact z) (aT6 hsm (by rw [←a36 rel];exact hks) nd) λh' dd' hs=>?_
 obtain⟨qo,es,ep,hq,h2,h3,h4,_,h5⟩:=dd'
 have hfr:=I.hok.fresh (Nat.le_refl s.heap.objs.size)
 refine⟨.ref s.heap.objs.size,_,I.laid (t':=s.toks) (a:=s.heap.objs.size) (o:=.dT kvs) (λb o e2=>(hs.2 b (Nat.ne_of_lt (Heap.lt_size e2))).trans (Heap.get?_push_of_some _ e2)) (Nat.le_refl _) ⟨z,beq_eq_false_iff_ne.mpr (Ne.symm (Nat.ne_of_lt I.big)),xs,L2.KT.keeps rel (λc ys ec=>?_),qo,es,ep,hq,h2,h3,h4,h5⟩,rfl,q _ hfr⟩
 rw [L2.D6 (λe=>by rw [e,hfr] at ec;cases ec)]
 exact ec
theorem aH4 {e:Expr} {d:ED} {p pos:Pos} (he:L2.PE X e (EvE X.K cm d)) (hg:L2.Gl X "dict") (hm:X.mg "dict" = none) (hs:starEach [e] X.env=(false,eval e X.env)::starEach [] X.env:=by exact G0 rfl):L2.PE X (.Call (.Name "dict" p) [e] [] pos) (EvE X.K cm (aq9 d)):=
 E3 (L2.S5 a37 hg hm (show bootBuiltins "dict" = some (.type "dict") from by rfl) (r_cons he r_nil hs) (he:=hs)) λσ H Q h=>U9 (f:=λx=>match x with | .ref n=>bnd (R1 n) λm=>D2 ((m.map (·.1)).Nodup/\∀p∈m,p.1∈small) (alloc (.dT m)) | _=>stuck) (λ_=>rfl) (λρ A H x z A' v Q rl rx ev k=>by
  cases x with
  | ref n=>
    obtain⟨m,A1,e1,ev1⟩:=B0 ev
    obtain⟨rfl,hA,a,kv,rfl,hn,hH,hp⟩:=R3 rl rx e1
    obtain⟨c,ev2⟩:=C5 ev1
    cases ev2
    refine⟨a,kv,m.map (·.1),rfl,hH,by rw [hp.keys,List.map_map];rfl,c.1,λk hk=>?_,λD hD=>?_⟩
    ·obtain⟨p,hp,rfl⟩:=List.mem_map.mp hk
     exact c.2 p hp
    ·have ex:Ext ρ H (ρ++[D]) (L2.upd H D (.dT kv)):=Ext.new hD
     exact k (ρ++[D]) _ _ ex (rl.alloc hD ⟨_,L2.D4,hp.mono ex⟩ rfl) (.ref (by rw [←rl.len];simp))
  | _=>cases ev) h
end
end Ws
namespace Ws
open PySem PySem.W PyProof.Rows
end Ws
namespace Ws
open PySem PySem.W PyProof.Rows
end Ws
namespace Ws
open PySem PySem.W PyProof.Rows
noncomputable def DAt (h:Heap) (d:Addr) (es:Array DictEntry) (ep:Nat):Prop:=∃o,h.get? d=some o/\o.ExactDict/\o.data=.dict es ep
theorem DAt.at {h h':Heap} {d:Addr} {es:Array DictEntry} {ep:Nat} (x:DAt h d es ep) (k:∀o,h.get? d=some o->h'.get? d=some o):DAt h' d es ep:=let ⟨o,ho,r⟩:=x;⟨o,k o ho,r⟩
end Ws
namespace Ws
open PySem PySem.W PyProof.Rows
end Ws
namespace Ws
open PySem PySem.W PyProof.Rows PySem.SeqAt
section
variable {prog:Program} {w:World} {K:Type} [DecidableEq K] {knd:HeapKind prog w K} {A:Around} {E:Value->Shared->Prop} {s:Shared}
noncomputable def V9 (num:Value->Int) (ys:List (K×Addr×Value)) (x:K×Addr×Value):Bool:=match atKey ys x.1 with
 | some p=>decide (num x.2.2=num p.2)
 | none=>false
theorem aC6 {nm:String} {a b:Addr} {xs ys:List (K×Addr×Value)} {num:Value->Int} {Q:Bool->Shared->Prop} (hda:(a == sysModules)=false) (hdb:(b == sysModules)=false) (ha:s.heap.DictOfH knd a xs) (hb:s.heap.DictOfH knd b ys) (hu:knd.room A)
 (hx:∀x∈xs,∃t,x.2.2=.int (num x.2.2) t) (hy:∀y∈ys,∃t,y.2.2=.int (num y.2.2) t)
 (h:Q (xs.length == ys.length&&xs.all (V9 num ys)) s):wpAny (model prog w) A (Builtin.Dict.samePairs nm a b) Q E s:=by
 obtain⟨oa,ea,epa,hoa,hca,hdaa,hea,hisa,hna⟩:=id ha
 obtain⟨ob,eb,epb,hob,hcb,hdbb,heb,hisb,hnb⟩:=id hb
 have hza:ea.size=xs.length:=size_of_entries hea
 have hzb:eb.size=ys.length:=size_of_entries heb
 unfold Builtin.Dict.samePairs Builtin.Dict.showsAll
 rw [if_neg (by rw [hda];exact Bool.false_ne_true),if_neg (by rw [hdb];exact Bool.false_ne_true)]
 refine wpAny_bind (wpAny_pure (wpAny_bind (wpAny_pure ?_)))
 refine wpAny_bind (wpAny_dictEntries hoa hdaa (wpAny_bind (wpAny_dictEntries hob hdbb ?_)))
 by_cases hl:xs.length=ys.length
 ·rw [if_neg (by rw [hza,hzb,hl];simp)]
  have hl':(xs.length == ys.length)=true:=by simpa using hl
  rw [hl',Bool.true_and] at h
  refine wpAny_bind (wpAny_dictEpoch hoa hdaa ?_)
  refine wpAny_bind ?_
  rw [Std.Legacy.Range.forIn_eq_forIn_range']
  simp only [Std.Legacy.Range.size,Nat.sub_zero,Nat.add_sub_cancel,Nat.div_one]
  refine wpAny_forIn_list _ (λrest r s'=>r.1=none/\s'=s/\∃i,rest=List.range' i (ea.size - i)/\i<=ea.size/\Q ((xs.drop i).all (V9 num ys)) s) _ ?_ ?_ _ _ ⟨rfl,rfl,0,by simp,Nat.zero_le _,by simpa using h⟩
  ·rintro j rest r s' ⟨hr,rfl,i,hrest,hi,hq⟩
   have hlt:i<ea.size:=by
    rcases Nat.lt_or_ge i ea.size with z | z
    ·exact z
    ·rw [Nat.sub_eq_zero_of_le z] at hrest;simp at hrest
   obtain⟨rfl,hrest2⟩:j=i/\rest=List.range' (i+1) (ea.size - (i+1)):=by
    rw [show ea.size - i=(ea.size - (i+1))+1 by omega,List.range'_succ] at hrest
    injection hrest with h1 h2
    exact⟨h1,h2⟩
   have hlx:j<xs.length:=by rw [←hza];exact hlt
   have hxm:xs[j]∈xs:=List.getElem_mem hlx
   have hdr:xs.drop j=xs[j]::xs.drop (j+1):=List.drop_eq_getElem_cons hlx
   rw [hdr,List.all_cons] at hq
   refine wpAny_bind (wpAny_dictEntries hoa hdaa ?_)
   rw [entry_at hea j,List.getElem?_eq_getElem hlx]
   show wpAny _ _ (holding _ (dictFind b (.ref xs[j].2.1) (knd.hash xs[j].1)>>=_)>>=_) _ _ _
   refine wpAny_bind (wpAny_holding (wpAny_bind (wpAny_dictFind_heap hu (hisa _ hxm) hob hdbb heb hisb hnb (λhno=>?_) λk p hk=>?_)))
   ·have e0:V9 num ys xs[j]=false:=by unfold V9;rw [atKey_none_of_get hno]
    rw [e0,Bool.false_and] at hq
    refine wpAny_pure ?_
    rw [if_pos (by decide)]
    exact wpAny_pure (wpAny_pure hq)
   ·have hat:atKey ys xs[j].1=some p:=atKey_of_get hnb hk
    have e0:V9 num ys xs[j]=decide (num xs[j].2.2=num p.2):=by unfold V9;rw [hat]
    refine wpAny_bind (wpAny_dictEntries hob hdbb ?_)
    rw [entry_at heb k,hk]
    obtain⟨t,ht⟩:=hx _ hxm
    obtain⟨u,hu'⟩:=hy _ (List.mem_of_getElem? hk)
    show wpAny _ _ (holding [p.2] (eqBool xs[j].2.2 p.2)) _ _ _
    refine wpAny_holding ?_
    have hu2:p.2=.int (num p.2) u:=hu'
    have key:=ag8 A s' (num xs[j].2.2) (num p.2) t u
    rw [←ht,←hu2] at key
    refine key _ _ _ _ ?_
    rw [e0] at hq
    cases hd:decide (num xs[j].2.2=num p.2) with
    | false=>
      rw [hd,Bool.false_and] at hq
      rw [if_pos (by decide)]
      exact wpAny_pure (wpAny_pure hq)
    | true=>
      rw [hd,Bool.true_and] at hq
      rw [if_neg (by decide)]
      refine wpAny_bind (wpAny_dictEpoch hoa hdaa ?_)
      rw [if_neg (by simp)]
      exact wpAny_pure ⟨rfl,rfl,j+1,hrest2,hlt,hq⟩
  ·rintro⟨r1,r2⟩ s' ⟨hr,rfl,i,hrest,hi,hq⟩
   simp only at hr
   subst hr
   have hge:ea.size<=i:=by
    rcases Nat.lt_or_ge i ea.size with z | z
    ·rw [show ea.size - i=(ea.size - (i+1))+1 by omega,List.range'_succ] at hrest;cases hrest
    ·exact z
   rw [List.drop_of_length_le (by rw [←hza];exact hge)] at hq
   exact wpAny_pure hq
 ·rw [if_pos (by rw [hza,hzb];simpa using hl)]
  have hl':(xs.length == ys.length)=false:=by simpa using hl
  rw [hl',Bool.false_and] at h
  exact wpAny_bind (wpAny_rule (wpAny_pure h))
end
end Ws
namespace Ws
open PySem PySem.W PyProof.Rows PySem.SeqAt
noncomputable def ac8 (xs:List (List L2.Key×Addr×Value)):Prop:=∀x∈xs,∃k:List Int,x.1=k.map Sum.inl
theorem aL9 {P:Program} {W:World} (prog:Program) (w:World):∀{ks:List L2.Key} {vs:List Value},ItemsAre (L2.J6 P W) ks vs->ItemsAre (L2.J6 prog w) ks vs:=by
 intro ks vs h
 induction h with
 | nil=>exact .nil
 | cons h1 _ ih=>exact .cons h1 ih
theorem aT7 {P:Program} {W:World} {h:Heap} {a:Addr} {xs:List (List L2.Key×Addr×Value)} (hd:h.DictOfH (TK P W) a xs) (hi:ac8 xs) (prog:Program) (w:World):h.DictOfH (TK prog w) a xs:=by
 obtain⟨o,es,ep,ho,hc,hdat,hes,his,hn⟩:=hd
 refine⟨o,es,ep,ho,hc,hdat,?_,λx hx=>(let ⟨o,items,n,h1,h2,h3,h4⟩:=his x hx;⟨o,items,n,h1,h2,h3,aL9 prog w h4⟩),hn⟩
 rw [hes]
 refine List.map_congr_left λx hx=>?_
 obtain⟨k,hk⟩:=hi x hx
 unfold entryOfKey
 rw [hk,ag9,ag9]
end Ws
namespace Ws
open PySem PySem.W PyProof.Rows PySem.SeqAt
noncomputable def aT8:Value->Int
 | .int n _=>n
 | _=>0
theorem aa0 {ρ:List Addr} {H:L2.Hp} {ys:List (List L2.Key×Addr×Value)} {m':List (List Int×PV)} {kv':List (List L2.Key×L2.V)} (hp':PT2 ρ H m' kv') (rel':L2.KT H kv' ys) (im':t3 m') :
 ∀{m:List (List Int×PV)} {kv:List (List L2.Key×L2.V)} {xs:List (List L2.Key×Addr×Value)},PT2 ρ H m kv->L2.KT H kv xs->t3 m->
  (xs.all (V9 aT8 ys))=(m.all λp=>match N8 m' p.1 with | some v=>eqv p.2 v | none=>false)/\(∀x∈xs,∃t,x.2.2=.int (aT8 x.2.2) t)/\ac8 xs
 | [],kv,xs,hp,rel,_=>by
   obtain rfl:=hp.nil_inv
   cases rel
   exact⟨rfl,λx hx=>by simp at hx,λx hx=>by simp at hx⟩
 | p::r,kv,xs,hp,rel,im=>by
   obtain⟨w,kvr,rfl,hw,t⟩:=hp.cons_inv
   have hI:=im p List.mem_cons_self
   obtain⟨i,pv⟩:=p
   cases pv with
   | int n=>
     cases hw
     cases rel with
     | @cons _ x _ xr h1 tr=>
       obtain⟨g1,g2,g3⟩:=h1
       obtain⟨tk,ev⟩:=(show ∃t,x.2.2=Value.int n t from g3)
       have ih:=aa0 hp' rel' im' t tr λq hq=>im q (List.mem_cons_of_mem _ hq)
       have g1':x.1=i.map Sum.inl:=g1.symm
       have hnx:aT8 x.2.2=n:=by rw [ev];rfl
       refine⟨?_,λy hy=>?_,λy hy=>?_⟩
       ·rw [List.all_cons,List.all_cons,ih.1]
        congr 1
        unfold V9
        have hv:=rel'.val (i.map Sum.inl)
        rw [g1',hnx]
        dsimp only
        rcases PT2.val i hp' with ⟨a1,a2⟩ | ⟨z,u,a1,a2,a3⟩
        ·rw [a1]
         rw [a2] at hv
         cases ha:atKey ys (i.map Sum.inl) with
         | none=>rfl
         | some q=>rw [ha] at hv;exact hv.elim
        ·rw [a1]
         rw [a2] at hv
         cases ha:atKey ys (i.map Sum.inl) with
         | none=>rw [ha] at hv;exact hv.elim
         | some q=>
           rw [ha] at hv
           have hz:isI z=true:=by
            have key:∀l:List (List Int×PV),(∀q∈l,isI q.2=true)->∀z,N8 l i=some z->isI z=true:=by
             intro l
             induction l with
             | nil=>intro _ z e;cases e
             | cons c l ih=>
               intro hl z e
               unfold N8 at e
               by_cases hc:c.1=i
               ·rw [if_pos hc] at e;cases e;exact hl c List.mem_cons_self
               ·rw [if_neg hc] at e;exact ih (λq hq=>hl q (List.mem_cons_of_mem _ hq)) z e
            exact key m' im' z a1
           cases z with
           | int n'=>
             cases a3
             obtain⟨tk',ev'⟩:=(show ∃t,q.2=Value.int n' t from hv)
             show decide (n=aT8 q.2)=eqv (.int n) (.int n')
             rw [ev'];rfl
           | _=>cases hz
       ·rcases List.mem_cons.mp hy with e | e
        ·subst e;exact⟨tk,by rw [hnx];exact ev⟩
        ·exact ih.2.1 y e
       ·rcases List.mem_cons.mp hy with e | e
        ·subst e;exact⟨i,g1'⟩
        ·exact ih.2.2 y e
   | _=>cases hI
end Ws
namespace Ws
open PySem PySem.W PyProof.Rows
end Ws
namespace Ws
open PySem PySem.W PyProof.Rows PySem.SeqAt
end Ws
namespace Ws
open PySem PySem.W PyProof.Rows
section
variable {X:L2.Cx} {cm:Nat->Addr}
theorem W6 {x:Str} {j pos}:L2.PE X (.Constant (.str x) j pos) (EvE X.K cm (eK (.str x))):=r_k L2.a82 λ_ _=>.str x
theorem a38 (K:PySem.W.Frag) (a:String) (ha:a∈["NoneType","bool","int","str","list","tuple"]):PySem.W.kitOne K (.type a) (.type "str")=some (a == "str"):=by
 simp only [List.mem_cons,List.not_mem_nil,or_false] at ha
 rcases ha with rfl | rfl | rfl | rfl | rfl | rfl <;> with_unfolding_all rfl
theorem aC7:L2.CallR X (.builtin "isinstance") (λvs H Q=>∃v ty,vs=[v,.ty "str"]/\ty∈["NoneType","bool","int","str","list","tuple"]/\L2.o7 X.K H v (.type ty)/\Q (.bl (ty == "str")) H):=by
 intro pins s σ H xs us Q I r h
 obtain⟨v,ty,rfl,hm,hty,q⟩:=h
 obtain⟨u,w,rfl,ru,rw'⟩:=L2.au1 r
 cases rw'
 exact L2.ak7 I ru hty (a38 X.K ty hm) λtk=>⟨.bl _,H,I.tok tk,rfl,q⟩
theorem a39 {e:Expr} {d:ED} {p p2 pos:Pos} (he:L2.PE X e (EvE X.K cm d)) (hg:L2.Gl X "isinstance") (hm:X.mg "isinstance" = none) (hgt:L2.Gl X "str") (hmt:X.mg "str" = none)
 (hs:starEach [e,.Name "str" p2] X.env=(false,eval e X.env)::starEach [.Name "str" p2] X.env:=by exact G0 rfl) (hs2:starEach [Expr.Name "str" p2] X.env=(false,eval (.Name "str" p2) X.env)::starEach [] X.env:=by exact G0 rfl) (hpl:(backTo pos (starEach [Expr.Name "str" p2] X.env)).any (·.1)=false:=by rfl) :
 L2.PE X (.Call (.Name "isinstance" p) [e,.Name "str" p2] [] pos) (EvE X.K cm (aB3 d)):=
 E3 (L2.S7 aC7 hg hm PyProof.Rows.boot_isinstance (L2.X3 he (L2.X3 (L2.aE2 (v:=.ty "str") hgt hmt (show bootBuiltins "str" = some (.type "str") from by rfl) rfl (by decide) (by decide)) L2.ap4 hs2) hs) (he:=hs) (hpl:=hpl)) λσ H Q ⟨ρ,A,σp,v,A',rl,rs,ev,k⟩=>by
  obtain⟨x,A1,e1,ev1⟩:=B0 ev
  obtain⟨b,A2,e2,ev2⟩:=B0 ev1
  cases ev2
  refine⟨ρ,A,σp,x,A1,rl,rs,e1,λρ1 H1 v1 x1 rl1 rv1=>?_⟩
  cases x with
  | non=>cases rv1;cases e2;exact⟨_,"NoneType",rfl,by simp,.non,k ρ1 H1 _ x1 rl1 (.bl _)⟩
  | bl c=>cases rv1;cases e2;exact⟨_,"bool",rfl,by simp,.bl c,k ρ1 H1 _ x1 rl1 (.bl _)⟩
  | int i=>cases rv1;cases e2;exact⟨_,"int",rfl,by simp,.int i,k ρ1 H1 _ x1 rl1 (.bl _)⟩
  | str z=>cases rv1;cases e2;exact⟨_,"str",rfl,by simp,.str z,k ρ1 H1 _ x1 rl1 (.bl _)⟩
  | tup l=>
    cases rv1 with
    | tup ha r=>cases e2;exact⟨_,"tuple",rfl,by simp,.tup ha,k ρ1 H1 _ x1 rl1 (.bl _)⟩
  | ref n=>
    obtain⟨l,A3,e3,e4⟩:=B0 e2
    obtain⟨rfl,hA,a,xs,rfl,hn,hH,r⟩:=V3 rl1 rv1 e3
    cases e4
    exact⟨_,"list",rfl,by simp,.lst hH,k ρ1 H1 _ x1 rl1 (.bl _)⟩
end
end Ws
namespace Ws
open PySem PySem.W PyProof.Rows
end Ws
namespace Ws
open PySem PySem.W PyProof.Rows
end Ws
namespace Ws
open PySem PySem.W PyProof.Rows
theorem aa1 {J:It} {g:GD} {b:SD} (hb:n5 b):∀(f i:Nat) (σ:PSt) (A:PHp) (v:PV) (A':PHp),turns J g b f i σ A≠.ok (.rt v) A'
 | 0,i,σ,A,v,A',h=>by rw [ae2] at h;cases h
 | f+1,i,σ,A,v,A',h=>by
   rw [Q4] at h
   obtain⟨x,A1,e1,h⟩:=B0 h
   cases x with
   | none=>cases h
   | some y=>
     obtain⟨σ1,A2,e2,h⟩:=B0 h
     obtain⟨o,A3,e3,h⟩:=B0 h
     cases o with
     | nx σ2=>exact aa1 hb f (i+1) σ2 A3 v A' h
     | ct σ2=>exact aa1 hb f (i+1) σ2 A3 v A' h
     | bk σ2=>cases h
     | rt z=>exact hb _ _ _ _ e3
theorem a40 {it:ID} {g:GD} {b:SD} (hb:n5 b):n5 (X7 it g b):=λσ A v A' h=>by
 obtain⟨J,A1,e1,h⟩:=B0 h
 obtain⟨n,A2,e2,h⟩:=B0 h
 exact aa1 hb _ _ _ _ _ _ h
theorem aT9 {d y e:ED}:n5 (al6 d y e):=λσ A v A' h=>by
 obtain⟨x1,A1,e1,h⟩:=B0 h
 obtain⟨x2,A2,e2,h⟩:=B0 h
 obtain⟨x3,A3,e3,h⟩:=B0 h
 cases x2 with
 | ref n=>
   cases hk:T6 x3 with
   | none=>rw [hk] at h;cases h
   | some i=>
     rw [hk] at h
     obtain⟨m,A4,e4,h⟩:=B0 h
     obtain⟨_,h⟩:=C5 h
     cases h
 | _=>cases h
end Ws
namespace Ws
open PySem PySem.W PyProof.Rows
section
variable {prog:Program} {w:World} {A:Around} {E:Value->Shared->Prop} {s:Shared} {d:Addr} {es:Array DictEntry} {ep:Nat}
theorem DAt.type (hm:DAt s.heap d es ep):s.TypeIs (.ref d) "dict":=let ⟨o,ho,hc,_⟩:=hm;⟨o,ho,hc.1⟩
theorem aM0 {Q:Value->Shared->Prop} (lo:(d == sysModules)=false) (hm:DAt s.heap d es ep)
 (hQ:Q (.ref s.heap.objs.size) { s with heap:=s.heap.push { cls:=.type "dict_keyiterator",data:=.fields #[.ref d,.int 0 0,.int es.size 0,.int ep 0] } }):wpAny (model prog w) A (pyIter (.ref d)) Q E s:=by
 have hT:=hm.type
 obtain⟨o,ho,hc,hdat⟩:=id hm
 refine wpAny_pyIter_slot hT PySem.F.slot_dict_iter (wpAny_call_entry PySem.F.slot_dict_iter hT PySem.F.entry_dict_iter ?_ (PySem.F.args_dict_iter_1 _))
 unfold Builtin.«dict.__iter__»;refine wpAny_bind ?_;unfold Builtin.Dict.dictSlotNone
 refine wpAny_bind (wpAny_notOrdered_dict hT (show wpAny _ _ (pure (Value.ref d)) _ _ s from wpAny_pure ?_))
 refine (show wpAny _ _ (Builtin.Dict.showsAll d>>=_) _ _ s from ?_);unfold Builtin.Dict.showsAll
 rw [if_neg (by rw [lo];simp)]
 refine wpAny_bind (wpAny_pure (wpAny_bind (wpAny_dictEntries ho hdat (wpAny_bind (wpAny_dictEpoch ho hdat ?_)))))
 refine wpAny_bind (wpAny_newObj_type (wpAny_pure ⟨_,rfl,"dict_keyiterator",_,⟨_,Heap.get?_push_size _ rfl,rfl⟩,PySem.F.slot_dict_keyiterator_next.lookup,?_⟩))
 simpa [rawInt] using hQ
theorem aM1 {it:Addr} {i:Nat} {Q:Option Value->Shared->Prop} (hit:s.heap.IsKeyIter it d i es.size ep) (hm:DAt s.heap d es ep) (hlt:i<es.size)
 (hQ:∀h',h'.IsKeyIter it d (i+1) es.size ep->Heap.SameBut it s.heap h'->Q (some es[i].key) { s with heap:=h' }):wpAny (model prog w) A (pyNext (.ref it)) Q E s:=by
 obtain⟨o,ho,hc,hd⟩:=id hit
 obtain⟨od,hod,hcd,hdd⟩:=id hm
 have own:Builtin.Dict_items.ownsTuple "dict_keyiterator" = false:=by decide
 unfold pyNext
 refine wpAny_bind (wpAny_attempt (wpAny_callSpecial?_slot (name:=Str.ofString "__next__") hit.typeIs PySem.F.slot_dict_keyiterator_next
  (wpAny_call_entry PySem.F.slot_dict_keyiterator_next hit.typeIs PySem.F.entry_dict_keyiterator_next ?_ (PySem.F.args_dict_keyiterator_next_1 _))))
 refine wpAny_bind (wpAny_pure (wpAny_bind (wpAny_bind ?_)))
 first | refine wpAny_bind (wpAny_typeNameOfWhole_keyiter hit.typeIs (wpAny_pure ?_)) | refine wpAny_bind (wpAny_typeNameOf_keyiter hit.typeIs (wpAny_pure ?_))
 refine wpAny_bind (wpAny_fieldsOf ho hd ?_)
 simp only [own,Bool.false_eq_true,if_false]
 show wpAny _ _ (if (Value.ref d == Value.none)=true then _ else _) _ _ s
 rw [if_neg (show ¬((Value.ref d == Value.none)=true) from Bool.false_ne_true)]
 refine wpAny_bind (wpAny_pure (wpAny_bind (wpAny_dictEntries hod hdd ?_)))
 rw [if_neg (by simp)]
 refine wpAny_bind (wpAny_pure (wpAny_bind (wpAny_dictEpoch hod hdd ?_)))
 rw [if_neg (by simp)]
 refine wpAny_pure ?_
 simp only [show ¬((i:Int)<0) from by omega,if_false,Int.toNat_natCast,Array.getElem?_eq_getElem hlt]
 refine wpAny_bind ?_
 first | refine wpAny_bind (wpAny_typeNameOfWhole_keyiter hit.typeIs (wpAny_pure ?_)) | refine wpAny_bind (wpAny_typeNameOf_keyiter hit.typeIs (wpAny_pure ?_))
 refine wpAny_bind (wpAny_isOneOf_keyiter hit.typeIs ?_)
 show wpAny _ _ (setField (.ref it) 1 (rawInt ((i:Int)+1))>>=_) _ _ s
 refine wpAny_bind (wpAny_setField ho hd (by simp) ?_)
 have hit':(s.heap.update it (Obj.mapFields (·.setIfInBounds 1 (rawInt ((i:Int)+1))))).IsKeyIter it d (i+1) es.size ep:=
  ⟨_,Heap.get?_update_self _ ho (Obj.isFreed_of_fields (Obj.data_mapFields hd _)),(Obj.cls_mapFields ..).trans hc,by rw [Obj.data_mapFields hd];simp [rawInt]⟩
 refine wpAny_bind (wpAny_holding ?_)
 refine wpAny_bind (wpAny_isOneOf_keyiter (s:={ s with heap:=s.heap.update it (Obj.mapFields (·.setIfInBounds 1 (rawInt ((i:Int)+1)))) }) hit'.typeIs ?_)
 show wpAny _ _ (pure es[i].key) _ _ _
 exact wpAny_pure (wpAny_pure ⟨_,rfl,wpAny_pure (hQ _ hit' (Heap.SameBut.update ..))⟩)
theorem aU0 {it:Addr} {Q:Option Value->Shared->Prop} (hh:A.handled=none) (hit:s.heap.IsKeyIter it d es.size es.size ep) (hm:DAt s.heap d es ep)
 (hQ:∀h',Heap.ExtBut it s.heap h'->Q none { s with heap:=h' }):wpAny (model prog w) A (pyNext (.ref it)) Q E s:=by
 obtain⟨o,ho,hc,hd⟩:=id hit
 obtain⟨od,hod,hcd,hdd⟩:=id hm
 have own:Builtin.Dict_items.ownsTuple "dict_keyiterator" = false:=by decide
 unfold pyNext
 refine wpAny_bind (wpAny_attempt (wpAny_callSpecial?_slot (name:=Str.ofString "__next__") hit.typeIs PySem.F.slot_dict_keyiterator_next
  (wpAny_call_entry PySem.F.slot_dict_keyiterator_next hit.typeIs PySem.F.entry_dict_keyiterator_next ?_ (PySem.F.args_dict_keyiterator_next_1 _))))
 refine wpAny_bind (wpAny_pure (wpAny_bind (wpAny_bind ?_)))
 first | refine wpAny_bind (wpAny_typeNameOfWhole_keyiter hit.typeIs (wpAny_pure ?_)) | refine wpAny_bind (wpAny_typeNameOf_keyiter hit.typeIs (wpAny_pure ?_))
 refine wpAny_bind (wpAny_fieldsOf ho hd ?_)
 simp only [own,Bool.false_eq_true,if_false]
 show wpAny _ _ (if (Value.ref d == Value.none)=true then _ else _) _ _ s
 rw [if_neg (show ¬((Value.ref d == Value.none)=true) from Bool.false_ne_true)]
 refine wpAny_bind (wpAny_pure (wpAny_bind (wpAny_dictEntries hod hdd ?_)))
 rw [if_neg (by simp)]
 refine wpAny_bind (wpAny_pure (wpAny_bind (wpAny_dictEpoch hod hdd ?_)))
 rw [if_neg (by simp)]
 refine wpAny_pure ?_
 simp only [show ¬((es.size:Int)<0) from by omega,if_false,Int.toNat_natCast,Array.getElem?_eq_none (Nat.le_refl es.size)]
 refine wpAny_bind ?_
 first | refine wpAny_bind (wpAny_typeNameOfWhole_keyiter hit.typeIs (wpAny_pure ?_)) | refine wpAny_bind (wpAny_typeNameOf_keyiter hit.typeIs (wpAny_pure ?_))
 show wpAny _ _ (setField (.ref it) 0 .none>>=_) _ _ s
 refine wpAny_bind (wpAny_setField ho hd (by simp) ?_)
 show wpAny _ _ (newExc (.type "StopIteration") []>>=_) _ _ _
 refine wpAny_bind ?_
 simp only [newExc,newTuple]
 refine wpAny_bind (wpAny_newObj_type ?_ (by size_fits))
 refine wpAny_bind (m:=firstArgMember _ _) (wpAny_of_eq (a:=Value.none) (by first | rfl | (simp only [firstArgMember];rfl)) ?_)
 refine wpAny_newObj_type ?_ (by size_fits)
 simp only [raiseNew]
 refine wpAny_bind (wpAny_handled ?_)
 rw [show A.in1.handled=none from hh]
 refine wpAny_bind (wpAny_pure (wpAny_throw ?_))
 refine wpAny_bind (wpAny_isInstance (T:="StopIteration") (b:=true) ⟨_,Heap.get?_push_size _ rfl,rfl⟩ isSubtype_stop ?_)
 exact wpAny_pure (hQ _ (((Heap.SameBut.update ..).extBut.push _).push _))
theorem aC8 (hh:A.handled=none) (I:Addr) (hne:d≠I):Walks prog w A I [I,d] [I] es.size (λi v=>(es[i]?).map (·.key)=some v) (λi h=>h.IsKeyIter I d i es.size ep/\DAt h d es ep) where
 sub:=λb hb=>by simp at hb;simp [hb]
 frame:=λ_ _ _ st hk=>⟨st.1.at λo e=>hk I (by simp) o e,st.2.at λo e=>hk d (by simp) o e⟩
 item:=λi s Q E hi st hQ=>by
  refine aM1 st.1 st.2 hi λh' hit' hs'=>?_
  exact hQ _ h' s.toks (by rw [Array.getElem?_eq_getElem hi];rfl) ⟨hit',st.2.at λo e=>hs'.extBut d o hne e⟩ λb o hb e=>hs'.extBut b o (λh=>hb (by simp [h])) e
 done:=λs Q E st hQ=>aU0 hh st.1 st.2 λh' he'=>hQ h' s.toks λb o hb e=>he' b o (λh=>hb (by simp [h])) e
 self:=λ_ _ _ _ st hQ=>wpAny_pyIter_keyiter st.1 hQ
theorem aM2 (lo:(d == sysModules)=false):KdlSrc prog w "dict" d d es.size (λi v=>(es[i]?).map (·.key)=some v) (λh=>DAt h d es ep) where
 type:=λ_ hm=>hm.type
 there:=λ_ hm=>⟨let ⟨_,ho,_⟩:=hm;Heap.lt_size ho,let ⟨_,ho,_⟩:=hm;Heap.lt_size ho⟩
 keep:=λ_ _ hm hk=>hm.at λo e=>hk d (.inl rfl) o e
 notList:=by decide
 notTuple:=by decide
 hint:=λ_ _ _ _ hm hq=>kdl_hint_dict hm.type hq
 iter:=λ_ _ hh hm=>⟨_,_,(λ_ _ hq=>aM0 lo hm hq),aC8 hh _ (Nat.ne_of_lt (let ⟨_,ho,_⟩:=hm;Heap.lt_size ho)),⟨⟨_,Heap.get?_push_size _ rfl,rfl,rfl⟩,hm.at λo e=>Heap.get?_push_of_some _ e⟩⟩
end
end Ws
namespace Ws
open PySem PySem.W PyProof.Rows
section
variable {X:L2.Cx} {cm:Nat->Addr}
theorem a41 {H:L2.Hp}:∀{kvs:List (List L2.Key×L2.V)} {xs:List (List L2.Key×Addr×Value)} {ts:List (List Int)},L2.KT H kvs xs->kvs.map (·.1)=ts.map (List.map (Sum.inl:Int->L2.Key))->(∀t∈ts,t≠[])->Paired (TupV H) (xs.map λq=>L2.V.ref q.2.1) ts:=by
 intro kvs xs ts r
 unfold L2.KT at r
 induction r generalizing ts with
 | nil=>
   intro e _
   cases ts with
   | nil=>exact .nil
   | cons t ts=>cases e
 | @cons p q _ _ h _ ih=>
   intro e hne
   cases ts with
   | nil=>cases e
   | cons t ts=>
     rw [List.map_cons,List.map_cons] at e
     injection e with e1 e2
     refine .cons ⟨_,rfl,?_,hne t List.mem_cons_self⟩ (ih e2 λu hu=>hne u (List.mem_cons_of_mem _ hu))
     rw [h.2.1,e1,List.map_map];rfl
end
end Ws
namespace Ws
open PySem PySem.W PyProof.Rows
structure be7 (K:PySem.W.Frag) (cm:Nat->Addr) (cs:List Nat):Prop where
 cl:∀c∈cs,findIn K (.ref (cm c)) "__class__" = some (some (.builtin "object.__class__"))
 cg:specialIn K (.builtin "object.__class__") "__get__" = some (some (.builtin "getset_descriptor.__get__"))
 ct:takesIn K (.builtin "object.__class__")=some true
 mo:∀c∈cs,mroIn K (cm c) (.type "object")=some true
 kit:∀c∈cs,∀k∈cs,kitOne K (.ref (cm c)) (.ref (cm k))=some (aZ5 c k)
section
variable {X:L2.Cx} {cm:Nat->Addr}
theorem bl0 {cs:List Nat} {k:Nat} {e:Expr} {d:ED} {tn:Str} {p p2 pos:Pos} (G:be7 X.K cm cs) (hcl:∀c,c<7->L2.Cls X.K (cm c)) (hk:k∈cs) (he:L2.PE X e (EvE X.K cm d)) (hg:L2.Gl X "isinstance") (hm:X.mg "isinstance" = none) (hgt:L2.Gl X tn) (hmt:X.mg tn=some (.ref (cm k)))
 (hs:starEach [e,.Name tn p2] X.env=(false,eval e X.env)::starEach [.Name tn p2] X.env:=by exact G0 rfl) (hs2:starEach [Expr.Name tn p2] X.env=(false,eval (.Name tn p2) X.env)::starEach [] X.env:=by exact G0 rfl) (hpl:(backTo pos (starEach [Expr.Name tn p2] X.env)).any (·.1)=false:=by rfl)
 (hdb:(tn == ("__debug__" : Str))=false:=by decide):L2.PE X (.Call (.Name "isinstance" p) [e,.Name tn p2] [] pos) (EvE X.K cm (bc7 cs d k)):=by
 have call:L2.CallR X (.builtin "isinstance") (λvs H Q=>∃a c dx fs,vs=[.ref a,.ref (cm k)]/\c∈cs/\c<7/\H a=some (.ins (cm c) dx fs)/\Q (.bl (aZ5 c k)) H):=by
  intro pins s σ H xs us Q I r h
  obtain⟨a,c,dx,fs,rfl,hc,h7,h1,q⟩:=h
  obtain⟨u,w,rfl,ru,rw'⟩:=L2.au1 r
  obtain rfl:u=Value.ref a:=ru
  obtain rfl:w=Value.ref (cm k):=rw'
  obtain⟨mA,O,_⟩:=L2.o6 I.hok h1
  obtain⟨od,J,_⟩:=O.look
  exact kia_one (kitx_own ((hcl c h7).get _) (hcl c h7).hd (G.cl c hc) G.cg G.ct (G.mo c hc)) I.kIn J (G.kit c hc k hk) (λz=>nomatch z) λtk=>⟨.bl _,H,I.tok tk,rfl,q⟩
 refine E3 (L2.S7 call hg hm PyProof.Rows.boot_isinstance (L2.X3 he (L2.X3 (L2.ao9 (v:=.ref (cm k)) hgt hmt rfl hdb) L2.ap4 hs2) hs) (he:=hs) (hpl:=hpl)) λσ H Q ⟨ρ,A,σp,v,A',rl,rs,ev,kk⟩=>?_
 obtain⟨x,A1,e1,ev1⟩:=B0 ev
 refine⟨ρ,A,σp,x,A1,rl,rs,e1,λρ1 H1 v1 x1 rl1 rv1=>?_⟩
 cases x with
 | ref n=>
   obtain⟨o,A2,e2,ev2⟩:=B0 ev1
   obtain⟨hc,ev3⟩:=C5 ev2
   cases ev3
   obtain⟨rfl,hA,a,dx,kv,rfl,hn,hH,hp,h7⟩:=t5 rl1 rv1 e2
   exact⟨a,o.1,dx,kv,rfl,hc,(rl1.obj n _ a hA hn).1.1,hH,kk ρ1 H1 _ x1 rl1 (.bl _)⟩
 | _=>cases ev1
end
end Ws
namespace Ws
open PySem PySem.W PyProof.Rows PySem.Builtin PySem.Builtin.Str
section
variable {X:L2.Cx} {cm:Nat->Addr}
theorem W7 {n:Nat} (h:n<=LIM):n<=sizeLine:=by unfold LIM at h;rw [sizeLine_eq];omega
theorem Y6 {x z:Str} {pos:Pos} (hg:L2.Gl X x) (hm:∃t,X.mg x=some (.str z t)) (hd:(x == ("__debug__" : Str))=false:=by decide):L2.PE X (.Name x pos) (EvE X.K cm (eK (.str z))):=by
 obtain⟨t,hm⟩:=hm
 exact r_k (L2.ao9 hg hm (show L2.RelV (.str z) (.str z t) from ⟨t,rfl⟩) hd) λ_ _=>.str z
theorem i8:M6 X.K cm ab3 (λx y H Q=>∃i j,x=.str i/\y=.str j/\i.length+j.length<=sizeLine/\Q (.str (i++j)) H):=λρ B H x y z B' vx vy Q rl rx ry ev k=>by
 cases x with
 | str i=>
   cases y with
   | str j=>
     obtain⟨c,ev⟩:=C5 ev
     cases ev;cases rx;cases ry
     exact⟨i,j,rfl,rfl,W7 c,k ρ H _ (Ext.refl _ _) rl (.str _)⟩
   | _=>cases ev
 | _=>cases ev
theorem be8:M6 X.K cm bc8 (λx y H Q=>∃i j,x=.str i/\y=.str j/\Q (.bl (!(Builtin.Str.occurrences j i 0 j.length 1).isEmpty)) H):=λρ B H x y z B' vx vy Q rl rx ry ev k=>by
 cases x with
 | str i=>
   cases y with
   | str j=>cases ev;cases rx;cases ry;exact⟨i,j,rfl,rfl,k ρ H _ (Ext.refl _ _) rl (.bl _)⟩
   | _=>cases ev
 | _=>cases ev
theorem be9:M6 X.K cm aK6 L2.rIxS:=λρ B H x y z B' vx vy Q rl rx ry ev k=>by
 cases x with
 | str i=>
   cases y with
   | int j=>
     cases rx;cases ry
     cases hc:atI i.cps.toList j with
     | none=>rw [show aK6 (.str i) (.int j)=stuck by show (match atI i.cps.toList j with | some c=>D2 (i.length<=LIM) (ret (PV.str ⟨#[c]⟩)) | none=>stuck)=_;rw [hc]] at ev;cases ev
     | some c=>
       rw [show aK6 (.str i) (.int j)=D2 (i.length<=LIM) (ret (.str ⟨#[c]⟩)) by show (match atI i.cps.toList j with | some c=>D2 (i.length<=LIM) (ret (PV.str ⟨#[c]⟩)) | none=>stuck)=_;rw [hc]] at ev
       obtain⟨c1,ev⟩:=C5 ev
       cases ev
       exact⟨i,j,c,rfl,rfl,W7 c1,hc,k ρ H _ (Ext.refl _ _) rl (.str _)⟩
   | _=>cases ev
 | _=>cases ev
theorem bl1 {a b:Expr} {da db:ED} {pos:Pos} (ha:L2.PE X a (EvE X.K cm da)) (hb:L2.PE X b (EvE X.K cm db)) (hs:L2.ap7 b):L2.PE X (.Subscript a b pos) (EvE X.K cm (C3 aK6 da db)):=
 E3 (L2.a60 L2.ba9 ha hb hs) λσ H Q h=>af0 be9 h
theorem bf0 {e:Expr} {d:ED} {p pos:Pos} (he:L2.PE X e (EvE X.K cm d)) (hg:L2.Gl X "len") (hm:X.mg "len" = none) (hs:starEach [e] X.env=(false,eval e X.env)::starEach [] X.env:=by exact G0 rfl):L2.PE X (.Call (.Name "len" p) [e] [] pos) (EvE X.K cm (aQ3 d)):=
 E3 (L2.S7 L2.aq0 hg hm PySem.boot_len (r_cons he r_nil hs) (he:=hs)) λσ H Q h=>U9 (f:=λx=>match x with | .str z=>D2 (z.length<=LIM) (ret (.int z.length)) | _=>stuck) (λ_=>rfl) (λρ A H x z A' v Q rl rx ev k=>by
  cases x with
  | str i=>
    obtain⟨c,ev⟩:=C5 ev
    cases ev;cases rx
    exact⟨i,rfl,W7 c,k ρ H _ (Ext.refl _ _) rl (.int _)⟩
  | _=>cases ev) h
theorem aM3 {n:Nat} (h:n<10000000000):n.log2<1920:=by
 by_cases h0:n=0
 ·subst h0;decide
 ·exact Nat.lt_trans ((Nat.log2_lt h0).mpr (Nat.lt_trans h (by decide:10000000000<2 ^ 40))) (by decide)
theorem aa2 {e:Expr} {d:ED} {p pos:Pos} (he:L2.PE X e (EvE X.K cm d)) (hg:L2.Gl X "str") (hm:X.mg "str" = none) (hs:starEach [e] X.env=(false,eval e X.env)::starEach [] X.env:=by exact G0 rfl):L2.PE X (.Call (.Name "str" p) [e] [] pos) (EvE X.K cm (av5 d)):=
 E3 (L2.S5 L2.ap3 hg hm PyProof.Rows.boot_str (r_cons he r_nil hs) (he:=hs)) λσ H Q h=>U9 (f:=λx=>match x with | .int i=>D2 (i.natAbs<10000000000) (ret (.str (PySem.Str.ofString (toString i)))) | _=>stuck) (λ_=>rfl) (λρ A H x z A' v Q rl rx ev k=>by
  cases x with
  | int i=>
    obtain⟨c,ev⟩:=C5 ev
    cases ev;cases rx
    exact⟨i,rfl,aM3 c,k ρ H _ (Ext.refl _ _) rl (.str _)⟩
  | _=>cases ev) h
theorem aM4:L2.CallR X (.type "int") (λxs H Q=>∃z n,xs=[.str z]/\PySem.intText? z=some n/\z.length<=640/\Q (.int n) H):=by
 intro pins s σ H xs us Q I r h
 obtain⟨z,n,rfl,hn,hl,q⟩:=h
 obtain⟨u,rfl,rx⟩:=L2.R8 r
 obtain⟨t,rfl⟩:=rx
 exact KIN.call_text hn hl ⟨.int n,H,I.tok _,⟨_,rfl⟩,q⟩
theorem bf1 {e:Expr} {d:ED} {p pos:Pos} (he:L2.PE X e (EvE X.K cm d)) (hg:L2.Gl X "int") (hm:X.mg "int" = none) (hs:starEach [e] X.env=(false,eval e X.env)::starEach [] X.env:=by exact G0 rfl):L2.PE X (.Call (.Name "int" p) [e] [] pos) (EvE X.K cm (aQ2 d)):=
 E3 (L2.S5 aM4 hg hm PyProof.Rows.boot_int (r_cons he r_nil hs) (he:=hs)) λσ H Q h=>U9 (f:=λx=>match x with | .str z=>(match PySem.intText? z with | some n=>D2 (z.length<=640) (ret (.int n)) | none=>stuck) | _=>stuck) (λ_=>rfl) (λρ A H x z A' v Q rl rx ev k=>by
  cases x with
  | str i=>
    cases hn:PySem.intText? i with
    | none=>dsimp only at ev;rw [hn] at ev;cases ev
    | some n=>
      dsimp only at ev;rw [hn] at ev
      obtain⟨c,ev⟩:=C5 ev
      cases ev;cases rx
      exact⟨i,n,rfl,hn,c,k ρ H _ (Ext.refl _ _) rl (.int _)⟩
  | _=>cases ev) h
theorem ah0:∀{l:List PV} {ys:List Str},Y0 l=some ys->l=ys.map .str
 | [],ys,h=>by simp [Y0] at h;subst h;rfl
 | x::l,ys,h=>by
   cases x with
   | str z=>
     unfold Y0 at h
     cases e:Y0 l with
     | none=>rw [e] at h;cases h
     | some zs=>rw [e] at h;cases h;rw [ah0 e];rfl
   | _=>cases h
theorem ax5 {ρ:List Addr} {H:L2.Hp}:∀{ys:List Str} {xs:List L2.V},RVs ρ H (ys.map .str) xs->xs=ys.map L2.V.str
 | [],_,.nil=>rfl
 | y::ys,_,.cons h r=>by cases h;rw [ax5 r];rfl
theorem ax6:∀{ys:List Str} {us:List Value},L2.Vals (ys.map L2.V.str) us->StrsAre us ys
 | [],_,h=>by cases h;exact .nil
 | y::ys,_,h=>by
   cases h with
   | cons h r=>
     obtain⟨t,rfl⟩:=h
     exact .cons y t (ax6 r)
theorem a42:L2.MtR X "str.join" (λx xs H Q=>∃z a ys,x=.str z/\xs=[.ref a]/\L2.SqL X.K H a (ys.map L2.V.str)/\z.length<=16/\(ys.map (·.length)).sum+ys.length<=1048576/\Q (.str (Txt.join z ys)) H):=by
 intro pins s σ H x xs v us Q I rx rv h
 obtain⟨z,a,ys,rfl,rfl,hq,h1,h2,q⟩:=h
 obtain⟨t,rfl⟩:=rx
 obtain⟨u,rfl,ru⟩:=L2.R8 rv
 cases ru
 obtain⟨its,ri,pl,hz⟩:=I.list hq
 exact join_listW pl.isList (by simpa using ax6 ri) h1 h2 λt' k=>⟨.str _,H,I.tok k,⟨t',rfl⟩,q⟩
theorem as1 {o e:Expr} {d d':ED} {apos cpos:Pos} (ho:L2.PE X o (EvE X.K cm d)) (he:L2.PE X e (EvE X.K cm d'))
 (hb:attributeBase o "join" X.env (eval o X.env)=eval o X.env:=by rfl) (hs:starEach [e] X.env=(false,eval e X.env)::starEach [] X.env:=by exact G0 rfl)
 (hfew:((backTo cpos (starEach [e] X.env)).all (λx=>!x.1)&&(backToKw cpos (keywordEach [] X.env)).all (λx=>x.1.isSome)&&decide ([e].length+([]:List Keyword).length+(if ([]:List Keyword).isEmpty then 0 else 1)<30))=true:=by rfl)
 (hline:(apos.endLine == cpos.line)=true:=by rfl):L2.PE X (.Call (.Attribute o "join" apos) [e] [] cpos) (EvE X.K cm (al8 d d')):=
 E3 (L2.aP2 PySem.F.plainAttrs_str PySem.F.slot_str_join PySem.F.type_str_join a42 ho (r_cons he r_nil hs) (hbase:=hb) (hfew:=hfew) (hline:=hline) (hs:=hs)) λσ H Q ⟨ρ,A,σp,v,A',rl,rs,ev,k⟩=>by
  obtain⟨x,A1,e1,ev1⟩:=B0 ev
  refine⟨ρ,A,σp,x,A1,rl,rs,e1,λρ1 H1 v1 x1 rl1 rv1=>?_⟩
  cases x with
  | str z=>
    obtain⟨y,A2,e2,ev2⟩:=B0 ev1
    cases rv1
    refine⟨rfl,ρ1,_,σp,[y],A2,rl1,rs.mono x1,by show bnd (d' σp) _ A1=_;rw [bnd_ok e2];rfl,λρ2 H2 vs2 x2 rl2 rv2=>?_⟩
    cases rv2 with
    | cons hv hr=>
      cases hr
      cases y with
      | ref n=>
        obtain⟨l,A3,e3,ev3⟩:=B0 ev2
        obtain⟨rfl,a,xs,rfl,hq,hvs⟩:=J2 rl2 hv e3
        cases hy:Y0 l with
        | none=>rw [hy] at ev3;cases ev3
        | some ys=>
          rw [hy] at ev3
          obtain⟨c,ev4⟩:=C5 ev3
          cases ev4
          rw [ah0 hy] at hvs
          exact⟨z,a,ys,rfl,rfl,by rw [←ax5 hvs];exact hq,c.1,c.2,k ρ2 H2 _ (x1.trans x2) rl2 (.str _)⟩
      | _=>cases ev2
  | _=>cases ev1
theorem m3:∀(l:List Str) (t:Nat),L2.Vals (l.map L2.V.str) (strsFrom t l)
 | [],_=>.nil
 | x::l,t=>.cons ⟨_,rfl⟩ (m3 l _)
theorem aH5 {ρ:List Addr} {H:L2.Hp}:∀ys:List Str,RVs ρ H (ys.map .str) (ys.map L2.V.str)
 | []=>.nil
 | y::ys=>.cons (.str y) (aH5 ys)
noncomputable def rSplit:L2.V->List L2.V->L2.Hp->L2.VK->Prop:=λx xs H Q=>∃z u,x=.str z/\xs=[.str u]/\(u.length == 0)=false/\z.length<=LIM/\(Txt.split z u).length<=LIM/\(partsBetween z (occurrences z u 0 z.length (z.length+1)) u.length).length<=LIM/\∀l,H l=none->Q (.ref l) (L2.upd H l (.lst ((Txt.split z u).map L2.V.str)))
theorem aU1:L2.MtR X "str.split" rSplit:=by
 intro pins s σ H x xs v us Q I rx rv h
 obtain⟨z,u,rfl,rfl,hu,h1,h2,h3,q⟩:=h
 obtain⟨t,rfl⟩:=rx
 obtain⟨w,rfl,ru⟩:=L2.R8 rv
 obtain⟨t',rfl⟩:=ru
 have fin:∀(its:List Value) (tk:Nat),L2.Vals ((Txt.split z u).map L2.V.str) its->L2.EP X pins σ Q (.ref s.heap.objs.size) { s with heap:=s.heap.push { cls:=.type "list",data:=.seq its.toArray },toks:=tk }:=λits tk hv=>
  ⟨.ref s.heap.objs.size,_,I.laid (t':=tk) (a:=s.heap.objs.size) (o:=.lst ((Txt.split z u).map L2.V.str)) (λb o e=>Heap.get?_push_of_some _ e) (Nat.le_refl _) ⟨by rw [List.length_map];exact W7 h2,its,_,hv,Heap.get?_push_size _ rfl⟩,rfl,q _ (I.hok.fresh (Nat.le_refl _))⟩
 by_cases c1:(decide (z.length<u.length)||decide (strKind z<strKind u))=true
 ·have e:Txt.split z u=[z]:=if_pos c1
  exact call_meets F.slot_str_split (typeIs_str _ _ _) F.entry_str_split (F.args_str_split_2 _ _) (meets_str_split_cannot_occur z u t t' c1) (fin [.str z t] _ (by rw [e];exact .cons ⟨t,rfl⟩ .nil))
 ·have c1':=Bool.eq_false_iff.mpr c1
  by_cases c2:(occurrences z u 0 z.length (z.length+1)).isEmpty=true
  ·have e:Txt.split z u=[z]:=(if_neg c1).trans (if_pos c2)
   exact call_meets F.slot_str_split (typeIs_str _ _ _) F.entry_str_split (F.args_str_split_2 _ _) (meets_str_split_not_found z u t t' c1' hu c2) (fin [.str z t] _ (by rw [e];exact .cons ⟨t,rfl⟩ .nil))
  ·have e:Txt.split z u=partsBetween z (occurrences z u 0 z.length (z.length+1)) u.length:=(if_neg c1).trans (if_neg c2)
   exact call_meets F.slot_str_split (typeIs_str _ _ _) F.entry_str_split (F.args_str_split_2 _ _) (meets_str_split_sep z u t t' c1' hu (Bool.eq_false_iff.mpr c2) (W7 h1) (W7 h3)) (fin _ _ (by rw [e];exact m3 _ _))
theorem aH6 {o e:Expr} {d d':ED} {apos cpos:Pos} (ho:L2.PE X o (EvE X.K cm d)) (he:L2.PE X e (EvE X.K cm d'))
 (hb:attributeBase o "split" X.env (eval o X.env)=eval o X.env:=by rfl) (hs:starEach [e] X.env=(false,eval e X.env)::starEach [] X.env:=by exact G0 rfl)
 (hfew:((backTo cpos (starEach [e] X.env)).all (λx=>!x.1)&&(backToKw cpos (keywordEach [] X.env)).all (λx=>x.1.isSome)&&decide ([e].length+([]:List Keyword).length+(if ([]:List Keyword).isEmpty then 0 else 1)<30))=true:=by rfl)
 (hline:(apos.endLine == cpos.line)=true:=by rfl):L2.PE X (.Call (.Attribute o "split" apos) [e] [] cpos) (EvE X.K cm (ar1 d d')):=
 E3 (L2.aP2 PySem.F.plainAttrs_str PySem.F.slot_str_split PySem.F.type_str_split aU1 ho (r_cons he r_nil hs) (hbase:=hb) (hfew:=hfew) (hline:=hline) (hs:=hs)) λσ H Q ⟨ρ,A,σp,v,A',rl,rs,ev,k⟩=>by
  obtain⟨x,A1,e1,ev1⟩:=B0 ev
  refine⟨ρ,A,σp,x,A1,rl,rs,e1,λρ1 H1 v1 x1 rl1 rv1=>?_⟩
  cases x with
  | str z=>
    obtain⟨y,A2,e2,ev2⟩:=B0 ev1
    cases rv1
    refine⟨rfl,ρ1,_,σp,[y],A2,rl1,rs.mono x1,by show bnd (d' σp) _ A1=_;rw [bnd_ok e2];rfl,λρ2 H2 vs2 x2 rl2 rv2=>?_⟩
    cases rv2 with
    | cons hv hr=>
      cases hr
      cases y with
      | str u=>
        obtain⟨c,ev3⟩:=C5 ev2
        cases ev3;cases hv
        refine⟨z,u,rfl,rfl,c.1,c.2.1,c.2.2.1,c.2.2.2,λD hD=>?_⟩
        have ex:Ext ρ2 H2 (ρ2++[D]) (L2.upd H2 D (.lst ((Txt.split z u).map L2.V.str))):=Ext.new hD
        exact k (ρ2++[D]) _ _ ((x1.trans x2).trans ex) (rl2.alloc hD ⟨_,L2.D4,aH5 _⟩ rfl) (.ref (by rw [←rl2.len];simp))
      | _=>cases ev2
  | _=>cases ev1
end
end Ws
namespace Ws
open PySem PySem.W PyProof.Rows
noncomputable def sgs (x:Str):List L2.V:=x.cps.toList.map λc=>.str ⟨#[c]⟩
theorem aU2 {P:Program} {w:World} {K:PySem.W.Frag} {tg:Expr} (it:Addr) (x:Str) (t:Tok) :
 L2.ap0 P w K tg (Itf (sgs x)) [it] it (λi h=>h.IsStrIter it "str_ascii_iterator" x t i) where
 mem:=by simp
 obj:=λi h st b hb=>by
  obtain⟨o,e,c,d⟩:=st
  have e2:b=it:=by simpa using hb
  subst e2
  exact⟨o,e,λv z=>by rw [d] at z;cases z⟩
 keep:=λi h h' st k=>by
  obtain⟨o,e,r⟩:=st
  exact⟨o,k it (by simp) o e,r⟩
 item:=by
  intro X hP hw hK hc i pins s σ H E I hf st hg
  subst hP hw hK
  have hi:i<x.cps.size:=by
   have:i<(sgs x).length:=hg
   simpa [sgs] using this
  refine wpAny_pyNext_ascii_item st (c:=x.cps[i]) (by simp [hi]) λh' hit' sb=>?_
  have kp:∀b o,b≠it->s.heap.get? b=some o->h'.get? b=some o:=λb o hb q=>(sb.2 b hb).trans q
  have I1:L2.Inv X pins σ H { s with heap:=h',toks:=s.toks+1 }:=V7 (t':=s.toks+1) I hf λb o hb q=>kp b o (λz=>hb (by simp [z])) q
  obtain⟨o,e5,c,d⟩:=id hit'
  exact⟨_,rfl,L2.aE3 (s:={ s with heap:=h',toks:=s.toks+1 }) e5 c d (by decide) ⟨.str ⟨#[x.cps[i]]⟩,H,I1,⟨_,rfl⟩,⟨rfl,by simp [sgs,hi]⟩,hit',λb hb=>(hf b hb).1⟩⟩
 done:=by
  intro X hP hw hK hc i pins s σ H E I hf st hg
  subst hP hw hK
  have hi:x.cps.size<=i:=by
   have:(sgs x).length<=i:=hg
   simpa [sgs] using this
  exact wpAny_pyNext_ascii_end (I.ok.hd hc) st (by simp [hi]) λh' eb=>⟨rfl,V7 (t':=s.toks) I hf λb u hb q=>eb b u (λz=>hb (by simp [z])) q⟩
 self:=λ_ _ _ _ _ st h=>wpAny_pyIter_striter_ascii st h
section
variable {X:L2.Cx} {cm:Nat->Addr}
theorem aH7 {ρ:List Addr} {H:L2.Hp}:∀l:List Nat,RVs ρ H (l.map λc=>PV.str ⟨#[c]⟩) (l.map λc=>L2.V.str ⟨#[c]⟩)
 | []=>.nil
 | c::l=>.cons (.str _) (aH7 l)
theorem bl2 {tg a:Expr} {d:ED} (ha:L2.PE X a (EvE X.K cm d)):L2.PI X tg a (EvI X.K cm (bc9 d)):=by
 intro pins s σ H R I h
 obtain⟨ρ,A,σp,J,A',rl,rs,ev,k⟩:=h
 obtain⟨x,A1,e1,ev1⟩:=B0 ev
 refine L2.thn (ha pins s σ H (λv H1=>∃z:Str,v=.str z/\z.cps.all (·< 128)=true/\R (Itf (sgs z)) H1) I ⟨ρ,A,σp,x,A1,rl,rs,e1,λρ1 H1 v1 x1 rl1 rv1=>?_⟩) λu s1 ⟨v,H1,I1,r1,z,ej,hz,q⟩=>?_
 ·cases x with
  | str z=>
    obtain⟨c,ev2⟩:=C5 ev1
    cases ev2
    cases rv1
    exact⟨z,rfl,c,k ρ1 H1 _ x1 rl1 ⟨_,aH7 _,rfl⟩⟩
  | _=>cases ev1
 ·subst ej
  obtain⟨t,rfl⟩:=(show ∃t,u=Value.str z t from r1)
  refine wpAny_pyIter_ascii hz ?_
  refine⟨_,[_],_,_,H1,rfl,I1.kept (t':=s1.toks) λb o e=>Heap.get?_push_of_some _ e,aU2 _ z t,⟨_,Heap.get?_push_size _ rfl,rfl,rfl⟩,λb hb=>?_,q⟩
  have e:b=s1.heap.objs.size:=by simpa using hb
  subst e
  exact I1.fpOk (Nat.le_refl _) (I1.hok.fresh (Nat.le_refl _))
end
end Ws
namespace Ws
open PySem PySem.W PyProof.Rows
theorem ah1 (a b:Value):checkTypeCall "enumerate" ⟨[a],[("start",b)]⟩=pure ():=by kernel_rfl
theorem aj6 (a b:Value):checkBuiltinCall "enumerate.__new__" ⟨[.type "enumerate",a],[("start",b)]⟩=pure ():=by kernel_rfl
theorem ac1 (a b c:Value):argsOk "object.__init__" ⟨[a,b],[("start",c)]⟩:=by kernel_rfl
set_option maxHeartbeats 1000000 in
theorem ax7 (l:Addr) (items:Array Value) (n:Nat) (dct:Option Addr) (sl:Array (Option Value)) (k:Int) (t:Tok) (hk:Builtin.SmallTypes.fitsIndex k=true) :
 Meets (Builtin.«enumerate.__new__» ⟨[.type "enumerate",.ref l],[("start",.int k t)]⟩) (λ_ R s=>s.heap.get? l=some { cls:=.type "list",dict:=dct,data:=.seq items n,slots:=sl }/\
  R (.ok (.ret (.ref (s.heap.push { cls:=.type "list_iterator",data:=.fields #[.ref l,.int 0 0] }).objs.size)))
    { s with heap:=(s.heap.push { cls:=.type "list_iterator",data:=.fields #[.ref l,.int 0 0] }).push { cls:=.type "enumerate",data:=.fields #[.none,.bool false,.ref s.heap.objs.size,rawInt k,.none,.none] } }):=
 .of_wp λprog w A R s h=>by
  obtain⟨hp,g,d,tk,os⟩:=s;obtain⟨hl,h⟩:=h
  have hsub:=sub_enumerate
  have hL:Heap.IsList (Shared.heap ⟨hp,g,d,tk,os⟩) l items:=⟨_,hl,rfl,n,rfl⟩
  wp_walk using AutoSeq1.wpAny_loadPart' hl
  refine wpAny_stack_any λst=>wpAny_pure ?_
  split
  ·rename_i c _ _ _ _ _
   cases (c == Value.type "enumerate")
   ·wp_walk using AutoSeq1.wpAny_loadPart' hl,wpAny_pyIter_list hL
    exact⟨_,rfl,h⟩
   ·wp_walk using AutoSeq1.wpAny_loadPart' hl,wpAny_pyIter_list hL
    exact⟨_,rfl,h⟩
  ·wp_walk using AutoSeq1.wpAny_loadPart' hl,wpAny_pyIter_list hL
   exact⟨_,rfl,h⟩
theorem aC9 {self:Value} {rest:List Value} {kw:List (Str×Value)}:Meets (Builtin.«object.__init__» ⟨self::rest,kw⟩) (λ_ R s=>s.TypeIs self "enumerate"/\R (.ok (.ret .none)) s):=by
 refine Meets.of_wp λprog w A R s hs=>?_
 obtain⟨hT,hq⟩:=hs
 have hl:=F.called_enumerate.init.lookup
 have hm:=F.called_enumerate.made
 have hne:(some "enumerate.__new__" != some "object.__new__")=true:=by decide
 cases rest with
 | nil=>
   cases kw with
   | nil=>exact wpAny_pure ⟨_,rfl,hq⟩
   | cons a kw=>
     repeat (any_goals (first | assumption | wp_step))
     exact⟨_,rfl,hq⟩
 | cons a rest=>
   repeat (any_goals (first | assumption | wp_step))
   exact⟨_,rfl,hq⟩
section
variable {prog:Program} {w:World} {A:Around} {E:Value->Shared->Prop} {s:Shared}
theorem aD0 {l:Addr} {items:Array Value} {k:Int} {t:Tok} {Q:Value->Shared->Prop} (hk:Builtin.SmallTypes.fitsIndex k=true) (hL:s.heap.IsList l items)
 (h:∀h',IsEnum h' (s.heap.objs.size+1) s.heap.objs.size k .none->h'.IsListIter s.heap.objs.size l 0->h'.objs.size=s.heap.objs.size+2->
  (∀b o,s.heap.get? b=some o->h'.get? b=some o)->Q (.ref (s.heap.objs.size+1)) { s with heap:=h' }) :
 wpAny (model prog w) A (call (.type "enumerate") [.ref l] [("start",.int k t)]) Q E s:=by
 obtain⟨⟨c,dct,dt,sl⟩,hl,hc,n,hd⟩:=hL
 replace hc:c=.type "list":=hc
 replace hd:dt=.seq items n:=hd
 subst hc hd
 have ft:=F.called_enumerate
 obtain⟨c,tl,hmro⟩:=ft.mro
 have hmade:=ft.made
 have hsub:=ft.sub
 have hct:=ah1 (.ref l) (.int k t)
 refine wpAny_call (codeAny_of_tree ?_)
 show wpAny _ _ (callAny (.type "enumerate") _) _ _ _
 refine wpAny_pure ⟨Code.quiet_builtin _ (by decide +kernel),codeAny_builtin F.entry_type_call ?_⟩
 rw [Around.under_plain (weight_type_call_type "enumerate" _ _) (units_type_call_type "enumerate" _ _)]
 have h1:=ft.notType
 have h2:=ft.canCreate
 repeat (any_goals (first | assumption | wp_step))
 have hz:(s.heap.push { cls:=.type "list_iterator",data:=.fields #[.ref l,.int 0 0] }).objs.size=s.heap.objs.size+1:=Heap.size_push ..
 have he:IsEnum ((s.heap.push { cls:=.type "list_iterator",data:=.fields #[.ref l,.int 0 0] }).push
  { cls:=.type "enumerate",data:=.fields #[.none,.bool false,.ref s.heap.objs.size,rawInt k,.none,.none] }) (s.heap.objs.size+1) s.heap.objs.size k .none:=by
  have:=Heap.get?_push_size (s.heap.push { cls:=.type "list_iterator",data:=.fields #[.ref l,.int 0 0] })
   (o:={ cls:=.type "enumerate",data:=.fields #[.none,.bool false,.ref s.heap.objs.size,rawInt k,.none,.none] }) rfl
  rw [hz] at this;exact this
 refine codeAny_mono (codeAny_call_builtin ft.plain F.entry_enumerate_new (wpAny_of_eq (aj6 _ _) (ax7 l items n dct sl k t hk prog w A.in1 (wants (λv s1=>v=.ref (s.heap.objs.size+1)/\s1={ s with heap:=(s.heap.push { cls:=.type "list_iterator",data:=.fields #[.ref l,.int 0 0] }).push { cls:=.type "enumerate",data:=.fields #[.none,.bool false,.ref s.heap.objs.size,rawInt k,.none,.none] } }) E) s ⟨hl,⟨congrArg Value.ref hz,rfl⟩⟩))) λr s₁ hr=>?_
 cases r with
 | error e=>exact hr
 | ok fl=>
   cases fl with
   | ret obj=>
     obtain⟨rfl,rfl⟩:=hr
     have hT:Shared.TypeIs { s with heap:=(s.heap.push { cls:=.type "list_iterator",data:=.fields #[.ref l,.int 0 0] }).push { cls:=.type "enumerate",data:=.fields #[.none,.bool false,.ref s.heap.objs.size,rawInt k,.none,.none] } } (.ref (s.heap.objs.size+1)) "enumerate":=⟨_,he,rfl⟩
     have hli:=ft.init.lookup
     have hbi:=ft.init.bind (.ref (s.heap.objs.size+1))
     repeat (any_goals (first | assumption | wp_step))
     refine codeAny_mono (codeAny_call_builtin ft.init.plain F.entry_object_init (ft.init.check _ _ _ _ _ _ _ _ hT (ac1 _ _ _) (aC9 prog w A.in1 (wants (λr s₂=>r=.none/\s₂=_) E) _ ⟨hT,rfl,rfl⟩))) λr₂ s₂ hr₂=>?_
     cases r₂ with
     | error e=>exact hr₂
     | ok fl₂=>
       cases fl₂ with
       | ret r=>
         obtain⟨rfl,rfl⟩:=hr₂
         have hq:=h _ he ⟨_,Heap.get?_push_of_some _ (Heap.get?_push_size _ rfl),rfl,rfl⟩ (by rw [Heap.size_push,hz]) λb o x=>Heap.get?_push_of_some _ (Heap.get?_push_of_some _ x)
         repeat (any_goals (first | assumption | wp_step))
       | _=>exact hr₂.elim
   | _=>exact hr.elim
end
end Ws
namespace Ws
open PySem PySem.W PyProof.Rows
theorem aD1 {prog:Program} {w:World} {A:Around} (hh:A.handled=none) (it l:Addr) (hne:l≠it) (items:Array Value) (k:Nat) :
 Draws prog w A it [it,l] (k+items.size) (λj v=>items[j - k]?=some v) (λj h=>k<=j/\h.IsListIter it l (j - k)/\h.IsList l items) where
 live:=λ_ _ st=>let ⟨o,ho,_⟩:=st.2.1;⟨o,ho⟩
 frame:=λ_ _ _ st hk=>⟨st.1,st.2.1.at λo e=>hk it (by simp) o e,st.2.2.at λo e=>hk l (by simp) o e⟩
 item:=λj s Q E hj st hQ=>by
  have hi:j - k<items.size:=by have:=st.1;omega
  refine wpAny_nextOf_list_item st.2.1 st.2.2 (x:=items[j - k]) (by simp [hi]) λh' hit' hs'=>?_
  exact hQ _ h' s.toks (by simp [hi]) ⟨by have:=st.1;omega,by rw [show j+1 - k=j - k+1 by have:=st.1;omega];exact hit',st.2.2.extBut hs'.extBut hne⟩ hs'
 done:=λs Q E st hE=>wpAny_nextOf_list_end hh st.2.1 st.2.2 (by simp) hE
theorem aM5 {prog:Program} {w:World} {A:Around} (hh:A.handled=none) (it l:Addr) (items:Array Value) (i:Nat) (hi:items.size<=i) :
 Draws prog w A it [it,l] 0 (λ_ _=>True) (λ_ h=>h.IsListIter it l i/\h.IsList l items) where
 live:=λ_ _ st=>let ⟨o,ho,_⟩:=st.1;⟨o,ho⟩
 frame:=λ_ _ _ st hk=>⟨st.1.at λo e=>hk it (by simp) o e,st.2.at λo e=>hk l (by simp) o e⟩
 item:=λj s Q E hj st hQ=>absurd hj (Nat.not_lt_zero _)
 done:=λs Q E st hE=>wpAny_nextOf_list_end hh st.1 st.2 (by rw [Array.getElem?_eq_none];exact hi) hE
theorem aU3 {P:Program} {w:World} {K:PySem.W.Frag} {elts:List Expr} {x1:Nat} {pos:Pos} (k:Nat) (a e it:Addr) (hei:e≠it):L2.ap0 P w K (.Tuple elts x1 pos) (Itk K k a) [e,it] e (λi h=>(∃old,IsEnum h e it ((k+i:Nat):Int) old)/\h.IsListIter it a i) where
 mem:=by simp
 obj:=λi h st b hb=>by
  obtain⟨⟨old,he⟩,o,e1,c,d⟩:=st
  rcases List.mem_cons.mp hb with rfl | hb
  ·exact⟨_,he,λv z=>by cases z⟩
  ·have e2:b=it:=by simpa using hb
   subst e2
   exact⟨o,e1,λv z=>by rw [d] at z;cases z⟩
 keep:=λi h h' st k=>by
  obtain⟨⟨old,he⟩,hit⟩:=st
  exact⟨⟨old,k e (by simp) _ he⟩,hit.at λo x=>k it (by simp) o x⟩
 item:=by
  intro X hP hw hK hc i pins s σ H E I hf st hg
  subst hP hw hK
  obtain⟨xs,x,hq,hx⟩:=hg
  obtain⟨its,rv,p,hz⟩:=I.list hq
  obtain⟨u,hu,ru⟩:=rv.get hx
  obtain⟨⟨old,he⟩,hit⟩:=st
  have el:=Heap.lt_size he
  have hl:=p.isList
  have ne_of:∀b,(∃o:Obj,s.heap.get? b=some o/\o.cls≠.type "list")->a≠b:=λb ⟨o,ho,hc⟩ z=>by
   obtain⟨o',ho',hc',_⟩:=hl
   rw [z,ho] at ho';cases ho';exact hc hc'
  have hae:a≠e:=ne_of e ⟨_,he,by simp⟩
  have hai:a≠it:=by
   obtain⟨o,ho,hc,_⟩:=id hit
   exact ne_of it ⟨o,ho,by rw [hc];simp⟩
  have hi:i<its.length:=(List.getElem?_eq_some_iff.mp hu).1
  refine wpAny_pyNext_enum_itemD (aD1 (A:=X.A.in1) (I.ok.hd hc) it a hai its.toArray k) he ⟨Nat.le_add_right _ _,by rw [Nat.add_sub_cancel_left];exact hit,hl⟩ (by simp;omega) hei (by simp [hei,hae.symm]) λu' h' tk hu' ho hst hT hsz hk=>?_
  have e0:u'=u:=by
   rw [Nat.add_sub_cancel_left] at hu'
   have:its[i]?=some u':=by simpa using hu'
   rw [hu] at this;cases this;rfl
  subst e0
  have hit':h'.IsListIter it a (i+1):=by
   have:=hst.2.1
   rw [show k+i+1 - k=i+1 by omega] at this;exact this
  refine⟨.ref s.heap.objs.size,rfl,wpAny_letOwnedTupleGo_enum (s:={ s with heap:=h',toks:=tk+1 }) ho λh2 he2 hs2=>?_⟩
  have sb:∀b u,b≠e->h'.get? b=some u->h2.get? b=some u:=λb u hb q=>(hs2.2 b hb).trans q
  have hTe:s.heap.objs.size≠e:=Nat.ne_of_gt el
  have I2:L2.Inv X pins σ (L2.upd H s.heap.objs.size (.tup [.int ((k+i:Nat):Int),x])) { s with heap:=h2,toks:=tk+1 }:=by
   refine n4 (s:=s) (t':=tk+1) I hf (λb u hb q=>?_) (Nat.le_refl _) ?_
   ·have h1:b≠e:=λz=>hb (by simp [z])
    have h2:b≠it:=λz=>hb (by simp [z])
    exact sb b u h1 (hk b u h1 h2 q)
   ·exact⟨by show 2<=sizeLine;decide,[.int ((k+i:Nat):Int) tk,u'],.cons ⟨_,rfl⟩ (.cons ru .nil),_,sb _ _ hTe hT,rfl,_,rfl⟩
  refine⟨.ref s.heap.objs.size,L2.upd H s.heap.objs.size (.tup [.int ((k+i:Nat):Int),x]),I2,rfl,⟨x,s.heap.objs.size,λys hy=>by rw [I.list_inj hy hq];exact hx,I.hok.fresh (Nat.le_refl _),rfl,rfl⟩,⟨⟨u',by exact_mod_cast he2⟩,hit'.at λo y=>sb it o hei.symm y⟩,λb hb=>?_⟩
  ·rw [L2.D6]
   ·exact (hf b hb).1
   ·rcases List.mem_cons.mp hb with rfl | hb
    ·exact hTe.symm
    ·have e2:b=it:=by simpa using hb
     subst e2
     obtain⟨_,y,_⟩:=hit
     exact Nat.ne_of_lt (Heap.lt_size y)
 done:=by
  intro X hP hw hK hc i pins s σ H E I hf st hg
  subst hP hw hK
  obtain⟨xs,hq,hx⟩:=hg
  obtain⟨its,rv,p,hz⟩:=I.list hq
  obtain⟨⟨old,he⟩,hit⟩:=st
  have hl:=rv.length
  exact wpAny_pyNext_enum_endD (aM5 (A:=X.A.in1) (I.ok.hd hc) it a its.toArray i (by simp;omega)) he ⟨hit,p.isList⟩ λh' eb=>⟨rfl,V7 (t':=s.toks) I hf λb u hb q=>eb b u (λz=>hb (by simp [z])) q⟩
 self:=λ_ _ _ _ _ st h=>by
  obtain⟨⟨old,he⟩,_⟩:=st
  exact wpAny_pyIter_enum he h
theorem as2 {M:Model} {A:Around} {E:Value->Shared->Prop} {s:Shared} {env:Env} {pos:Pos} {T:String} {e:Expr} {rest:List Expr} {kws:List Keyword} {Q:Value->Shared->Prop}
 (h:wpAny M A (spliced (backTo pos (starEach (e::rest) env))) (λvs s₁=>wpAny M A (evalAll ((backToKw pos (keywordEach kws env)).map (·.2)))
  (λkvs s₂=>wpAny M A (call (.type T) vs (((backToKw pos (keywordEach kws env)).filterMap (·.1)).zip kvs)) Q E s₂) E s₁) E s)
 (he:backTo pos (starEach (e::rest) env)=(false,eval e env)::backTo pos (starEach rest env))
 (hplain:(backTo pos (starEach (e::rest) env)).any (·.1)=false)
 (hall:(backToKw pos (keywordEach kws env)).all (·.1.isSome)=true)
 (hkw:(backToKw pos (keywordEach kws env)).any (·.1.isNone)=false) :
 wpAny M A (callWith pos (.type T) [] (backTo pos (starEach (e::rest) env)) (backToKw pos (keywordEach kws env))) Q E s:=by
 have h2:wpAny M A (evalArgs (.type T) true (backTo pos (starEach (e::rest) env)) (backToKw pos (keywordEach kws env))) (λa s₁=>wpAny M A (call (.type T) ([]++a.pos) a.kw) Q E s₁) E s:=by
  rw [he] at h ⊢
  exact evalArgs_kwB hall h
 unfold callWith
 refine wpAny_bind (wpAny_holding (wpAny_mono h2 (λa s₁ h₁=>wpAny_bind (wpAny_standAt ?_)) λ_ _ x=>x))
 simp only [hplain,hkw,Bool.or_false]
 refine wpAny_bind (wpAny_pure ?_)
 exact wpAny_bind (wpAny_mono h₁ (λr s₂ hr=>wpAny_bind (wpAny_holding (wpAny_point (wpAny_pure hr)))) λ_ _ x=>x)
section
variable {X:L2.Cx} {cm:Nat->Addr}
theorem bl3 {l f:Expr} {d:ED} {k:Nat} (hk:Builtin.SmallTypes.fitsIndex (k:Int)=true) {elts:List Expr} {x1:Nat} {tpos p kpos pos:Pos} (hg:L2.Gl X "enumerate") (hm:X.mg "enumerate" = none) (hl:L2.PE X l (EvE X.K cm d)) (hf:L2.PE X f (EvE X.K cm (eK (.int (k:Int))))) (hs:starEach [l] X.env=(false,eval l X.env)::starEach [] X.env:=by exact G0 rfl)
 (h1:backTo pos (starEach [l] X.env)=(false,eval l X.env)::backTo pos (starEach [] X.env):=by rfl)
 (h2:(backTo pos (starEach [l] X.env)).any (·.1)=false:=by rfl) (h3:(backToKw pos (keywordEach [⟨some "start",f,kpos⟩] X.env)).all (·.1.isSome)=true:=by rfl)
 (h4:(backToKw pos (keywordEach [⟨some "start",f,kpos⟩] X.env)).any (·.1.isNone)=false:=by rfl)
 (h5:(backToKw pos (keywordEach [⟨some "start",f,kpos⟩] X.env)).filterMap (·.1)=[("start" : Str)]:=by rfl):L2.PI X (.Tuple elts x1 tpos) (.Call (.Name "enumerate" p) [l] [⟨some "start",f,kpos⟩] pos) (EvI X.K cm (bc1 k d)):=by
 intro pins s σ H R I h
 obtain⟨ρ,A,σp,J,A',rl,rs,ev,kk⟩:=h
 obtain⟨x,A1,e1,ev1⟩:=B0 ev
 refine wpAny_Call_Name_kw (L2.m5 I hg hm PyProof.Rows.boot_enumerate ?_ (by decide) (by decide))
 refine as2 (L2.thn ((r_cons hl r_nil hs) pos pins s σ H (λvs H1=>∃ρ1,Ext ρ H ρ1 H1/\Rel X.K cm ρ1 A1 H1/\RVs ρ1 H1 [x] vs) I ⟨ρ,A,σp,[x],A1,rl,rs,by show bnd (d σp) _ A=_;rw [bnd_ok e1];rfl,λρ1 H1 vs1 x1 rl1 rv1=>⟨ρ1,x1,rl1,rv1⟩⟩) λus s1 ⟨vs,H1,I1,r1,ρ1,x1,rl1,rv1⟩=>L2.thn ((L2.aY4 hf L2.ba5) pos pins s1 σ H1 (λzs H2=>∃a xs,vs=[.ref a]/\zs=[.int (k:Int)]/\L2.SqL X.K H2 a xs/\R (Itk X.K k a) H2) I1 ⟨ρ1,A1,σp,.int k,A1,rl1,rs.mono x1,rfl,λρ2 H2 v2 x2 rl2 rv2=>?_⟩) λws s2 ⟨zs,H2,I2,r2,q2⟩=>?_) h1 h2 h3 h4
 ·cases rv2
  cases x with
  | ref n=>
    obtain⟨m,A2,e2,ev2⟩:=B0 ev1
    cases rv1 with
    | cons hv hr=>
      cases hr
      obtain⟨rfl,a,xs,rfl,hq,r⟩:=J2 rl2 (hv.mono x2) e2
      cases ev2
      cases hv.mono x2 with
      | ref hn=>exact⟨a,xs,rfl,rfl,hq,kk ρ2 H2 _ (x1.trans x2) rl2 ⟨a,hn,rfl⟩⟩
  | _=>cases ev1
 ·rw [h5]
  obtain⟨a,xs,rfl,rfl,hq,q⟩:=q2
  obtain⟨u,rfl,rx⟩:=L2.R8 r1
  obtain⟨z,rfl,rz⟩:=L2.R8 r2
  cases rx
  obtain⟨t,rfl⟩:=(show ∃t,z=Value.int (k:Int) t from rz)
  obtain⟨its,rv,pl,hz⟩:=I2.list hq
  refine aD0 hk pl.isList λh' he hit hsz kp=>?_
  refine wpAny_pyIter_enum he ?_
  have I3:L2.Inv X pins σ H2 { s2 with heap:=h' }:=I2.kept (t':=s2.toks) kp
  refine⟨s2.heap.objs.size+1,[s2.heap.objs.size+1,s2.heap.objs.size],_,_,H2,rfl,I3,aU3 k a _ _ (Nat.succ_ne_self _),⟨⟨_,he⟩,hit⟩,λb hb=>?_,q⟩
  have hb2:s2.heap.objs.size<=b:=by
   rcases List.mem_cons.mp hb with rfl | hb
   ·exact Nat.le_succ _
   ·have:b=s2.heap.objs.size:=by simpa using hb
    exact Nat.le_of_eq this.symm
  exact I2.fpOk hb2 (I2.hok.fresh hb2)
end
end Ws
namespace Ws
open PySem PySem.W PyProof.Rows
end Ws
namespace Ws
open PySem PySem.W PyProof.Rows PySem.SeqAt
open MeetsSeq MeetsSeq2 MeetsSeq3 SeqRoads2
noncomputable def LeAt (A:Around) (s:Shared) (y x:Value) (b:Bool):Prop:=
 ∀(prog:Program) (w:World) (E:Value->Shared->Prop) (Q:Value->Shared->Prop),Q (.bool b) s->wpAny (model prog w) A (richCompare .LtE y x) Q E s
theorem LeAt.ints (A:Around) (s:Shared) (i j:Int) (t u:Tok):LeAt A s (.int i t) (.int j u) (decide (i<=j)):=λprog w E Q h=>by
 show wpAny _ _ (compareOp .LtE (.int i t) (.int j u)) _ _ _
 exact le_int h
theorem aM6 (l b:Addr) (x0 x1 y0 y1:Value) (n n2:Nat) (dd dd2:Option Addr) (sl sl2:Array (Option Value)) (e0 e1 b0 b1:Bool) :
 Meets (Builtin.«tuple.__le__» ⟨[.ref l,.ref b],[]⟩)
  (λA R s=>s.heap.get? l=some { cls:=.type "tuple",dict:=dd,data:=.seq #[x0,x1] n,slots:=sl }/\s.heap.get? b=some { cls:=.type "tuple",dict:=dd2,data:=.seq #[y0,y1] n2,slots:=sl2 }/\
   EqAt A.in1 s x0 y0 e0/\(e0=false->LeAt A.in1 s x0 y0 b0)/\(e0=true->EqAt A.in1 s x1 y1 e1)/\(e0=true->e1=false->LeAt A.in1 s x1 y1 b1)/\
   R (.ok (.ret (.bool (if e0 then (if e1 then true else b1) else b0)))) s):=
 .of_wp λprog w A R s h=>by
  obtain⟨hp,g,d,tk,os⟩:=s;obtain⟨hl,hb,h0,h1,h2,h3,h⟩:=h
  have f2:=AutoSeq1.sub_tuple_tuple
  wp_walk using AutoSeq1.wpAny_loadPart' hl,AutoSeq1.wpAny_loadPart' hb,wpAny_forIn_list _ (λrest b s'=>b.1=none/\s'=⟨hp,g,d,tk,os⟩/\((rest=[(x0,y0),(x1,y1)])\/(rest=[(x1,y1)]/\e0=true)\/(rest=[]/\e0=true/\e1=true))) _
  case turn=>
   rintro⟨y,x⟩ rest b s' ⟨hb',rfl,hz⟩
   rcases hz with hz | ⟨hz,he⟩ | ⟨hz,_⟩
   ·injection hz with hyx hrest
    injection hyx with e1 e2
    subst e1 e2 hrest
    refine wpAny_bind (h0 prog w _ _ ?_)
    cases he0:e0 with
    | true=>
      wp_walk
      exact⟨rfl,rfl,.inr (.inl ⟨rfl,rfl⟩)⟩
    | false=>
      rw [he0] at h
      simp only [Bool.not_false,if_true]
      refine wpAny_bind (wpAny_rule ?_)
      refine wpAny_bind (h1 he0 prog w _ _ ?_)
      wp_walk
      exact⟨_,rfl,h⟩
   ·injection hz with hyx hrest
    injection hyx with e1' e2'
    subst e1' e2' hrest
    refine wpAny_bind (h2 he prog w _ _ ?_)
    cases he1:e1 with
    | true=>
      wp_walk
      exact⟨rfl,rfl,.inr (.inr ⟨rfl,he,rfl⟩)⟩
    | false=>
      rw [he,he1] at h
      simp only [Bool.not_false,if_true]
      refine wpAny_bind (wpAny_rule ?_)
      refine wpAny_bind (h3 he he1 prog w _ _ ?_)
      wp_walk
      exact⟨_,rfl,h⟩
   ·cases hz
  case fin=>
   rintro⟨b1',b2'⟩ s' ⟨hb',rfl,hz⟩
   simp only at hb'
   subst hb'
   rcases hz with hz | ⟨hz,he⟩ | ⟨_,he,he1⟩
   ·cases hz
   ·cases hz
   ·rw [he,he1] at h
    wp_walk
    exact⟨_,rfl,by simpa [Builtin.Tuple.tupleCompareSizes] using h⟩
  case h=>
   exact⟨rfl,rfl,.inl rfl⟩
theorem LeAt.tuples {A:Around} {s:Shared} {l b:Addr} {x0 x1 y0 y1:Value} {e0 e1 b0 b1:Bool} (hl:s.heap.IsTuple l #[x0,x1]) (hb:s.heap.IsTuple b #[y0,y1]) (hu:A.units<cLine)
 (h0:EqAt A.in1 s x0 y0 e0) (h1:e0=false->LeAt A.in1 s x0 y0 b0) (h2:e0=true->EqAt A.in1 s x1 y1 e1) (h3:e0=true->e1=false->LeAt A.in1 s x1 y1 b1):LeAt A s (.ref l) (.ref b) (if e0 then (if e1 then true else b1) else b0):=λprog w E Q h=>by
 obtain⟨⟨cls,dd,data,sl⟩,ho,hc,n,hd⟩:=id hl
 obtain⟨⟨cls2,dd2,data2,sl2⟩,ho2,hc2,n2,hd2⟩:=id hb
 simp only at hc hd hc2 hd2
 subst hc hd hc2 hd2
 exact richCompare_meets_room (op:=.LtE) ⟨_,ho,rfl⟩ ⟨_,ho2,rfl⟩ F.slot_tuple_le F.entry_tuple_le (F.args_tuple_le_2 _ _) (aM6 l b x0 x1 y0 y1 n n2 dd dd2 sl sl2 e0 e1 b0 b1)
  ⟨ho,ho2,h0,h1,h2,h3,show Value.bool _≠Value.notImplemented/\Q (.bool _) s from ⟨(λx=>nomatch x),h⟩⟩ hu
theorem aM7 (l b:Addr) (x0 x1:Value) (n n2:Nat) (dd dd2:Option Addr) (sl sl2:Array (Option Value)) :
 Meets (Builtin.«tuple.__le__» ⟨[.ref l,.ref b],[]⟩)
  (λA R s=>s.heap.get? l=some { cls:=.type "tuple",dict:=dd,data:=.seq #[x0,x1] n,slots:=sl }/\s.heap.get? b=some { cls:=.type "tuple",dict:=dd2,data:=.seq #[] n2,slots:=sl2 }/\
   R (.ok (.ret (.bool false))) s):=
 .of_wp λprog w A R s h=>by
  obtain⟨hp,g,d,tk,os⟩:=s;obtain⟨hl,hb,h⟩:=h
  have f2:=AutoSeq1.sub_tuple_tuple
  wp_walk using AutoSeq1.wpAny_loadPart' hl,AutoSeq1.wpAny_loadPart' hb,wpAny_forIn_list _ (λrest b s'=>b.1=none/\s'=⟨hp,g,d,tk,os⟩/\rest=[]) _
  case turn=>
   rintro⟨y,x⟩ rest b s' ⟨hb',rfl,hz⟩
   cases hz
  case fin=>
   rintro⟨b1',b2'⟩ s' ⟨hb',rfl,hz⟩
   simp only at hb'
   subst hb'
   wp_walk
   exact⟨_,rfl,by simpa [Builtin.Tuple.tupleCompareSizes] using h⟩
  case h=>
   exact⟨rfl,rfl,rfl⟩
theorem LeAt.empty {A:Around} {s:Shared} {l b:Addr} {x0 x1:Value} (hl:s.heap.IsTuple l #[x0,x1]) (hb:s.heap.IsTuple b #[]) (hu:A.units<cLine):LeAt A s (.ref l) (.ref b) false:=λprog w E Q h=>by
 obtain⟨⟨cls,dd,data,sl⟩,ho,hc,n,hd⟩:=id hl
 obtain⟨⟨cls2,dd2,data2,sl2⟩,ho2,hc2,n2,hd2⟩:=id hb
 simp only at hc hd hc2 hd2
 subst hc hd hc2 hd2
 exact richCompare_meets_room (op:=.LtE) ⟨_,ho,rfl⟩ ⟨_,ho2,rfl⟩ F.slot_tuple_le F.entry_tuple_le (F.args_tuple_le_2 _ _) (aM7 l b x0 x1 n n2 dd dd2 sl sl2)
  ⟨ho,ho2,show Value.bool _≠Value.notImplemented/\Q (.bool _) s from ⟨(λx=>nomatch x),h⟩⟩ hu
section
variable {A:Around} {s:Shared}
theorem as3 {P:Program} {W:World} {a b:Addr} {xs ys:List (List L2.Key×Addr×Value)} {num:Value->Int} (hda:(a == sysModules)=false) (hdb:(b == sysModules)=false) (ha:s.heap.DictOfH (TK P W) a xs) (hb:s.heap.DictOfH (TK P W) b ys) (ia:ac8 xs) (ib:ac8 ys) (hu:A.units+1<cLine)
 (hx:∀x∈xs,∃t,x.2.2=.int (num x.2.2) t) (hy:∀y∈ys,∃t,y.2.2=.int (num y.2.2) t):RcNeAt A s (.ref a) (.ref b) (!(xs.length == ys.length&&xs.all (V9 num ys))):=λprog w E Q h=>by
 have ha':=aT7 ha ia prog w
 have hb':=aT7 hb ib prog w
 refine wpAny_richCompare_same_room (op:=.NotEq) ha.typeIs hb.typeIs PySem.F.slot_dict_ne (wpAny_call_entry PySem.F.slot_dict_ne ha.typeIs PySem.F.entry_dict_ne ?_ (PySem.F.args_dict_ne_2 _ _)) (by omega)
 unfold Builtin.«dict.__ne__»
 show wpAny _ _ (Builtin.Dict.dictSlotArgs "__ne__" ⟨[.ref a,.ref b],[]⟩>>=_) _ _ s
 refine wpAny_bind ?_
 unfold Builtin.Dict.dictSlotArgs
 refine wpAny_bind (wpAny_notOrdered_dict ha.typeIs ?_)
 show wpAny _ _ (pure (Value.ref a,Value.ref b)) _ _ s
 refine wpAny_pure ?_
 refine wpAny_bind (wpAny_isInstance hb.typeIs isSubtype_dict_dict ?_)
 simp only [Bool.not_true,Bool.false_eq_true,if_false]
 show wpAny _ _ (Builtin.Dict.samePairs _ a b>>=_) _ _ s
 refine wpAny_bind (aC6 (knd:=TK prog w) (num:=num) hda hdb ha' hb' (tupleKind_room_in1 hu) hx hy ?_)
 refine wpAny_pure ⟨_,rfl,(λx=>nomatch x),?_⟩
 rw [show ((xs.length == ys.length&&xs.all (V9 num ys)) == false)=(!(xs.length == ys.length&&xs.all (V9 num ys))) by cases (xs.length == ys.length&&xs.all (V9 num ys)) <;> rfl]
 exact h
end
section
variable {X:L2.Cx} {cm:Nat->Addr} {pins:List (Addr×Obj)} {σ:L2.St} {H:L2.Hp} {s:Shared}
noncomputable def rNeD:L2.R2:=λx y H Q=>∃(ρ:List Addr) (a b:Addr) (m m':List (List Int×PV)) (kv kv':List (List L2.Key×L2.V)),x=.ref a/\y=.ref b/\H a=some (.dT kv)/\H b=some (.dT kv')/\PT2 ρ H m kv/\PT2 ρ H m' kv'/\t3 m/\t3 m'/\Q (.bl (!ab2 m m')) H
theorem bf2 (hr:X.A.units+64<cLine):L2.OpR X (compareOp .NotEq) rNeD:=by
 intro pins s σ H x y v u Q I rx ry q
 obtain⟨ρ,a,b,m,m',kv,kv',rfl,rfl,ha,hb,hp,hp',im,im',q⟩:=q
 cases rx;cases ry
 obtain⟨_,hda,xs,rel,dd⟩:=L2.au6 I.hok ha
 obtain⟨_,hdb,ys,rel',dd'⟩:=L2.au6 I.hok hb
 have r1:=aa0 hp' rel' im' hp rel im
 have r2:=aa0 hp rel im hp' rel' im'
 have hl:(xs.length == ys.length)=(m.length == m'.length):=by
  have e1:xs.length=m.length:=by rw [hp.len];exact (Paired.length rel).symm
  have e2:ys.length=m'.length:=by rw [hp'.len];exact (Paired.length rel').symm
  rw [e1,e2]
 have key:=as3 (A:=X.A) (s:=s) hda hdb dd dd' r1.2.2 r2.2.2 (by omega) r1.2.1 r2.2.1
 have e:(xs.length == ys.length&&xs.all (V9 aT8 ys))=ab2 m m':=by
  unfold ab2
  rw [hl,r1.1]
  try rfl
 rw [e] at key
 exact key _ _ _ _ ⟨.bl _,H,I,rfl,q⟩
theorem bf3:M6 X.K cm bd0 rNeD:=λρ B H x y z B' vx vy Q rl rx ry ev k=>by
 cases x with
 | ref n=>
   cases y with
   | ref j=>
     obtain⟨b,B1,e1,ev1⟩:=B0 ev
     cases ev1
     obtain⟨m,B2,e2,e3⟩:=B0 e1
     obtain⟨rfl,hA,a,kv,rfl,hn,hH,hp⟩:=R3 rl rx e2
     obtain⟨m',B3,e4,e5⟩:=B0 e3
     obtain⟨rfl,hA2,a2,kv2,rfl,hn2,hH2,hp2⟩:=R3 rl ry e4
     obtain⟨c,e6⟩:=C5 e5
     cases e6
     exact⟨ρ,a,a2,m,m',kv,kv2,rfl,rfl,hH,hH2,hp,hp2,c.1,c.2.1,k ρ H _ (Ext.refl _ _) rl (.bl _)⟩
   | _=>cases ev
 | _=>cases y <;> cases ev
noncomputable def rLeT:L2.R2:=λx y H Q=>∃(a b:Addr) (i j:Int),x=.ref a/\y=.ref b/\H a=some (.tup [.int i,.int j])/\
 ((∃k m,H b=some (.tup [.int k,.int m])/\Q (.bl (if i=k then decide (j<=m) else decide (i<k))) H)\/(H b=some (.tup [])/\Q (.bl false) H))
theorem bf4 (hr:X.A.units+64<cLine):L2.OpR X (compareOp .LtE) rLeT:=by
 intro pins s σ H x y v u Q I rx ry q
 obtain⟨a,b,i,j,rfl,rfl,ha,q⟩:=q
 cases rx;cases ry
 obtain⟨_,its,ri,pi⟩:=I.hok _ _ ha
 obtain⟨w0,w1,rfl,r0,r1⟩:=L2.au1 ri
 obtain⟨t,rfl⟩:=(show ∃t,w0=Value.int i t from r0)
 obtain⟨t1,rfl⟩:=(show ∃t,w1=Value.int j t from r1)
 rcases q with ⟨k,m,hb,q⟩ | ⟨hb,q⟩
 ·obtain⟨_,its2,ri2,pi2⟩:=I.hok _ _ hb
  obtain⟨v0,v1,rfl,s0,s1⟩:=L2.au1 ri2
  obtain⟨t',rfl⟩:=(show ∃t,v0=Value.int k t from s0)
  obtain⟨t1',rfl⟩:=(show ∃t,v1=Value.int m t from s1)
  have key:=LeAt.tuples (A:=X.A) (s:=s) (e0:=decide (i=k)) (e1:=decide (j=m)) (b0:=decide (i<=k)) (b1:=decide (j<=m)) pi pi2 (by omega) (ag8 _ _ _ _ _ _) (λ_=>LeAt.ints _ _ _ _ _ _)
   (λ_=>ag8 _ _ _ _ _ _) (λ_ _=>LeAt.ints _ _ _ _ _ _)
  have e:(if decide (i=k)=true then (if decide (j=m)=true then true else decide (j<=m)) else decide (i<=k))=if i=k then decide (j<=m) else decide (i<k):=by
   by_cases h:i=k
   ·rw [if_pos h,if_pos (decide_eq_true h)]
    by_cases h2:j=m
    ·rw [if_pos (decide_eq_true h2),h2];simp
    ·rw [if_neg (by simpa using h2)]
   ·rw [if_neg h,if_neg (by simpa using h)]
    simp only [decide_eq_decide];omega
  rw [e] at key
  exact key _ _ _ _ ⟨.bl _,H,I,rfl,q⟩
 ·obtain⟨_,its2,ri2,pi2⟩:=I.hok _ _ hb
  obtain rfl:its2=[]:=by cases ri2;rfl
  exact LeAt.empty pi pi2 (by omega) _ _ _ _ ⟨.bl _,H,I,rfl,q⟩
theorem bf5:M6 X.K cm aQ4 rLeT:=λρ B H x y z B' vx vy Q rl rx ry ev k=>by
 cases x with
 | tup lx=>
   match lx,rx,ev with
   | [.int i,.int j],.tup ha r1,ev=>
     cases y with
     | tup ly=>
       cases r1 with
       | cons a1 r1=>
       cases r1 with
       | cons a2 r1=>
       cases r1;cases a1;cases a2
       match ly,ry,ev with
       | [.int k',.int m],.tup hb r2,ev=>
         cases r2 with
         | cons b1 r2=>
         cases r2 with
         | cons b2 r2=>
         cases r2;cases b1;cases b2
         cases ev
         exact⟨_,_,i,j,rfl,rfl,ha,.inl ⟨k',m,hb,k ρ H _ (Ext.refl _ _) rl (.bl _)⟩⟩
       | [],.tup hb r2,ev=>
         cases r2
         cases ev
         exact⟨_,_,i,j,rfl,rfl,ha,.inr ⟨hb,k ρ H _ (Ext.refl _ _) rl (.bl _)⟩⟩
     | _=>cases ev
 | _=>cases y <;> cases ev
noncomputable def rKeysDT:List L2.V->L2.Hp->L2.VK->Prop:=λvs H Q=>∃(a:Addr) (kvs:List (List L2.Key×L2.V)) (ts:List (List Int)),vs=[.ref a]/\H a=some (.dT kvs)/\kvs.map (·.1)=ts.map (List.map (Sum.inl:Int->L2.Key))/\(∀t∈ts,t≠[])/\
 ∀(l:Addr) (ys:List L2.V),Paired (TupV H) ys ts->H l=none->Q (.ref l) (L2.upd H l (.lst ys))
theorem ax8 (hcalm:X.calm=true):L2.CallR X (.type "list") rKeysDT:=by
 intro pins s σ H xs us Q I r h
 obtain⟨a,kvs,ts,rfl,hH,hkeys,hne,q⟩:=h
 obtain⟨u,rfl,rx⟩:=L2.R8 r
 cases rx
 obtain⟨z,hd,xs,rel,dd⟩:=L2.au6 I.hok hH
 obtain⟨oo,es,ep,hoo,hc,hdat,hes,his,hnd⟩:=id dd
 have hesz:es.size=xs.length:=size_of_entries hes
 have hl:kvs.length=xs.length:=Paired.length rel
 have hT:=a41 rel hkeys hne
 refine kdl_call (aM2 (es:=es) (ep:=ep) hd) (I.ok.hd hcalm) ⟨oo,hoo,hc,hdat⟩ (by rw [hesz,←hl];exact z) λh' tk acc c hk hD hacc=>?_
 have hal:acc.toList=xs.map λq=>Value.ref q.2.1:=by
  refine List.ext_getElem? λj=>?_
  rw [Array.getElem?_toList]
  cases hj:acc[j]? with
  | none=>
    have h1:acc.size<=j:=by simpa using hj
    rw [hacc.1,hesz] at h1
    rw [List.getElem?_eq_none (by simpa using h1)]
  | some v=>
    have h1:(es[j]?).map (·.key)=some v:=hacc.2 j v hj
    rw [entry_at hes j,Option.map_map] at h1
    rw [List.getElem?_map]
    exact h1.symm
 have hv:L2.Vals (xs.map λq=>L2.V.ref q.2.1) acc.toList:=by
  rw [hal]
  clear hal hT hes hl rel dd hesz his hnd
  induction xs with
  | nil=>exact .nil
  | cons q r ih=>exact .cons rfl ih
 refine⟨.ref _,_,I.laid (t':=tk) (o:=.lst (xs.map λq=>L2.V.ref q.2.1)) hk (Nat.le_refl _) ⟨by rw [List.length_map,←hl];exact z,acc.toList,c,hv,?_⟩,rfl,q _ _ hT (I.hok.fresh (Nat.le_refl _))⟩
 rw [Array.toArray_toList];exact hD
theorem a43 {e:Expr} {d:ED} {p pos:Pos} (hcalm:X.calm=true) (he:L2.PE X e (EvE X.K cm d)) (hg:L2.Gl X "list") (hm:X.mg "list" = none) (hs:starEach [e] X.env=(false,eval e X.env)::starEach [] X.env:=by exact G0 rfl):L2.PE X (.Call (.Name "list" p) [e] [] pos) (EvE X.K cm (aB4 d)):=
 E3 (L2.S5 (ax8 hcalm) hg hm PyProof.Rows.boot_list (r_cons he r_nil hs) (he:=hs)) λσ H Q h=>U9 (f:=λx=>match x with | .ref n=>bnd (R1 n) λm=>D2 (m.length<=LIM/\∀p∈m,p.1≠[]) (alloc (.lst (m.map λp=>.tup (p.1.map .int)))) | _=>stuck) (λ_=>rfl) (λρ A H x z A' v Q rl rx ev k=>by
  cases x with
  | ref n=>
    obtain⟨m,A1,e1,ev1⟩:=B0 ev
    obtain⟨rfl,hA,a,kv,rfl,hn,hH,hp⟩:=R3 rl rx e1
    obtain⟨⟨h64,hne⟩,ev2⟩:=C5 ev1
    cases ev2
    refine⟨a,kv,m.map (·.1),rfl,hH,by rw [hp.keys,List.map_map];rfl,λt ht=>?_,λD ys hT hD=>?_⟩
    ·obtain⟨q,hq,rfl⟩:=List.mem_map.mp ht
     exact hne q hq
    have hr:RVs ρ H ((m.map (·.1)).map λt=>PV.tup (t.map .int)) ys:=by
     clear k h64 hne hp hA
     generalize m.map (·.1)=ts at hT
     induction hT with
     | nil=>exact .nil
     | cons h _ ih=>
       obtain⟨b,rfl,hb,_⟩:=h
       exact .cons (.tup hb (RVs.ints _)) ih
    rw [List.map_map] at hr
    have ex:Ext ρ H (ρ++[D]) (L2.upd H D (.lst ys)):=Ext.new hD
    exact k (ρ++[D]) _ _ ex (rl.alloc hD ⟨_,L2.D4,hr.mono ex⟩ rfl) (.ref (by rw [←rl.len];simp))
  | _=>cases ev) h
end
end Ws
namespace Ws
noncomputable abbrev XP:=Nat->PV->PHp->Prop
noncomputable def Wp {α:Type} (m:M α) (A:PHp) (Q:α->PHp->Prop) (E:XP):Prop:=match m A with
 | .ok a A'=>Q a A'
 | .ex c v A'=>E c v A'
 | .no=>False
noncomputable abbrev NoX:XP:=λ_ _ _=>False
section
variable {α β:Type} {m:M α} {f:α->M β} {A A' A1 B:PHp} {a:α} {E E':XP} {σ σ':PSt}
theorem w_eq {Q:α->PHp->Prop} (h:m A=.ok a A') (q:Q a A'):Wp m A Q E:=by unfold Wp;rw [h];exact q
theorem bl4 {Q:α->PHp->Prop} (h:Wp m A Q NoX):∃a A',m A=.ok a A'/\Q a A':=by
 unfold Wp at h
 cases e:m A with
 | ok a A'=>rw [e] at h;exact⟨a,A',rfl,h⟩
 | ex c v A'=>rw [e] at h;exact h.elim
 | no=>rw [e] at h;exact h.elim
theorem a44 {Q Q':α->PHp->Prop} (h:Wp m A Q E) (hq:∀a A',Q a A'->Q' a A') (he:∀c v A',E c v A'->E' c v A'):Wp m A Q' E':=by
 unfold Wp at h ⊢
 cases e:m A with
 | ok a A'=>rw [e] at h;exact hq _ _ h
 | ex c v A'=>rw [e] at h;exact he _ _ _ h
 | no=>rw [e] at h;exact h.elim
theorem w_mono {Q Q':α->PHp->Prop} (h:Wp m A Q E) (hq:∀a A',Q a A'->Q' a A'):Wp m A Q' E:=a44 h hq λ_ _ _ z=>z
theorem aH8 {Q:α->PHp->Prop} (q:Q a A):Wp (ret a) A Q E:=q
theorem C0 {Q:β->PHp->Prop} (h:Wp m A (λa A1=>Wp (f a) A1 Q E) E):Wp (bnd m f) A Q E:=by
 unfold Wp at h ⊢
 unfold bnd
 cases e:m A with
 | ok a A'=>rw [e] at h;exact h
 | ex c v A'=>rw [e] at h;exact h
 | no=>rw [e] at h;exact h
theorem D1 {P:Prop} {Q:α->PHp->Prop} (p:P) (h:Wp m A Q E):Wp (D2 P m) A Q E:=by rw [J0 p];exact h
variable {Q:PV->PHp->Prop} {e e1 e2 e3:ED} {es:AD} {v x y:PV} {i j:Int} {k n:Nat} {l:List PV}
theorem w_var (h:σ[k]?=some (some v)) (q:Q v A):Wp (eVar k σ) A Q E:=w_eq (a:=v) (by show (eVar k σ) A=_;unfold eVar;rw [h];rfl) q
theorem w_k (q:Q v A):Wp (eK v σ) A Q E:=q
theorem w_nil {Q:List PV->PHp->Prop} (q:Q [] A):Wp (aNil σ) A Q E:=q
theorem w_cons {Q:List PV->PHp->Prop} (h:Wp (e σ) A (λx A1=>Wp (es σ) A1 (λxs A2=>Q (x::xs) A2) E) E):Wp (aCons e es σ) A Q E:=
 C0 (w_mono h λ_ _ h1=>C0 (w_mono h1 λ_ _ h2=>h2))
theorem w_tup (h:Wp (es σ) A (λxs A1=>xs.length<=LIM/\Q (.tup xs) A1) E):Wp (U7 es σ) A Q E:=C0 (w_mono h λ_ _ ⟨h1,h2⟩=>D1 h1 h2)
theorem w_lst (h:Wp (es σ) A (λxs A1=>xs.length<=LIM/\Q (.ref A1.length) (A1++[.lst xs])) E):Wp (j4 es σ) A Q E:=C0 (w_mono h λ_ _ ⟨h1,h2⟩=>D1 h1 h2)
theorem w_bin {f:OD} (h:Wp (e1 σ) A (λx A1=>Wp (e2 σ) A1 (λy A2=>Wp (f x y) A2 Q E) E) E):Wp (C3 f e1 e2 σ) A Q E:=C0 (w_mono h λ_ _ h1=>C0 h1)
theorem w_add (q:Q (.int (i+j)) A):Wp (P4 (.int i) (.int j)) A Q E:=q
theorem w_addT {l m:List PV} (h:l≠[]/\l.length+m.length<=LIM) (q:Q (.tup (l++m)) A):Wp (P4 (.tup l) (.tup m)) A Q E:=D1 h q
theorem ax9 {Q:List PV->PHp->Prop} (h:A[n]?=some (.lst l)) (q:Q l A):Wp (Q9 n) A Q E:=w_eq (V2 h) q
theorem aD2 {n k:Nat} {l m:List PV} (hn:A[n]?=some (.lst l)) (hk:A[k]?=some (.lst m)) (hl:l.length+m.length<=LIM) (q:Q (.ref A.length) (A++[.lst (l++m)])):Wp (P4 (.ref n) (.ref k)) A Q E:=
 C0 (ax9 hn (C0 (ax9 hk (D1 hl q))))
theorem w_mul (h:(-(2 ^ 64)<i/\i<2 ^ 64)\/(-(2 ^ 64)<j/\j<2 ^ 64)) (q:Q (.int (i*j)) A):Wp (aq3 (.int i) (.int j)) A Q E:=D1 h q
theorem w_mod (h:0<j) (q:Q (.int (i%j)) A):Wp (Q0 (.int i) (.int j)) A Q E:=D1 h q
theorem w_lt (q:Q (.bl (decide (i<j))) A):Wp (oLt (.int i) (.int j)) A Q E:=q
theorem w_le (q:Q (.bl (decide (i<=j))) A):Wp (oLe (.int i) (.int j)) A Q E:=q
theorem w_eqI (q:Q (.bl (decide (i=j))) A):Wp (oEq (.int i) (.int j)) A Q E:=C0 (D1 (.inr ⟨rfl,rfl⟩) q)
theorem w_neI (q:Q (.bl (!decide (i=j))) A):Wp (oNe (.int i) (.int j)) A Q E:=C0 (D1 (.inr ⟨rfl,rfl⟩) q)
theorem a68 (hx:plain x=true) (hy:plain y=true) (q:Q (.bl (eqv x y)) A):Wp (oEq x y) A Q E:=by
 cases x with
 | ref n=>cases hx
 | _=>exact C0 (D1 (.inr ⟨hx,hy⟩) q)
theorem a69 (hx:plain x=true) (hy:plain y=true) (q:Q (.bl (!eqv x y)) A):Wp (oNe x y) A Q E:=by
 cases x with
 | ref n=>cases hx
 | _=>exact C0 (D1 (.inr ⟨hx,hy⟩) q)
theorem Q8 {Q:List PV->PHp->Prop} (h:A[n]?=some (.lst l)) (q:Q l A):Wp (D0 n) A Q E:=w_eq (D8 h) q
theorem a70 {n k:Nat} {l m:List PV} (hn:A[n]?=some (.lst l)) (hk:A[k]?=some (.lst m)) (hp:K9 l=true/\K9 m=true) (q:Q (.bl (R4 l m)) A):Wp (oEq (.ref n) (.ref k)) A Q E:=
 C0 (C0 (Q8 hn (C0 (Q8 hk (D1 hp q)))))
theorem a71 {n k:Nat} {l m:List PV} (hn:A[n]?=some (.lst l)) (hk:A[k]?=some (.lst m)) (hp:K9 l=true/\K9 m=true) (q:Q (.bl (!R4 l m)) A):Wp (oNe (.ref n) (.ref k)) A Q E:=
 C0 (C0 (Q8 hn (C0 (Q8 hk (D1 hp q)))))
theorem w_isN (h:Wp (e σ) A (λx A1=>Q (.bl (au8 x)) A1) E):Wp (aP8 e σ) A Q E:=C0 h
theorem w_chain {f g:OD} (h:Wp (e1 σ) A (λx A1=>Wp (e2 σ) A1 (λy A2=>Wp (f x y) A2 (λz A3=>∃b,z=.bl b/\((b=true->Wp (e3 σ) A3 (λu A4=>Wp (g y u) A4 Q E) E)/\(b=false->Q (.bl false) A3))) E) E) E):Wp (m7 f g e1 e2 e3 σ) A Q E:=
 C0 (w_mono h λ_ _ h1=>C0 (w_mono h1 λ_ _ h2=>C0 (w_mono h2 λz A3 ⟨b,hz,h3,h4⟩=>by
  subst hz
  cases b with
  | true=>exact C0 (h3 rfl)
  | false=>exact h4 rfl)))
variable {QB:Bool->PHp->Prop} {t t1 t2:TD} {b:Bool}
theorem w_true (q:QB true A):Wp (Z5 σ) A QB E:=q
theorem w_tval (h:Wp (e σ) A (λx A1=>∃b,x=.bl b/\QB b A1) E):Wp (G1 e σ) A QB E:=C0 (w_mono h λx A1 ⟨b,hx,q⟩=>by subst hx;exact q)
theorem w_tor (h:Wp (t1 σ) A (λb A1=>(b=true->QB true A1)/\(b=false->Wp (t2 σ) A1 QB E)) E):Wp (tOr t1 t2 σ) A QB E:=C0 (w_mono h λb A1 ⟨h1,h2⟩=>by
 cases b with
 | true=>exact h1 rfl
 | false=>exact h2 rfl)
theorem w_tnot (h:Wp (t σ) A (λb A1=>QB (!b) A1) E):Wp (tNot t σ) A QB E:=C0 h
theorem w_and (h:Wp (e1 σ) A (λx A1=>∃b,x=.bl b/\((b=true->Wp (e2 σ) A1 Q E)/\(b=false->Q (.bl false) A1))) E):Wp (aq5 e1 e2 σ) A Q E:=C0 (C0 (w_mono h λx A1 ⟨b,hx,h1,h2⟩=>by
 subst hx
 cases b with
 | true=>exact h1 rfl
 | false=>exact h2 rfl))
theorem w_or (h:Wp (e1 σ) A (λx A1=>∃b,x=.bl b/\((b=true->Q (.bl true) A1)/\(b=false->Wp (e2 σ) A1 Q E))) E):Wp (eOr e1 e2 σ) A Q E:=C0 (C0 (w_mono h λx A1 ⟨b,hx,h1,h2⟩=>by
 subst hx
 cases b with
 | true=>exact h1 rfl
 | false=>exact h2 rfl))
theorem w_ifE (h:Wp (t σ) A (λb A1=>(b=true->Wp (e1 σ) A1 Q E)/\(b=false->Wp (e2 σ) A1 Q E)) E):Wp (eIf t e1 e2 σ) A Q E:=C0 (w_mono h λb A1 ⟨h1,h2⟩=>by
 cases b with
 | true=>exact h1 rfl
 | false=>exact h2 rfl)
theorem w_ixL (hn:A[n]?=some (.lst l)) (hi:atI l i=some v) (q:Q v A):Wp (oIx (.ref n) (.int i)) A Q E:=C0 (Q8 hn (by rw [hi];exact q))
theorem w_len (h:Wp (e σ) A (λx A1=>Wp (P0 x) A1 (λl A2=>Q (.int l.length) A2) E) E):Wp (ae0 e σ) A Q E:=C0 (w_mono h λ_ _ h1=>C0 h1)
theorem w_seqL {Q:List PV->PHp->Prop} (h:A[n]?=some (.lst l)) (q:Q l A):Wp (P0 (.ref n)) A Q E:=Q8 h q
theorem w_listOf (h:Wp (e σ) A (λx A1=>Wp (P0 x) A1 (λl A2=>Q (.ref A2.length) (A2++[.lst l])) E) E):Wp (r8 e σ) A Q E:=C0 (w_mono h λ_ _ h1=>C0 h1)
theorem w_tupleOf (h:Wp (e σ) A (λx A1=>∃n l,x=.ref n/\A1[n]?=some (.lst l)/\l.length<=LIM/\Q (.tup l) A1) E):Wp (ae8 e σ) A Q E:=C0 (w_mono h λx A1 ⟨n,l,hx,h1,h2,q⟩=>by
 subst hx
 exact C0 (Q8 h1 (D1 h2 q)))
variable {QO:Option Int->PHp->Prop} {lo hi:LD}
theorem w_lno (q:QO none A):Wp (lNo σ) A QO E:=q
theorem w_lat (h:Wp (e σ) A (λx A1=>∃i,x=.int i/\QO (some i) A1) E):Wp (lAt e σ) A QO E:=C0 (w_mono h λx A1 ⟨i,hx,q⟩=>by subst hx;exact q)
theorem w_cut (h:Wp (e σ) A (λx A1=>Wp (lo σ) A1 (λl A2=>Wp (hi σ) A2 (λh A3=>(∃n xs,x=.ref n/\D0 n A3=.ok xs A3/\Q (.ref A3.length) (A3++[.lst (cut xs l h)]))\/
 ∃xs,x=.tup xs/\¬(j6 xs.length 0 l=0/\j6 xs.length xs.length h=xs.length)/\Q (.tup (cut xs l h)) A3) E) E) E):Wp (X5 e lo hi σ) A Q E:=
 C0 (w_mono h λ_ _ h1=>C0 (w_mono h1 λ_ _ h2=>C0 (w_mono h2 λ_ _ h3=>by
  rcases h3 with ⟨n,xs,rfl,hn,q⟩ | ⟨xs,rfl,hn,q⟩
  ·exact C0 (w_eq hn q)
  ·exact D1 hn q)))
theorem am4:∀bs:List Bool,j8 (bs.map PV.bl)=some bs
 | []=>rfl
 | b::r=>by rw [List.map_cons];show (j8 (r.map PV.bl)).map (b :: ·)=_;rw [am4 r];rfl
theorem w_all (h:Wp (e σ) A (λx A1=>∃(n:Nat) (bs:List Bool),x=.ref n/\A1[n]?=some (.lst (bs.map PV.bl))/\Q (.bl (bs.all id)) A1) E):Wp (aK5 e σ) A Q E:=C0 (w_mono h λx A1 ⟨n,bs,hx,h1,q⟩=>by
 subst hx
 refine C0 (Q8 h1 ?_)
 rw [am4];exact q)
theorem w_append {e1 e2:ED} (h:Wp (e1 σ) A (λx A1=>∃n l,x=.ref n/\A1[n]?=some (.lst l)/\Wp (e2 σ) A1 (λv A2=>∃l2,A2[n]?=some (.lst l2)/\l2.length<LIM/\Q .non (A2.set n (.lst (l2++[v])))) E) E):Wp (P5 e1 e2 σ) A Q E:=
 C0 (w_mono h λx A1 ⟨n,l,hx,h1,h2⟩=>by
  subst hx
  exact C0 (ax9 h1 (C0 (w_mono h2 λv A2 ⟨l2,h3,h4,q⟩=>C0 (ax9 h3 (D1 h4 q))))))
theorem w_fld (h:Wp (e σ) A (λx A1=>∃n c fs v,x=.ref n/\A1[n]?=some (.ins c fs)/\U8 k fs=some v/\Q v A1) E):Wp (j5 e k σ) A Q E:=
 C0 (w_mono h λx A1 ⟨n,c,fs,v,hx,h1,h2,q⟩=>by
  subst hx
  refine C0 (w_eq (a:=(c,fs)) (A':=A1) (by show T7 n A1=_;unfold T7;rw [h1]) ?_)
  show Wp (match U8 k fs with | some v=>_ | none=>_) _ _ _
  rw [h2];exact q)
theorem w_call {f:Fun} (h:Wp (es σ) A (λvs A1=>Wp (f vs) A1 Q E) E):Wp (E5 f es σ) A Q E:=C0 h
theorem w_meth {c:Nat} {f:Fun} (h:Wp (e σ) A (λx A1=>∃n fs,x=.ref n/\A1[n]?=some (.ins c fs)/\Wp (es σ) A1 (λvs A2=>Wp (f (.ref n::vs)) A2 Q E) E) E):Wp (al4 c f e es σ) A Q E:=
 C0 (w_mono h λx A1 ⟨n,fs,hx,h1,h2⟩=>by
  subst hx
  exact C0 (w_eq (a:=(c,fs)) (A':=A1) (by show T7 n A1=_;unfold T7;rw [h1]) (D1 rfl (C0 h2))))
theorem w_make {c:Nat} {f:Fun} (h:Wp (es σ) A (λvs A1=>Wp (f (.ref A1.length::vs)) (A1++[.ins c []]) (λ_ A2=>Q (.ref A1.length) A2) E) E):Wp (s8 c f es σ) A Q E:=
 C0 (w_mono h λvs A1 h1=>C0 (w_eq (a:=.ref A1.length) (A':=A1++[.ins c []]) rfl (C0 h1)))
variable {QF:Fl->PHp->Prop} {s s1 s2:SD} {g:GD} {QS:PSt->PHp->Prop}
theorem w_pass (q:QF (.nx σ) A):Wp (sPass σ) A QF E:=q
theorem w_seq (h:Wp (s1 σ) A (λo A1=>match o with | .nx σ'=>Wp (s2 σ') A1 QF E | o=>QF o A1) E):Wp (D9 s1 s2 σ) A QF E:=C0 (w_mono h λo A1 h1=>by
 cases o with
 | nx σ'=>exact h1
 | _=>exact h1)
theorem w_exp (h:Wp (e σ) A (λ_ A1=>QF (.nx σ) A1) E):Wp (ab0 e σ) A QF E:=C0 h
theorem w_retS (h:Wp (e σ) A (λv A1=>QF (.rt v) A1) E):Wp (K8 e σ) A QF E:=C0 h
theorem w_if (h:Wp (t σ) A (λb A1=>(b=true->Wp (s1 σ) A1 QF E)/\(b=false->Wp (s2 σ) A1 QF E)) E):Wp (sIf t s1 s2 σ) A QF E:=C0 (w_mono h λb A1 ⟨h1,h2⟩=>by
 cases b with
 | true=>exact h1 rfl
 | false=>exact h2 rfl)
theorem w_asg (h:Wp (e σ) A (λv A1=>Wp (g v σ) A1 (λσ' A2=>QF (.nx σ') A2) E) E):Wp (J7 e g σ) A QF E:=C0 (w_mono h λ_ _ h1=>C0 h1)
theorem w_gname (q:QS (σ.set k (some v)) A):Wp (gName k v σ) A QS E:=q
theorem w_gnil (q:QS σ A):Wp (gNil [] σ) A QS E:=q
theorem w_gcons {r:GDs} {vs:List PV} (h:Wp (g v σ) A (λσ' A1=>Wp (r vs σ') A1 QS E) E):Wp (gCons g r (v::vs) σ) A QS E:=C0 h
theorem w_gtup {r:GDs} (hl:l.length=n) (h:Wp (r l σ) A QS E):Wp (gTup n r (.tup l) σ) A QS E:=D1 hl h
theorem w_sfld (h:Wp (e2 σ) A (λv A1=>Wp (e1 σ) A1 (λx A2=>∃n c fs,x=.ref n/\A2[n]?=some (.ins c fs)/\fs.length<900/\QF (.nx σ) (A2.set n (.ins c (putFld k v fs)))) E) E):Wp (sFld e1 k e2 σ) A QF E:=
 C0 (w_mono h λv A1 h1=>C0 (w_mono h1 λx A2 ⟨n,c,fs,hx,h2,h3,q⟩=>by
  subst hx
  exact C0 (w_eq (a:=(c,fs)) (A':=A2) (by show T7 n A2=_;unfold T7;rw [h2]) (D1 h3 q))))
theorem bo0 {n p:Nat} {vs:List PV} (hl:vs.length=p) (h:Wp (s (start n vs)) A (λo A1=>match o with | .rt v=>Q v A1 | .nx _=>Q .non A1 | _=>False) E):Wp (fn n p s vs) A Q E:=
 D1 hl (C0 (w_mono h λo A1 h1=>by
  cases o with
  | rt v=>exact h1
  | nx σ'=>exact h1
  | bk σ'=>exact h1.elim
  | ct σ'=>exact h1.elim))
noncomputable abbrev ay0 (P:PSt->PHp->Prop) (QF:Fl->PHp->Prop):Fl->PHp->Prop:=λo A=>match o with
 | .nx σ=>P σ A
 | .ct σ=>P σ A
 | .bk σ=>QF (.nx σ) A
 | .rt v=>QF (.rt v) A
theorem u9 {J:It} {n:Nat} (P:Nat->PSt->PHp->Prop) (hend:∀σ A,P n σ A->item J n A=.ok none A/\QF (.nx σ) A)
 (hs:∀i σ A,i<n->P i σ A->∃v,item J i A=.ok (some v) A/\Wp (g v σ) A (λσ1 A1=>Wp (s σ1) A1 (ay0 (P (i+1)) QF) E) E) :
 ∀k i σ A,i+k=n->P i σ A->∀m,k<m->Wp (turns J g s m i σ) A QF E
 | _,_,_,_,_,_,0,hm=>absurd hm (Nat.not_lt_zero _)
 | 0,i,σ,A,e,h,m+1,hm=>by
   obtain rfl:i=n:=by omega
   obtain⟨h1,h2⟩:=hend σ A h
   rw [Q4]
   exact C0 (w_eq h1 h2)
 | k+1,i,σ,A,e,h,m+1,hm=>by
   obtain⟨v,hv,t⟩:=hs i σ A (by omega) h
   rw [Q4]
   refine C0 (w_eq hv ?_)
   refine C0 (w_mono t λσ1 A1 h1=>C0 (w_mono h1 λo A2 h2=>?_))
   cases o with
   | nx σ2=>exact u9 P hend hs k (i+1) σ2 A2 (by omega) h2 m (by omega)
   | ct σ2=>exact u9 P hend hs k (i+1) σ2 A2 (by omega) h2 m (by omega)
   | bk σ2=>exact h2
   | rt v=>exact h2
theorem bf6 {it:ID} (P:Nat->PSt->PHp->Prop) (h:Wp (it σ) A (λJ A1=>∃lo n,J=.rng lo n/\P 0 σ A1/\(∀(i:Nat) σ B,i<n->P i σ B->Wp (g (.int (lo+i)) σ) B (λσ1 B1=>Wp (s σ1) B1 (ay0 (P (i+1)) QF) E) E)/\∀σ B,P n σ B->QF (.nx σ) B) E) :
 Wp (X7 it g s σ) A QF E:=C0 (w_mono h λJ A1 ⟨lo,n,hJ,h0,hs,he⟩=>by
 subst hJ
 exact C0 (aH8 (u9 P (λσ B hP=>⟨by simp,he σ B hP⟩) (λi σ B hi hP=>⟨_,by simp [hi],hs i σ B hi hP⟩) n 0 σ A1 (by omega) h0 (n+1) (Nat.lt_succ_self _))))
theorem aD3 {it:ID} (P:Nat->PSt->PHp->Prop) (h:Wp (it σ) A (λJ A1=>∃a l,J=.lst a/\P 0 σ A1/\(∀i σ B,P i σ B->D0 a B=.ok l B)/\(∀(i:Nat) v σ B,l[i]?=some v->P i σ B->Wp (g v σ) B (λσ1 B1=>Wp (s σ1) B1 (ay0 (P (i+1)) QF) E) E)/\∀σ B,P l.length σ B->QF (.nx σ) B) E) :
 Wp (X7 it g s σ) A QF E:=C0 (w_mono h λJ A1 ⟨a,l,hJ,h0,hl,hs,he⟩=>by
 subst hJ
 refine C0 (C0 (w_eq (hl 0 σ A1 h0) (aH8 ?_)))
 refine u9 P (λσ B hP=>⟨by show bnd (D0 a) _ B=_;rw [bnd_ok (hl _ σ B hP)];simp,he σ B hP⟩) (λi σ B hi hP=>?_) l.length 0 σ A1 (by omega) h0 (l.length+1) (Nat.lt_succ_self _)
 exact⟨l[i],by show bnd (D0 a) _ B=_;rw [bnd_ok (hl _ σ B hP),List.getElem?_eq_getElem hi];rfl,hs i l[i] σ B (List.getElem?_eq_getElem hi) hP⟩)
theorem ah2 {J:It} {g:GD} {t:TD} {e:ED} {l:List PV} {QL:List PV->PHp->Prop} (P:Nat->List PV->PSt->PHp->Prop) (hit:∀i acc σ B,P i acc σ B->item J i B=.ok l[i]? B)
 (hs:∀i v acc σ B,l[i]?=some v->P i acc σ B->Wp (g v σ) B (λσ1 B1=>Wp (t σ1) B1 (λc B2=>(c=true->Wp (e σ1) B2 (λy B3=>P (i+1) (acc++[y]) σ1 B3) E)/\(c=false->P (i+1) acc σ1 B2)) E) E)
 (he:∀acc σ B,P l.length acc σ B->QL acc B):∀k i acc σ B,i<=l.length->l.length<i+k->P i acc σ B->Wp (X8 J g t e k i σ) B (λys B'=>QL (acc++ys) B') E
 | 0,i,acc,σ,B,h1,h2,_=>absurd h2 (by omega)
 | k+1,i,acc,σ,B,h1,h2,h=>by
   rw [U0]
   refine C0 (w_eq (hit i acc σ B h) ?_)
   cases hv:l[i]? with
   | none=>
     have:l.length=i:=by have:=List.getElem?_eq_none_iff.mp hv;omega
     subst this
     show QL (acc++[]) B
     rw [List.append_nil];exact he acc σ B h
   | some v=>
     have hi:=(List.getElem?_eq_some_iff.mp hv).1
     refine C0 (w_mono (hs i v acc σ B hv h) λσ1 B1 h3=>C0 (w_mono h3 λc B2 ⟨h4,h5⟩=>?_))
     cases c with
     | true=>
       refine C0 (w_mono (h4 rfl) λy B3 h6=>C0 (w_mono (ah2 P hit hs he k (i+1) (acc++[y]) σ1 B3 hi (by omega) h6) λys B4 h7=>?_))
       show QL (acc++(y::ys)) B4
       rw [show acc++(y::ys)=acc++[y]++ys by simp];exact h7
     | false=>exact ah2 P hit hs he k (i+1) acc σ1 B2 hi (by omega) (h5 rfl)
theorem aU4 {it:ID} {mk:PSt->PSt} {g:GD} {t:TD} {e:ED} (h:Wp (it σ) A (λJ A1=>∃(l:List PV) (n:Nat) (P:Nat->List PV->PSt->PHp->Prop),m8 J A1=.ok n A1/\l.length<=n/\P 0 [] (mk σ) A1/\(∀i acc σ B,P i acc σ B->item J i B=.ok l[i]? B)/\
 (∀i v acc σ B,l[i]?=some v->P i acc σ B->Wp (g v σ) B (λσ1 B1=>Wp (t σ1) B1 (λc B2=>(c=true->Wp (e σ1) B2 (λy B3=>P (i+1) (acc++[y]) σ1 B3) E)/\(c=false->P (i+1) acc σ1 B2)) E) E)/\
 ∀acc σ B,P l.length acc σ B->acc.length<=LIM/\Q (.ref B.length) (B++[.lst acc])) E):Wp (Q1 it mk g t e σ) A Q E:=
 C0 (w_mono h λJ A1 ⟨l,n,P,hf,hn,h0,hit,hs,he⟩=>C0 (w_eq hf (C0 (w_mono (ah2 P hit hs (QL:=λacc B=>acc.length<=LIM/\Q (.ref B.length) (B++[.lst acc])) he (n+1) 0 [] (mk σ) A1 (Nat.zero_le _) (by omega) h0) λys B h12=>by
  obtain⟨h1,h2⟩:=h12
  rw [List.nil_append] at h1 h2
  exact D1 h1 h2))))
theorem ac9 {it:ID} {mk:PSt->PSt} {g:GD} {t:TD} {e:ED} {l:List PV} (S:PSt->Prop) (p:PV->Bool) (f:PV->PV) (h:Wp (it σ) A (λJ A1=>∃n,m8 J A1=.ok n A1/\l.length<=n/\l.length<=LIM/\S (mk σ)/\(∀i,item J i A1=.ok l[i]? A1)/\
 (∀v σ,v∈l->S σ->Wp (g v σ) A1 (λσ1 B1=>B1=A1/\S σ1/\Wp (t σ1) A1 (λc B2=>B2=A1/\c=p v/\(c=true->Wp (e σ1) A1 (λy B3=>B3=A1/\y=f v) E)) E) E)/\
 Q (.ref A1.length) (A1++[.lst ((l.filter p).map f)])) E):Wp (Q1 it mk g t e σ) A Q E:=
 aU4 (w_mono h λJ A1 ⟨n,hf,hn,hL,h0,hit,hs,he⟩=>⟨l,n,λi acc σ B=>B=A1/\S σ/\acc=((l.take i).filter p).map f,hf,hn,⟨rfl,h0,by simp⟩,λi acc σ B ⟨h1,_⟩=>by rw [h1];exact hit i,λi v acc σ B hv ⟨h1,h2,h3⟩=>by
  subst h1
  refine w_mono (hs v σ (List.mem_of_getElem? hv) h2) λσ1 B1 ⟨e1,h4,h5⟩=>?_
  subst e1
  refine w_mono h5 λc B2 ⟨e2,h6,h7⟩=>?_
  subst e2
  have tk:l.take (i+1)=l.take i++[v]:=by rw [List.take_succ,hv];rfl
  refine⟨λhc=>w_mono (h7 hc) λy B3 ⟨e3,h8⟩=>⟨e3,h4,?_⟩,λhc=>⟨rfl,h4,?_⟩⟩
  ·rw [tk,List.filter_append,List.map_append,h3,h8,List.filter_cons_of_pos (by rw [←h6];exact hc)];rfl
  ·rw [tk,List.filter_append,List.map_append,h3,List.filter_cons_of_neg (by rw [←h6,hc];simp)];simp,λacc σ B ⟨h1,_,h3⟩=>by
  subst h1
  rw [List.take_of_length_le (Nat.le_refl _)] at h3
  subst h3
  exact⟨by rw [List.length_map];exact Nat.le_trans (List.length_filter_le _ _) hL,he⟩⟩)
theorem fuel_lst {n:Nat} {l:List PV} (h:A[n]?=some (.lst l)):m8 (.lst n) A=.ok l.length A:=by show bnd (D0 n) _ A=_;rw [bnd_ok (D8 h)];rfl
theorem ah3 {n:Nat} {l:List PV} (h:A[n]?=some (.lst l)) (i:Nat):item (.lst n) i A=.ok l[i]? A:=by show bnd (D0 n) _ A=_;rw [bnd_ok (D8 h)];rfl
theorem aU5 (n i:Nat):item (.rng 0 n) i A=.ok ((List.range n).map λ(k:Nat)=>PV.int (k:Int))[i]? A:=by
 by_cases hi:i<n <;> simp [hi]
noncomputable def n6:List PV->List PV->List PV
 | x::xs,y::ys=>.tup [x,y]::n6 xs ys
 | _,_=>[]
theorem aH9:∀(l m:List PV) (i:Nat),(match l[i]?,m[i]? with | some u,some v=>some (.tup [u,v]) | _,_=>none)=(n6 l m)[i]?
 | [],m,i=>by simp [n6]
 | x::xs,[],i=>by cases h:(x::xs)[i]? <;> simp [n6]
 | x::xs,y::ys,0=>by simp [n6]
 | x::xs,y::ys,i+1=>by simpa [n6] using aH9 xs ys i
theorem ay1:∀(l m:List PV),(n6 l m).length<=l.length
 | [],m=>by simp [n6]
 | x::xs,[]=>by simp [n6]
 | x::xs,y::ys=>by simpa [n6] using ay1 xs ys
theorem aM8 {n k:Nat} {l m:List PV} (hn:A[n]?=some (.lst l)) (hk:A[k]?=some (.lst m)) (i:Nat):item (.zip (.ref n) (.ref k)) i A=.ok (n6 l m)[i]? A:=by
 rw [←aH9]
 show bnd (D0 n) _ A=_
 rw [bnd_ok (D8 hn)]
 show bnd (D0 k) _ A=_
 rw [bnd_ok (D8 hk)];rfl
end
noncomputable def pv (p:Int×Int):PV:=.tup [.int p.1,.int p.2]
noncomputable def pvs (ps:List (Int×Int)):List PV:=ps.map pv
theorem ay2 (p:Int×Int):plain (pv p)=true:=rfl
theorem W8 (ps:List (Int×Int)):K9 (pvs ps)=true:=by
 rw [ae5];intro x hx;obtain⟨p,_,rfl⟩:=List.mem_map.mp hx;rfl
theorem aU6 {p q:Int×Int} (h:pv p=pv q):p=q:=by
 obtain⟨a,b⟩:=p;obtain⟨c,d⟩:=q
 simp [pv] at h;simp [h]
theorem aI0 (p:Int×Int) (ps:List (Int×Int)):pIn (pv p) (pvs ps)=decide (p∈ps):=by
 induction ps with
 | nil=>simp [pIn,pvs]
 | cons q r ih=>
   have e:eqv (pv q) (pv p)=decide (q=p):=by
    by_cases h:q=p
    ·subst h;simp [(aF0 (pv q) (pv q) rfl).mpr rfl]
    ·have:¬eqv (pv q) (pv p)=true:=λz=>h (aU6 ((aF0 _ _ rfl).mp z))
     simp [h,this]
   show (eqv (pv q) (pv p)||pIn (pv p) (pvs r))=_
   rw [ih,e]
   by_cases h:q=p <;> by_cases h2:p∈r <;> simp [h,h2]
   intro z;exact h z.symm
noncomputable def a45:PV->Int
 | .tup [.int a,.int b]=>a
 | _=>0
noncomputable def aM9:PV->Int
 | .tup [.int a,.int b]=>b
 | _=>0
@[simp] theorem bl7 (p:Int×Int):a45 (pv p)=p.1:=rfl
@[simp] theorem bl8 (p:Int×Int):aM9 (pv p)=p.2:=rfl
section
variable {A:PHp} {Q:PV->PHp->Prop} {E:XP} {n:Nat} {x a b:Int} {M:List Int} {ps:List (Int×Int)}
theorem w_isA {QB:PV->PHp->Prop} {e:ED} {σ:PSt} {t:Ty} (h:Wp (e σ) A (λx A1=>Wp (bc0 t x) A1 (λb A2=>QB (.bl b) A2) E) E):Wp (aK3 e t σ) A QB E:=C0 (w_mono h λ_ _ h1=>C0 h1)
theorem w_isTyL {QB:Bool->PHp->Prop} {l:List PV} (h:A[n]?=some (.lst l)) (q:QB true A):Wp (bc0 .list (.ref n)) A QB E:=C0 (ax9 h q)
theorem aa3 (l m:List Int):R4 (l.map .int) (m.map .int)=decide (l=m):=by
 have h:=av2 (l.map .int) (m.map .int) (N5 _)
 have inj:l.map PV.int=m.map PV.int↔l=m:=⟨λz=>by
  have:=congrArg M4 z
  rw [m9,m9] at this
  exact Option.some.inj this,λz=>by rw [z]⟩
 cases e:R4 (l.map .int) (m.map .int) with
 | true=>exact (decide_eq_true (inj.mp (h.mp e))).symm
 | false=>exact (decide_eq_false λz=>by rw [h.mpr (inj.mpr z)] at e;cases e).symm
theorem w_eqL0 {n k:Nat} {l:List Int} (hn:A[n]?=some (.lst (l.map .int))) (hk:A[k]?=some (.lst [])) (q:Q (.bl (decide (l=[]))) A):Wp (oEq (.ref n) (.ref k)) A Q E:=a70 hn hk ⟨N5 _,rfl⟩ (by rw [show ([]:List PV)=([]:List Int).map .int from rfl,aa3];exact q)
theorem w_eqIs {n k:Nat} {l m:List Int} (hn:A[n]?=some (.lst (l.map .int))) (hk:A[k]?=some (.lst (m.map .int))) (q:Q (.bl (decide (l=m))) A):Wp (oEq (.ref n) (.ref k)) A Q E:=a70 hn hk ⟨N5 _,N5 _⟩ (by rw [aa3];exact q)
theorem w_neIs {n k:Nat} {l m:List Int} (hn:A[n]?=some (.lst (l.map .int))) (hk:A[k]?=some (.lst (m.map .int))) (q:Q (.bl (!decide (l=m))) A):Wp (oNe (.ref n) (.ref k)) A Q E:=a71 hn hk ⟨N5 _,N5 _⟩ (by rw [aa3];exact q)
end
section
variable {A:PHp} {E:XP} {σ:PSt} {e e1 e2:ED}
theorem brNT {P R:Prop} (h:R):((!true)=true->P)/\((!true)=false->R):=⟨λz=>(nomatch z),λ_=>h⟩
theorem brF {P R:Prop} (h:R):(false=true->P)/\(false=false->R):=⟨λz=>(nomatch z),λ_=>h⟩
theorem exL {A:PHp} {n:Nat} {l:List PV} {R:Nat->List PV->Prop} (h:A[n]?=some (.lst l)) (q:R n l):∃n' l',PV.ref n=.ref n'/\A[n']?=some (.lst l')/\R n' l':=⟨n,l,rfl,h,q⟩
theorem exL1 {A:PHp} {n:Nat} {l:List PV} {R:List PV->Prop} (h:A[n]?=some (.lst l)) (q:R l):∃l',A[n]?=some (.lst l')/\R l':=⟨l,h,q⟩
theorem exO {A:PHp} {n c:Nat} {l:List (Nat×PV)} {R:Nat->List (Nat×PV)->Prop} (h:A[n]?=some (.ins c l)) (q:R n l):∃n' l',PV.ref n=.ref n'/\A[n']?=some (.ins c l')/\R n' l':=⟨n,l,rfl,h,q⟩
theorem exO2 {A:PHp} {n c:Nat} {l:List (Nat×PV)} {R:Nat->Nat->List (Nat×PV)->Prop} (h:A[n]?=some (.ins c l)) (q:R n c l):∃n' c' l',PV.ref n=.ref n'/\A[n']?=some (.ins c' l')/\R n' c' l':=⟨n,c,l,rfl,h,q⟩
theorem exF {A:PHp} {n c k:Nat} {l:List (Nat×PV)} {v:PV} {R:PV->Prop} (h:A[n]?=some (.ins c l)) (hv:U8 k l=some v) (q:R v):∃n' c' l' v',PV.ref n=.ref n'/\A[n']?=some (.ins c' l')/\U8 k l'=some v'/\R v':=⟨n,c,l,v,rfl,h,hv,q⟩
theorem exLA {A:PHp} {n:Nat} {l:List PV} {R:Nat->Prop} {R':Prop} (h:A[n]?=some (.lst l)) (q:R n):(∃n' l',PV.ref n=.ref n'/\D0 n' A=.ok l' A/\R n')\/R':=.inl ⟨n,l,rfl,D8 h,q⟩
theorem exTA {l:List PV} {R:List PV->Prop} {R':Prop} (q:R l):R'\/∃l',PV.tup l=.tup l'/\R l':=.inr ⟨l,rfl,q⟩
theorem exLC {A:PHp} {n:Nat} {l:List PV} {R:Nat->List PV->Prop} {R':Prop} (h:A[n]?=some (.lst l)) (q:R n l):(∃n' l',PV.ref n=.ref n'/\D0 n' A=.ok l' A/\R n' l')\/R':=.inl ⟨n,l,rfl,D8 h,q⟩
theorem exLB {A:PHp} {n:Nat} {l:List PV} {R:Nat->Prop} (h:A[n]?=some (.lst l)) (q:R n):∃n' l',PV.ref n=.ref n'/\D0 n' A=.ok l' A/\R n':=⟨n,l,rfl,D8 h,q⟩
variable {QI:It->PHp->Prop}
theorem w_iseq (h:Wp (e σ) A (λx A1=>(∃n l,x=.ref n/\D0 n A1=.ok l A1/\QI (.lst n) A1)\/∃l,x=.tup l/\QI (.tup l) A1) E):Wp (y3 e σ) A QI E:=C0 (w_mono h λx A1 h1=>by
 rcases h1 with ⟨n,l,rfl,h2,q⟩ | ⟨l,rfl,q⟩
 ·exact C0 (w_eq h2 q)
 ·exact q)
theorem w_irng1 (h:Wp (e σ) A (λx A1=>∃n:Nat,x=.int n/\n<=1000000/\QI (.rng 0 n) A1) E):Wp (iRng1 e σ) A QI E:=C0 (w_mono h λx A1 ⟨n,hx,hn,q⟩=>by
 subst hx
 have l1:(n:Int)<=1000000:=Int.ofNat_le.mpr hn
 refine D1 ⟨Int.le_trans (by decide) (Int.natCast_nonneg n),Int.lt_of_le_of_lt l1 (by decide)⟩ (aH8 ?_)
 rw [Int.toNat_natCast];exact q)
theorem w_izip (h:Wp (e1 σ) A (λx A1=>Wp (e2 σ) A1 (λy A2=>Wp (P0 x) A2 (λ_ A3=>Wp (P0 y) A3 (λ_ A4=>QI (.zip x y) A4) E) E) E) E):Wp (bc5 e1 e2 σ) A QI E:=
 C0 (w_mono h λ_ _ h1=>C0 (w_mono h1 λ_ _ h2=>C0 (w_mono h2 λ_ _ h3=>C0 h3)))
end
end Ws
local macro_rules | `(tactic| walk_at "st")=>`(tactic| first
 | assumption
 | exact Ws.C7
 | (refine Ws.get_app_of ?_;walk_at "st")
 | (refine Ws.pre_get (by assumption) ?_;walk_at "st"))
local macro_rules | `(tactic| walk_at "lim")=>`(tactic| first
 | (refine Ws.lim_le ?_;(try simp only [List.length_map,List.length_append,List.length_cons,List.length_nil]);omega)
 | (refine Ws.lim_lt ?_;(try simp only [List.length_map,List.length_append,List.length_cons,List.length_nil]);omega))
local macro_rules | `(tactic| walk_at "s1")=>`(tactic| first
 | with_reducible refine Ws.w_seq ?_
 | with_reducible refine Ws.w_asg ?_
 | with_reducible refine Ws.w_if ?_
 | with_reducible refine Ws.w_exp ?_
 | with_reducible refine Ws.w_retS ?_
 | with_reducible refine Ws.w_pass ?_
 | with_reducible refine Ws.w_sfld ?_
 | with_reducible refine Ws.w_tval ?_
 | with_reducible refine Ws.w_tor ?_
 | with_reducible refine Ws.w_tnot ?_
 | with_reducible refine Ws.w_bin ?_
 | with_reducible refine Ws.w_chain ?_
 | with_reducible refine Ws.w_and ?_
 | with_reducible refine Ws.w_or ?_
 | with_reducible refine Ws.w_ifE ?_
 | with_reducible refine Ws.w_isN ?_
 | with_reducible refine Ws.w_cons ?_
 | with_reducible refine Ws.w_tup ?_
 | with_reducible refine Ws.w_lst ?_
 | with_reducible refine Ws.w_call ?_
 | with_reducible refine Ws.w_meth ?_
 | with_reducible refine Ws.w_make ?_
 | with_reducible refine Ws.w_fld ?_
 | with_reducible refine Ws.w_len ?_
 | with_reducible refine Ws.w_listOf ?_
 | with_reducible refine Ws.w_tupleOf ?_
 | with_reducible refine Ws.w_cut ?_
 | with_reducible refine Ws.w_lat ?_
 | with_reducible refine Ws.w_append ?_
 | with_reducible refine Ws.w_isA ?_
 | with_reducible refine Ws.w_all ?_
 | with_reducible refine Ws.w_izip ?_
 | with_reducible refine Ws.w_iseq ?_
 | with_reducible refine Ws.w_irng1 ?_
 | with_reducible refine Ws.w_ienm ?_)
local macro_rules | `(tactic| walk_at "s2")=>`(tactic| first
 | ((with_reducible apply Ws.w_var);(·rfl))
 | with_reducible refine Ws.w_k ?_
 | with_reducible refine Ws.w_true ?_
 | with_reducible refine Ws.w_nil ?_
 | with_reducible refine Ws.w_gname ?_
 | with_reducible refine Ws.w_gnil ?_
 | with_reducible refine Ws.w_gcons ?_
 | ((with_reducible apply Ws.w_gtup);(·rfl))
 | with_reducible refine Ws.w_add ?_
 | ((with_reducible apply Ws.w_mod);(·omega))
 | with_reducible refine Ws.w_lt ?_
 | with_reducible refine Ws.w_le ?_
 | with_reducible refine Ws.w_eqI ?_
 | with_reducible refine Ws.w_neI ?_
 | with_reducible refine Ws.w_lno ?_
 | ((with_reducible apply Ws.w_isTyL);(·walk_at "st"))
 | ((with_reducible apply Ws.w_eqL0);(·walk_at "st");(·walk_at "st"))
 | ((with_reducible apply Ws.w_eqIs);(·walk_at "st");(·walk_at "st"))
 | ((with_reducible apply Ws.w_neIs);(·walk_at "st");(·walk_at "st"))
 | ((with_reducible apply Ws.w_seqL);(·walk_at "st");(try dsimp only);(try rw [List.length_map]))
 | ((with_reducible apply Ws.w_ixL);(·walk_at "st");(·walk_at "ix"))
 | ((with_reducible apply Ws.w_ixT);(·walk_at "ix")))
local macro_rules | `(tactic| walk_at "ix")=>`(tactic| first
 | assumption
 | rfl
 | exact Ws.atl (by omega))
local macro_rules | `(tactic| walk_at "s3")=>`(tactic| first
 | with_reducible refine Ws.brF ?_
 | with_reducible refine Ws.brNT ?_
 | with_reducible refine⟨_,rfl,?_⟩
 | ((with_reducible apply Ws.exL);(·walk_at "st"))
 | ((with_reducible apply Ws.exL1);(·walk_at "st"))
 | ((with_reducible apply Ws.exO);(·walk_at "st"))
 | ((with_reducible apply Ws.exO2);(·walk_at "st"))
 | ((with_reducible apply Ws.exF);(·walk_at "st");(·rfl))
 | ((with_reducible apply Ws.exLA);(·walk_at "st"))
 | ((with_reducible apply Ws.exLB);(·walk_at "st"))
 | ((with_reducible apply Ws.exLC);(·walk_at "st"))
 | with_reducible apply Ws.exTA
 | ((with_reducible refine And.intro ?h1 ?_);(case h1=>first | walk_at "lim" | omega)))
local macro_rules | `(tactic| walk_at "s")=>`(tactic| (first | walk_at "s1" | walk_at "s2" | walk_at "s3");(try dsimp only [List.set,Ws.ay0]))
local macro_rules | `(tactic| walk_at "fn")=>`(tactic| (refine Ws.bo0 (by rfl) ?_;simp only [Ws.start,List.map_cons,List.map_nil,List.length_cons,List.length_nil,Nat.reduceAdd,Nat.reduceSub,List.replicate,List.cons_append,List.nil_append]))
local macro_rules | `(tactic| walk_at "go")=>`(tactic| repeat walk_at "s")
namespace Ws
noncomputable def K3:Fun:=fn 1 1
 (K8 (aq5 (aK3 (eVar 0) .int) (bj3 (aK3 (eVar 0) .bool))))
noncomputable def L9:Fun:=fn 2 2
 (K8 (aq5 (E5 K3 (aCons (eVar 1) aNil)) (m7 oLe oLt (eK (.int 0)) (eVar 1) (eVar 0))))
noncomputable def D7:Fun:=fn 1 1
 (K8 (aq5 (E5 K3 (aCons (eVar 0) aNil)) (m7 oLe oLe (eK (.int 2)) (eVar 0) (eK (.int 6)))))
noncomputable def K1:Fun:=fn 2 2
 (D9 (sIf (tOr (tNot (G1 (aK3 (eVar 1) .tuple))) (G1 (C3 oNe (ae0 (eVar 1)) (eK (.int 2)))))
 (K8 (eK (.bl false)))
 sPass)
 (K8 (aq5 (E5 L9 (aCons (eVar 0) (aCons (C3 oIx (eVar 1) (eK (.int 0))) aNil))) (aq5 (E5 L9 (aCons (eVar 0) (aCons (C3 oIx (eVar 1) (eK (.int 1))) aNil))) (C3 oNe (C3 oIx (eVar 1) (eK (.int 0))) (C3 oIx (eVar 1) (eK (.int 1))))))))
noncomputable def M8:SD:=
 (sIf (tOr (tNot (G1 (E5 K1 (aCons (eVar 0) (aCons (eVar 3) aNil))))) (G1 (C3 oIn (eVar 3) (X5 (eVar 1) lNo (lAt (eVar 2))))))
 (K8 (eVar 2))
 sPass)
noncomputable def K4:SD:=X7 (bj4 (eVar 1)) (gTup 2 (gCons (gName 2) (gCons (gName 3) gNil))) M8
noncomputable def E8:Fun:=fn 4 2
 (D9 K4
 (K8 (eK .non)))
noncomputable def g9:ED:=Q1 (bc5 (eVar 0) (X5 (eVar 0) (lAt (eK (.int 1))) lNo)) (bst [none,none]) (gTup 2 (gCons (gName 0) (gCons (gName 1) gNil))) Z5 (C3 oLt (eVar 0) (eVar 1))
noncomputable def N6:Fun:=fn 1 1
 (K8 (aK5 g9))
noncomputable def f_are_leaders_c1:ED:=Q1 (y3 (eVar 1)) (bst [none,some 0]) (gName 0) Z5 (E5 L9 (aCons (j5 (eVar 1) 0) (aCons (eVar 0) aNil)))
noncomputable def I9:Fun:=fn 2 2
 (D9 (sIf (tOr (tNot (G1 (aK3 (eVar 1) .list))) (G1 (C3 oEq (eVar 1) (j4 aNil))))
 (K8 (eK (.bl false)))
 sPass)
 (K8 (aq5 (aK5 f_are_leaders_c1) (E5 N6 (aCons (eVar 1) aNil)))))
noncomputable def Q5:Fun:=fn 1 1
 (K8 (aq5 (E5 K3 (aCons (eVar 0) aNil)) (C3 oGe (eVar 0) (eK (.int 0)))))
noncomputable def h9:SD:=
 (D9 (sIf (tNot (G1 (E5 Q5 (aCons (aB2 (eVar 3) (eVar 5)) aNil))))
 sNever
 sPass)
 (al6 (eVar 4) (eVar 5) (al7 (eVar 3) (eVar 5))))
noncomputable def T2:SD:=X7 (y3 (j5 (eVar 1) 1)) (gName 5) h9
noncomputable def K2:Fun:=fn 6 4
 (D9 (sIf (tNot (G1 (E5 I9 (aCons (eVar 1) (aCons (eVar 2) aNil)))))
 sNever
 sPass)
 (D9 (J7 av4 (gName 4))
 (D9 T2
 (D9 (sFld (eVar 0) 3 (eVar 1))
 (D9 (sFld (eVar 0) 4 (r8 (eVar 2)))
 (D9 (sFld (eVar 0) 5 (aq9 (eVar 4)))
 (D9 (sFld (eVar 0) 9 (ae8 (eVar 2)))
 (sFld (eVar 0) 10 (eVar 4)))))))))
noncomputable def H8:Fun:=fn 4 3
 (D9 (sIf (tNot (G1 (E5 D7 (aCons (eVar 1) aNil))))
 sNever
 sPass)
 (D9 (J7 (E5 E8 (aCons (eVar 1) (aCons (eVar 2) aNil))) (gName 3))
 (D9 (sIf (G1 (a62 (eVar 3)))
 sNever
 sPass)
 (D9 (sFld (eVar 0) 0 (eVar 1))
 (sFld (eVar 0) 1 (X6 (eVar 2)))))))
noncomputable def H9:Fun:=fn 2 2
 (K8 (al7 (j5 (eVar 0) 10) (eVar 1)))
noncomputable def V0:ED:=Q1 (y3 (eVar 1)) (bst [none]) (gName 0) Z5 (av5 (eVar 0))
noncomputable def J4:Fun:=fn 2 2
 (K8 (al8 (eK (.str " ")) (C3 P4 (j4 (aCons (eVar 0) aNil)) V0)))
noncomputable def U4:SD:=
 (ab0 (P5 (eVar 1) (E5 J4 (aCons (eK (.str "pass")) (aCons (C3 P4 (eVar 2) (U7 (aCons (al4 1 H9 (eVar 0) (aCons (eVar 2) aNil)) aNil))) aNil)))))
noncomputable def f_written_plan_l1:SD:=X7 (y3 (j5 (j5 (eVar 0) 3) 1)) (gName 2) U4
noncomputable def J5:Fun:=fn 3 1
 (D9 (J7 (j4 (aCons (E5 J4 (aCons (eK (.str "hands")) (aCons (j4 (aCons (j5 (j5 (eVar 0) 3) 0) aNil)) aNil))) (aCons (E5 J4 (aCons (eK (.str "leaders")) (aCons (j5 (eVar 0) 9) aNil))) aNil))) (gName 1))
 (D9 f_written_plan_l1
 (K8 (al8 (eK (.str "\n")) (eVar 1)))))
noncomputable def f_is_number_c1:ED:=Q1 (bc9 (eVar 0)) (bst [none]) (gName 0) Z5 (C3 bc8 (eVar 0) (eK (.str "0123456789")))
noncomputable def N7:Fun:=fn 1 1
 (D9 (sIf (tOr (tNot (G1 (m7 oLe oLe (eK (.int 1)) (aQ3 (eVar 0)) (eK (.int 9))))) (tNot (G1 (aK5 f_is_number_c1))))
 (K8 (eK (.bl false)))
 sPass)
 (K8 (eOr (C3 oEq (eVar 0) (eK (.str "0"))) (C3 oNe (C3 aK6 (eVar 0) (eK (.int 0))) (eK (.str "0"))))))
noncomputable def U5:ED:=Q1 (y3 (eVar 0)) (bst [none]) (gName 0) Z5 (E5 N7 (aCons (eVar 0) aNil))
noncomputable def f_read_numbers_c2:ED:=Q1 (y3 (eVar 0)) (bst [none]) (gName 0) Z5 (aQ2 (eVar 0))
noncomputable def K6:Fun:=fn 1 1
 (D9 (sIf (tNot (G1 (aK5 U5)))
 (K8 (eK .non))
 sPass)
 (K8 f_read_numbers_c2))
noncomputable def E1:Fun:=fn 3 2
 (D9 (J7 (ar1 (eVar 1) (eK (.str " "))) (gName 2))
 (K8 (eIf (G1 (C3 oEq (C3 oIx (eVar 2) (eK (.int 0))) (eVar 0))) (E5 K6 (aCons (X5 (eVar 2) (lAt (eK (.int 1))) lNo) aNil)) (eK .non))))
noncomputable def M0:Fun:=fn 2 1
 (D9 (J7 (E5 E1 (aCons (eK (.str "hands")) (aCons (eVar 0) aNil))) (gName 1))
 (D9 (sIf (tOr (G1 (aP8 (eVar 1))) (tOr (G1 (C3 oNe (ae0 (eVar 1)) (eK (.int 1)))) (tNot (G1 (E5 D7 (aCons (C3 oIx (eVar 1) (eK (.int 0))) aNil))))))
 sNever
 sPass)
 (K8 (C3 oIx (eVar 1) (eK (.int 0))))))
noncomputable def K7:Fun:=fn 3 2
 (D9 (J7 (E5 E1 (aCons (eK (.str "leaders")) (aCons (eVar 1) aNil))) (gName 2))
 (D9 (sIf (tOr (G1 (aP8 (eVar 2))) (tNot (G1 (E5 I9 (aCons (s8 0 H8 (aCons (eVar 0) (aCons (j4 aNil) aNil))) (aCons (eVar 2) aNil))))))
 sNever
 sPass)
 (K8 (eVar 2))))
noncomputable def W9:SD:=
 (D9 (J7 (E5 E1 (aCons (eK (.str "pass")) (aCons (eVar 5) aNil))) (gName 6))
 (D9 (sIf (tOr (G1 (aP8 (eVar 6))) (G1 (C3 oNe (ae0 (eVar 6)) (eK (.int 3)))))
 sNever
 sPass)
 (D9 (J7 (U7 (aCons (C3 oIx (eVar 6) (eK (.int 0))) (aCons (C3 oIx (eVar 6) (eK (.int 1))) aNil))) (gName 7))
 (D9 (sIf (tOr (tNot (G1 (E5 K1 (aCons (eVar 0) (aCons (eVar 7) aNil))))) (G1 (C3 aQ4 (eVar 7) (eVar 3))))
 sNever
 sPass)
 (D9 (al6 (eVar 2) (eVar 7) (C3 oIx (eVar 6) (eK (.int 2))))
 (J7 (eVar 7) (gName 3)))))))
noncomputable def X0:SD:=X7 (bc1 3 (eVar 1)) (gTup 2 (gCons (gName 4) (gCons (gName 5) gNil))) W9
noncomputable def L3:Fun:=fn 8 2
 (D9 (J7 av4 (gName 2))
 (D9 (J7 (U7 aNil) (gName 3))
 (D9 X0
 (K8 (eVar 2)))))
noncomputable def L6:Fun:=fn 5 1
 (D9 (J7 (ar1 (eVar 0) (eK (.str "\n"))) (gName 1))
 (D9 (J7 (E5 M0 (aCons (C3 oIx (eVar 1) (eK (.int 0))) aNil)) (gName 2))
 (D9 (sIf (G1 (C3 oEq (ae0 (eVar 1)) (eK (.int 1))))
 sNever
 sPass)
 (D9 (J7 (E5 K7 (aCons (eVar 2) (aCons (C3 oIx (eVar 1) (eK (.int 1))) aNil))) (gName 3))
 (D9 (J7 (E5 L3 (aCons (eVar 2) (aCons (X5 (eVar 1) (lAt (eK (.int 2))) lNo) aNil))) (gName 4))
 (K8 (s8 1 K2 (aCons (s8 0 H8 (aCons (eVar 2) (aCons (aB4 (eVar 4)) aNil))) (aCons (eVar 3) (aCons (eVar 4) aNil))))))))))
noncomputable def G8:Fun:=fn 2 2
 (D9 (sIf (G1 (C3 oLt (eVar 1) (ae0 (eVar 0))))
 (K8 (C3 oIx (eVar 0) (eVar 1)))
 sPass)
 (K8 (eK (.int 0))))
noncomputable def Z7:SD:=
 (D9 (ab0 (P5 (eVar 2) (C3 Q0 (eVar 3) (eK (.int 5040)))))
 (J7 (C3 aE9 (eVar 3) (eK (.int 5040))) (gName 3)))
noncomputable def N0:SD:=X7 (iRng1 (eVar 1)) (gName 4) Z7
noncomputable def Z8:SD:=
 (D9 (J7 (C3 Q0 (C3 P4 (C3 P4 (C3 aq3 (eVar 5) (C3 P4 (C3 aE9 (eVar 5) (eK (.int 1009))) (eK (.int 69621)))) (eVar 4)) (eK (.int 1))) (eK (.int 2147483647))) (gName 5))
 (ab0 (P5 (eVar 2) (eVar 5))))
noncomputable def N1:SD:=X7 (iRng1 (eVar 1)) (gName 4) Z8
noncomputable def G3:Fun:=fn 6 2
 (D9 (J7 (j4 aNil) (gName 2))
 (D9 (sIf (G1 (C3 oEq (C3 Q0 (eVar 0) (eK (.int 2))) (eK (.int 1))))
 (D9 (J7 (C3 aE9 (eVar 0) (eK (.int 2))) (gName 3))
 (D9 N0
 (K8 (eVar 2))))
 sPass)
 (D9 (J7 (C3 Q0 (C3 P4 (C3 aq3 (eVar 0) (eK (.int 48271))) (eK (.int 7919))) (eK (.int 2147483647))) (gName 5))
 (D9 N1
 (K8 (eVar 2))))))
noncomputable def Y7:ED:=Q1 (iRng1 (eVar 2)) (bst [none,some 1]) (gName 0) Z5 (U7 (aCons (C3 oIx (eVar 1) (C3 P4 (eK (.int 36)) (eVar 0))) (aCons (eVar 0) aNil)))
noncomputable def Y8:ED:=Q1 (y3 (X6 Y7)) (bst [none,none]) (gTup 2 (gCons (gName 0) (gCons (gName 1) gNil))) Z5 (eVar 1)
noncomputable def S3:SD:=
 (ab0 (P5 (eVar 4) (U7 (aCons (C3 oIx (eVar 3) (C3 aZ1 (eVar 5) (eK (.int 1)))) (aCons (C3 oIx (eVar 3) (eVar 5)) aNil)))))
noncomputable def S4:SD:=X7 (iRng1 (eVar 2)) (gName 5) S3
noncomputable def P8:SD:=
 (D9 (J7 (C3 oEq (C3 Q0 (C3 oIx (eVar 1) (C3 P4 (C3 aq3 (eK (.int 6)) (eVar 6)) (eVar 7))) (C3 P4 (eK (.int 2)) (C3 Q0 (C3 oIx (eVar 1) (eK (.int 43))) (eK (.int 5))))) (eK (.int 0))) (gName 8))
 (sIf (tAnd (G1 (C3 oNe (eVar 6) (eVar 7))) (tAnd (G1 (eVar 8)) (G1 (C3 aA8 (U7 (aCons (eVar 6) (aCons (eVar 7) aNil))) (eVar 4)))))
 (ab0 (P5 (eVar 4) (U7 (aCons (eVar 6) (aCons (eVar 7) aNil)))))
 sPass))
noncomputable def Y9:SD:=X7 (iRng1 (eVar 2)) (gName 7) P8
noncomputable def Z0:SD:=
 Y9
noncomputable def Z1:SD:=X7 (iRng1 (eVar 2)) (gName 6) Z0
noncomputable def S6:Fun:=fn 10 1
 (D9 (J7 (E5 G3 (aCons (eVar 0) (aCons (eK (.int 46)) aNil))) (gName 1))
 (D9 (J7 (C3 P4 (eK (.int 2)) (C3 Q0 (C3 oIx (eVar 1) (eK (.int 45))) (eK (.int 5)))) (gName 2))
 (D9 (J7 Y8 (gName 3))
 (D9 (J7 (j4 aNil) (gName 4))
 (D9 (sIf (G1 (C3 oGt (C3 Q0 (C3 oIx (eVar 1) (eK (.int 42))) (eK (.int 3))) (eK (.int 0))))
 S4
 sPass)
 (D9 Z1
 (D9 (J7 (C3 Q0 (C3 oIx (eVar 1) (eK (.int 44))) (C3 P4 (ae0 (eVar 4)) (eK (.int 1)))) (gName 9))
 (K8 (U7 (aCons (eVar 2) (aCons (C3 P4 (X5 (eVar 4) (lAt (eVar 9)) lNo) (X5 (eVar 4) lNo (lAt (eVar 9)))) aNil)))))))))))
noncomputable def f_law_leaders_c1:ED:=Q1 (iRng1 (eVar 1)) (bst [none,some 2]) (gName 0) (G1 (C3 oLt (C3 Q0 (C3 oIx (eVar 1) (eVar 0)) (eK (.int 4))) (C3 P4 (eK (.int 1)) (C3 Q0 (C3 oIx (eVar 1) (eK (.int 6))) (eK (.int 3)))))) (eVar 0)
noncomputable def L4:Fun:=fn 4 2
 (D9 (J7 (E5 G3 (aCons (eVar 0) (aCons (eK (.int 7)) aNil))) (gName 2))
 (D9 (J7 f_law_leaders_c1 (gName 3))
 (D9 (sIf (G1 (C3 oEq (eVar 3) (j4 aNil)))
 (J7 (j4 (aCons (C3 Q0 (C3 oIx (eVar 2) (eK (.int 0))) (eVar 1)) aNil)) (gName 3))
 sPass)
 (K8 (eVar 3)))))
noncomputable def Z9:SD:=
 (al6 (eVar 3) (C3 oIx (eVar 1) (eVar 4)) (C3 oIx (j4 (aCons (C3 Q0 (C3 oIx (eVar 2) (eVar 4)) (eK (.int 12))) (aCons (C3 Q0 (C3 oIx (eVar 2) (eVar 4)) (eK (.int 101))) (aCons (C3 Q0 (C3 aq3 (C3 oIx (eVar 2) (eVar 4)) (eK (.int 48271))) (C3 bc6 (eK (.int 10)) (eK (.int 9)))) aNil)))) (C3 Q0 (C3 oIx (eVar 2) (eK (.int 30))) (eK (.int 3)))))
noncomputable def f_law_limits_l1:SD:=X7 (iRng1 (ae0 (eVar 1))) (gName 4) Z9
noncomputable def M2:Fun:=fn 5 2
 (D9 (J7 (E5 G3 (aCons (eVar 0) (aCons (eK (.int 31)) aNil))) (gName 2))
 (D9 (J7 av4 (gName 3))
 (D9 f_law_limits_l1
 (K8 (eVar 3)))))
noncomputable def f_law_text_c1:ED:=Q1 (y3 (eVar 2)) (bst [none]) (gName 0) Z5 (av5 (eVar 0))
noncomputable def m4:SD:=
 (ab0 (P5 (eVar 4) (C3 ab3 (C3 ab3 (C3 ab3 (C3 ab3 (C3 ab3 (eK (.str "pass ")) (av5 (eVar 5))) (eK (.str " "))) (av5 (eVar 6))) (eK (.str " "))) (av5 (al7 (eVar 3) (U7 (aCons (eVar 5) (aCons (eVar 6) aNil))))))))
noncomputable def f_law_text_l1:SD:=X7 (y3 (X6 (eVar 1))) (gTup 2 (gCons (gName 5) (gCons (gName 6) gNil))) m4
noncomputable def Q6:Fun:=fn 7 4
 (D9 (J7 (j4 (aCons (C3 ab3 (eK (.str "hands ")) (av5 (eVar 0))) (aCons (al8 (eK (.str " ")) (C3 P4 (j4 (aCons (eK (.str "leaders")) aNil)) f_law_text_c1)) aNil))) (gName 4))
 (D9 f_law_text_l1
 (K8 (al8 (eK (.str "\n")) (eVar 4)))))
noncomputable def f_law_right_c1:ED:=Q1 (y3 (eVar 2)) (bst [none,some 0,some 4]) (gName 0) (G1 (C3 oNe (al4 1 H9 (eVar 1) (aCons (eVar 0) aNil)) (al7 (eVar 2) (eVar 0)))) (eVar 0)
noncomputable def L7:Fun:=fn 5 5
 (D9 (sIf (tOr (tNot (G1 (bc7 [1] (eVar 0) 1))) (tOr (G1 (C3 oNe (j5 (j5 (eVar 0) 3) 0) (eVar 1))) (G1 (C3 oNe (j5 (j5 (eVar 0) 3) 1) (X6 (eVar 2))))))
 (K8 (eK (.bl false)))
 sPass)
 (D9 (sIf (tOr (G1 (C3 oNe (j5 (eVar 0) 4) (eVar 3))) (G1 (C3 bd0 (j5 (eVar 0) 5) (eVar 4))))
 (K8 (eK (.bl false)))
 sPass)
 (K8 (C3 oEq f_law_right_c1 (j4 aNil)))))
noncomputable def ay3:Fun:=fn 8 1
 (D9 (J7 (E5 S6 (aCons (E5 G8 (aCons (eVar 0) (aCons (eK (.int 0)) aNil))) aNil)) (gTup 2 (gCons (gName 1) (gCons (gName 2) gNil))))
 (D9 (J7 (E5 L4 (aCons (E5 G8 (aCons (eVar 0) (aCons (eK (.int 1)) aNil))) (aCons (eVar 1) aNil))) (gName 3))
 (D9 (J7 (E5 M2 (aCons (E5 G8 (aCons (eVar 0) (aCons (eK (.int 2)) aNil))) (aCons (eVar 2) aNil))) (gName 4))
 (D9 (J7 (s8 1 K2 (aCons (s8 0 H8 (aCons (eVar 1) (aCons (r8 (eVar 2)) aNil))) (aCons (r8 (eVar 3)) (aCons (aq9 (eVar 4)) aNil)))) (gName 5))
 (D9 (J7 (E5 J5 (aCons (eVar 5) aNil)) (gName 6))
 (D9 (sIf (tOr (tNot (G1 (aB3 (eVar 6)))) (G1 (C3 oNe (eVar 6) (E5 Q6 (aCons (eVar 1) (aCons (eVar 2) (aCons (eVar 3) (aCons (eVar 4) aNil))))))))
 (K8 (eK (.bl false)))
 sPass)
 (D9 (J7 (E5 L6 (aCons (eVar 6) aNil)) (gName 7))
 (D9 (sIf (tOr (tNot (G1 (E5 L7 (aCons (eVar 7) (aCons (eVar 1) (aCons (eVar 2) (aCons (eVar 3) (aCons (eVar 4) aNil)))))))) (G1 (C3 oNe (E5 J5 (aCons (eVar 7) aNil)) (eVar 6))))
 (K8 (eK (.bl false)))
 sPass)
 (K8 (E5 L7 (aCons (E5 L6 (aCons (eVar 6) aNil)) (aCons (eVar 1) (aCons (eVar 2) (aCons (eVar 3) (aCons (eVar 4) aNil)))))))))))))))
end Ws
namespace Ws
@[simp] theorem a72 (i:Int) (A:PHp):K3 [.int i] A=.ok (.bl true) A:=by simp [K3]
theorem is_hand_eq (n h:Int) (A:PHp):L9 [.int n,.int h] A=.ok (.bl (decide (0<=h/\h<n))) A:=by
 by_cases h0:0<=h <;> simp [L9,h0]
theorem is_number_eq (n:Int) (A:PHp):D7 [.int n] A=.ok (.bl (decide (2<=n/\n<=6))) A:=by
 by_cases h0:2<=n <;> simp [D7,h0]
noncomputable def good (n:Int) (p:Int×Int):Prop:=(0<=p.1/\p.1<n)/\(0<=p.2/\p.2<n)/\p.1≠p.2
noncomputable instance (n:Int) (p:Int×Int):Decidable (good n p):=by unfold good;infer_instance
theorem is_passing_eq (n:Int) (p:Int×Int) (A:PHp):K1 [.int n,pv p] A=.ok (.bl (decide (good n p))) A:=by
 by_cases h0:0<=p.1/\p.1<n <;> by_cases h1:0<=p.2/\p.2<n <;> simp [K1,pv,good,atI,ixN,plain,eqv,is_hand_eq,h0,h1]
structure Passings (n:Int) (ps:List (Int×Int)):Prop where
 lo:2<=n
 hi:n<=6
 good:∀p∈ps,good n p
 nd:ps.Nodup
 len:ps.length<64
theorem aU7 {α:Type} (xs:List α) (i:Nat):cut xs none (some (i:Int))=xs.take i:=by
 unfold cut j6
 simp only [List.drop_zero,Nat.sub_zero]
 rw [if_neg (by omega)]
 rw [show (min (i:Int) (xs.length:Int)).toNat=min i xs.length by omega,List.take_eq_take_iff]
 omega
theorem ah4 {n:Int} {ps:List (Int×Int)} (W:Passings n ps) {A:PHp} {r:Nat} (hr:A[r]?=some (.lst (pvs ps))) :
 ∃A',E8 [.int n,.ref r] A=.ok .non A'/\A<+:A':=by
 have hl:Comes (K4 [some (.int n),some (.ref r),none,none] A) (λσ A'=>A<+:A') (λ_ _=>False):=by
  unfold K4
  refine (aZ3 (l:=pvs ps) (a:=r) (A1:=A) (by simp [hr]) (λi σ A'=>A<+:A'/\∃x y,σ=[some (.int n),some (.ref r),x,y]) (λ_ _=>False) ⟨List.prefix_refl _,_,_,rfl⟩ ?_ ?_).mono (λ_ _ h=>h.1) (λ_ _ h=>h)
  ·rintro i σ A' ⟨hp,_⟩
   simp [pre_get hp hr]
  ·rintro i v σ A' hv ⟨hp,x,y,rfl⟩
   have hr':=pre_get hp hr
   obtain⟨p,hp1,rfl⟩:∃p,ps[i]?=some p/\v=pv p:=by
    simp only [pvs,List.getElem?_map] at hv
    cases e:ps[i]? with
    | none=>rw [e] at hv;cases hv
    | some p=>rw [e] at hv;exact⟨p,rfl,(Option.some.inj hv).symm⟩
   have hmem:p∈ps:=List.mem_of_getElem? hp1
   have hg:=W.good p hmem
   have hnin:p∉ps.take i:=by
    intro hm
    have hlt:=(List.getElem?_eq_some_iff.mp hp1).1
    obtain⟨j,hj,e⟩:=List.mem_iff_getElem.mp hm
    rw [List.length_take] at hj
    rw [List.getElem_take] at e
    have e2:ps[i]=p:=(List.getElem?_eq_some_iff.mp hp1).2
    exact List.pairwise_iff_getElem.mp W.nd j i (by omega) hlt (by omega) (e.trans e2.symm)
   have hc:cut (pvs ps) none (some (i:Int))=pvs (ps.take i):=by rw [aU7];simp [pvs,List.map_take]
   refine Turns.nx (σ:=[some (.int n),some (.ref r),some (.int i),some (pv p)]) (A:=A'++[.lst (pvs (ps.take i))]) ?_ ⟨E9 hp,_,_,rfl⟩
   simp [M8,is_passing_eq,hg,hr',hc,ay2,W8,aI0,hnin]
 obtain⟨σ,A',e,h⟩:=hl.end
 refine⟨A',?_,h⟩
 simp [E8,e]
noncomputable def l2 (p:Int×Int):List Int:=[p.1,p.2]
noncomputable def ltP (p q:Int×Int):Bool:=E4 (l2 p) (l2 q)
noncomputable def srt (ps:List (Int×Int)):List (Int×Int):=G2 ltP ps
theorem am5 {α β:Type} (f:α->β) (lt:β->β->Bool) (a:α):∀l:List α,j7 lt (f a) (l.map f)=(j7 (λx y=>lt (f x) (f y)) a l).map f
 | []=>rfl
 | b::r=>by
   have ih:=am5 f lt a r
   simp only [List.map_cons,j7]
   split
   ·rw [ih];rfl
   ·rfl
theorem ah5 {α β:Type} (f:α->β) (lt:β->β->Bool):∀l:List α,G2 lt (l.map f)=(G2 (λx y=>lt (f x) (f y)) l).map f
 | []=>rfl
 | a::r=>by
   simp only [List.map_cons,G2]
   rw [ah5 f lt r,am5]
theorem aU8 (ps:List (Int×Int)):pvs ps=(ps.map l2).map λt=>PV.tup (t.map .int):=by
 simp [pvs,pv,l2]
theorem n8 {ps:List (Int×Int)} {A:PHp} (h:ps.length<64):T8 (pvs ps) A=.ok (pvs (srt ps)) A:=by
 rw [aU8,s9 (by simpa using h) (by intro t ht;obtain⟨p,_,rfl⟩:=List.mem_map.mp ht;simp [l2]),ah5,aU8]
 rfl
theorem srt_perm (ps:List (Int×Int)):(srt ps).Perm ps:=K0 _ _
structure WebAt (A:PHp) (w r:Nat) (n:Int) (ps:List (Int×Int)):Prop where
 ob:A[w]?=some (.ins 0 [(0,.int n),(1,.ref r)])
 ls:A[r]?=some (.lst (pvs (srt ps)))
theorem WebAt.mono {A B:PHp} {w r:Nat} {n:Int} {ps:List (Int×Int)} (h:WebAt A w r n ps) (e:A<+:B):WebAt B w r n ps:=⟨pre_get e h.ob,pre_get e h.ls⟩
theorem aU9 {n:Int} {ps:List (Int×Int)} (W:Passings n ps) {A B:PHp} {w q:Nat} (hA:A<+:B) (hw:A.length<=w) (ho:B[w]?=some (.ins 0 [])) (hq:B[q]?=some (.lst (pvs ps))) :
 ∃B' r,H8 [.ref w,.int n,.ref q] B=.ok .non B'/\A<+:B'/\WebAt B' w r n ps/\w<r:=by
 obtain⟨B1,e1,h1⟩:=ah4 W hq
 have ho1:=pre_get h1 ho
 have hq1:=pre_get h1 hq
 have hwl:=y6 ho1
 have nqw:q≠w:=by rintro rfl;rw [hq] at ho;cases ho
 have hq2:(B1.set w (.ins 0 [(0,.int n)]))[q]?=some (.lst (pvs ps)):=by rw [L0 nqw];exact hq1
 have ho2:(B1.set w (.ins 0 [(0,.int n)]))[w]?=some (.ins 0 [(0,.int n)]):=get_set ho1
 have ho3:=get_app_of (o:=PO.lst (pvs (srt ps))) ho2
 refine⟨((B1.set w (PO.ins 0 [(0,.int n)]))++[PO.lst (pvs (srt ps))]).set w (PO.ins 0 [(0,.int n),(1,.ref B1.length)]),B1.length,?_,?_,⟨get_set ho3,?_⟩,hwl⟩
 ·simp [H8,is_number_eq,W.lo,W.hi,e1,ho1,ho2,hq2,ho3,n8 W.len]
 ·exact R9 (E9 (R9 (hA.trans h1) hw)) hw
 ·rw [L0 (Nat.ne_of_gt hwl)]
  have:=C7 (A:=B1.set w (.ins 0 [(0,.int n)])) (o:=.lst (pvs (srt ps)))
  rwa [List.length_set] at this
theorem ah6 {n:Int} {ps:List (Int×Int)} (W:Passings n ps) {A:PHp} {q:Nat} (hq:A[q]?=some (.lst (pvs ps))) :
 ∃A' r,H8 [.ref A.length,.int n,.ref q] (A++[.ins 0 []])=.ok .non A'/\A<+:A'/\WebAt A' A.length r n ps/\A.length<r:=
 aU9 W (List.prefix_append _ _) (Nat.le_refl _) C7 (get_app_of hq)
end Ws
namespace Ws
theorem X1 {e:ED} {σ:PSt} {A A1:PHp} {m k:Nat} (hm:m<=k) (h:e σ A=.ok (.int m) A1) (hk:k<=1000000:=by decide):iRng1 e σ A=.ok (.rng 0 m) A1:=by
 show bnd (e σ) _ A=_
 rw [bnd_ok h]
 show D2 (-(2 ^ 62)<=(m:Int)/\(m:Int)<2 ^ 62) _ A1=_
 rw [J0 (by omega)]
 rfl
theorem a46 (i j:Int) (A:PHp) (h:0<j):Q0 (.int i) (.int j) A=.ok (.int (i%j)) A:=by
 show D2 (0<j) (ret _) A=_
 rw [J0 h];rfl
theorem as4 {A:PHp} {a:Nat} {ns:List Int} (h:A[a]?=some (.ro (ns.map .int))) (k:Nat):∃c,G8 [.ref a,.int k] A=.ok (.int c) A:=by
 by_cases hk:k<ns.length
 ·refine⟨ns[k],?_⟩
  have hk':(k:Int)<(ns.length:Int):=by omega
  simp [G8,h,hk',hk,atI,ixN]
 ·refine⟨0,?_⟩
  have hk':¬(k:Int)<(ns.length:Int):=by omega
  simp [G8,h,hk',hk]
theorem aN0 (c:Int) (m:Nat) (hm:m<=64) (d:Int) (A:PHp):∃(σ:PSt) (xs:List Int),xs.length=m/\(∀x∈xs,(0:Int)<=x)/\σ[2]?=some (some (.ref A.length))/\
 N0 [some (.int c),some (.int m),some (.ref A.length),some (.int d),none,none] (A++[.lst []])=.ok (.nx σ) (A++[.lst (xs.map .int)]):=by
 have h:Comes (N0 [some (.int c),some (.int m),some (.ref A.length),some (.int d),none,none] (A++[.lst []]))
  (λσ A'=>∃(xs:List Int) (d:Int) (k:Option PV),xs.length=m/\(∀x∈xs,(0:Int)<=x)/\σ=[some (.int c),some (.int m),some (.ref A.length),some (.int d),k,none]/\A'=A++[.lst (xs.map .int)]) (λ_ _=>False):=by
  unfold N0
  refine d4 (lo:=0) (n:=m) (A1:=A++[.lst []]) (X1 hm (by rfl)) (λi σ A'=>∃(xs:List Int) (d:Int) (k:Option PV),xs.length=i/\(∀x∈xs,(0:Int)<=x)/\σ=[some (.int c),some (.int m),some (.ref A.length),some (.int d),k,none]/\A'=A++[.lst (xs.map .int)]) ⟨[],d,none,rfl,by simp,rfl,rfl⟩ ?_ (λ_ _ h=>h)
  rintro i σ A' hi ⟨xs,d,k,hl,hx,rfl,rfl⟩
  have hlim:xs.length<LIM:=lim_lt (by omega)
  refine Turns.nx ?_ ⟨xs++[d%5040],d / 5040,some (.int i),by simp [hl],?_,rfl,rfl⟩
  ·simp [Z7,hlim,au9]
  ·intro x hx'
   rcases List.mem_append.mp hx' with h | h
   ·exact hx x h
   ·simp at h;subst h;exact Int.emod_nonneg _ (by decide)
 obtain⟨σ,A',e,xs,d,k,h1,h2,rfl,rfl⟩:=h.end
 exact⟨_,xs,h1,h2,rfl,e⟩
theorem aN1 (c:Int) (m:Nat) (hm:m<=64) (z:Int) (hz:0<=z/\z<2147483647) (A:PHp):∃(σ:PSt) (xs:List Int),xs.length=m/\(∀x∈xs,(0:Int)<=x)/\σ[2]?=some (some (.ref A.length))/\
 N1 [some (.int c),some (.int m),some (.ref A.length),none,none,some (.int z)] (A++[.lst []])=.ok (.nx σ) (A++[.lst (xs.map .int)]):=by
 have h:Comes (N1 [some (.int c),some (.int m),some (.ref A.length),none,none,some (.int z)] (A++[.lst []]))
  (λσ A'=>∃(xs:List Int) (z:Int) (k:Option PV),xs.length=m/\(∀x∈xs,(0:Int)<=x)/\(0<=z/\z<2147483647)/\σ=[some (.int c),some (.int m),some (.ref A.length),none,k,some (.int z)]/\A'=A++[.lst (xs.map .int)]) (λ_ _=>False):=by
  unfold N1
  refine d4 (lo:=0) (n:=m) (A1:=A++[.lst []]) (X1 hm (by rfl)) (λi σ A'=>∃(xs:List Int) (z:Int) (k:Option PV),xs.length=i/\(∀x∈xs,(0:Int)<=x)/\(0<=z/\z<2147483647)/\σ=[some (.int c),some (.int m),some (.ref A.length),none,k,some (.int z)]/\A'=A++[.lst (xs.map .int)]) ⟨[],z,none,rfl,by simp,hz,rfl,rfl⟩ ?_ (λ_ _ h=>h)
  rintro i σ A' hi ⟨xs,z,k,hl,hx,hz,rfl,rfl⟩
  have hlim:xs.length<LIM:=lim_lt (by omega)
  have hb:(-(18446744073709551616)<z/\z<18446744073709551616):=by omega
  refine Turns.nx ?_ ⟨xs++[(z*(z / 1009+69621)+i+1)%2147483647],(z*(z / 1009+69621)+i+1)%2147483647,some (.int i),by simp [hl],?_,⟨Int.emod_nonneg _ (by decide),Int.emod_lt_of_pos _ (by decide)⟩,rfl,rfl⟩
  ·simp [Z8,hlim,au9,hb]
  ·intro x hx'
   rcases List.mem_append.mp hx' with h | h
   ·exact hx x h
   ·simp at h;subst h;exact Int.emod_nonneg _ (by decide)
 obtain⟨σ,A',e,xs,z,k,h1,h2,h3,rfl,rfl⟩:=h.end
 exact⟨_,xs,h1,h2,rfl,e⟩
theorem aa4 (c:Int) (m:Nat) (hm:m<=64) (A:PHp):∃xs:List Int,xs.length=m/\(∀x∈xs,0<=x)/\G3 [.int c,.int m] A=.ok (.ref A.length) (A++[.lst (xs.map .int)]):=by
 by_cases h:c%2=1
 ·obtain⟨σ,xs,h1,h2,h3,h4⟩:=aN0 c m hm (c / 2) A
  refine⟨xs,h1,h2,?_⟩
  unfold G3
  refine aQ1 rfl ?_
  rw [N2 (d5 (ae3 _ _) rfl)]
  refine bc2 ?_
  rw [bc3 (A':=A++[.lst []]) (by simp [h,plain,eqv])]
  rw [N2 (σ':=[some (.int c),some (.int m),some (.ref A.length),some (.int (c / 2)),none,none]) (A':=A++[.lst []]) (by simp)]
  rw [N2 h4]
  simp [h3]
 ·obtain⟨σ,xs,h1,h2,h3,h4⟩:=aN1 c m hm ((c*48271+7919)%2147483647) ⟨Int.emod_nonneg _ (by decide),Int.emod_lt_of_pos _ (by decide)⟩ A
  refine⟨xs,h1,h2,?_⟩
  unfold G3
  refine aQ1 rfl ?_
  rw [N2 (d5 (ae3 _ _) rfl)]
  rw [N2 (σ':=[some (.int c),some (.int m),some (.ref A.length),none,none,none]) (A':=A++[.lst []]) (by rw [bc4 (A':=A++[.lst []]) (by simp [h,plain,eqv])];rfl)]
  rw [N2 (σ':=[some (.int c),some (.int m),some (.ref A.length),none,none,some (.int ((c*48271+7919)%2147483647))]) (A':=A++[.lst []]) (by simp)]
  rw [N2 h4]
  simp [h3]
theorem aV0 {α:Type} {xs:List α} {j:Nat} (h:j<xs.length):atI xs (j:Int)=some xs[j]:=by
 unfold atI ixN
 rw [if_pos (by omega),if_pos (by omega)]
 simp [h]
theorem n9 {xs:List Int} {j:Nat} (h:j<xs.length):atI (xs.map PV.int) (j:Int)=some (.int xs[j]):=by
 rw [aV0 (by simpa using h)];simp
noncomputable def V1 (xs:List Int) (N:Nat):List (List Int):=(List.range N).map λk=>[xs.getD (36+k) 0,(k:Int)]
noncomputable def ord (xs:List Int) (N:Nat):List Int:=(G2 E4 (V1 xs N)).map λt=>t.getD 1 0
theorem ah7 (xs:List Int) (N:Nat):(ord xs N).Perm ((List.range N).map λ(k:Nat)=>(k:Int)):=by
 unfold ord
 refine ((K0 E4 (V1 xs N)).map _).trans ?_
 unfold V1
 rw [List.map_map]
 exact .refl _
theorem a47 (xs:List Int) (N:Nat):(ord xs N).length=N:=by rw [(ah7 xs N).length_eq];simp
theorem aI1 {xs:List Int} {N:Nat} {x:Int} (h:x∈ord xs N):0<=x/\x<N:=by
 have:=(ah7 xs N).mem_iff.mp h
 obtain⟨k,hk,rfl⟩:=List.mem_map.mp this
 have:=List.mem_range.mp hk
 omega
theorem aD4 (xs:List Int) (N:Nat):(ord xs N).Nodup:=by
 rw [(ah7 xs N).nodup_iff]
 rw [List.nodup_iff_pairwise_ne,List.pairwise_map]
 exact List.nodup_range.imp λh z=>h (by omega)
noncomputable def wst (c n:Int) (a o f:Nat) (k g t d:Option PV):PSt:=[some (.int c),some (.ref a),some (.int n),some (.ref o),some (.ref f),k,g,t,d,none]
theorem aN2 {c:Int} {xs:List Int} (hx:xs.length=46) (N:Nat) (hN:N<=6) (A:PHp) :
 Y8 [some (.int c),some (.ref A.length),some (.int N),none,none,none,none,none,none,none] (A++[.lst (xs.map .int)]) =
  .ok (.ref (A.length+3)) (A++[.lst (xs.map .int)]++[.lst ((V1 xs N).map λt=>.tup (t.map .int))]++[.lst ((G2 E4 (V1 xs N)).map λt=>.tup (t.map .int))]++[.lst ((ord xs N).map .int)]):=by
 have c1:Y7 [some (.int c),some (.ref A.length),some (.int N),none,none,none,none,none,none,none] (A++[.lst (xs.map .int)]) =
  .ok (.ref (A.length+1)) (A++[.lst (xs.map .int)]++[.lst ((V1 xs N).map λt=>.tup (t.map .int))]):=by
  unfold Y7
  refine Eq.trans (aQ0 (lo:=0) (n:=N) (A1:=A++[.lst (xs.map .int)]) (S:=λσ=>∃x,σ=[x,some (.ref A.length)]) (p:=λ_=>true)
   (f:=λv=>match v with | .int k=>.tup [.int (xs.getD (36+k.toNat) 0),.int k] | _=>.non) (X1 hN (by rfl)) (lim_le (by omega)) ⟨_,rfl⟩ ?_) ?_
  ·rintro i hi σ ⟨x,rfl⟩
   refine⟨_,rfl,⟨_,rfl⟩,rfl,λ_=>?_⟩
   have h36:(36:Int)+(i:Int)=((36+i:Nat):Int):=by omega
   have hlt:36+i<xs.length:=by omega
   have e36:atI (xs.map PV.int) (36+(i:Int))=some (.int xs[36+i]):=by rw [h36];exact n9 hlt
   simp [e36,hlt]
  ·have:A.length+1=(A++[PO.lst (xs.map .int)]).length:=by simp
   rw [this]
   rw [List.filter_eq_self.mpr λ_ _=>rfl]
   simp [V1,Function.comp_def]
 have hs:T8 ((V1 xs N).map λt=>PV.tup (t.map .int))=λA=>.ok ((G2 E4 (V1 xs N)).map λt=>PV.tup (t.map .int)) A:=by
  funext B
  exact s9 (by simp [V1];omega) (by intro t ht;obtain⟨k,_,rfl⟩:=List.mem_map.mp ht;simp)
 generalize hB:A++[PO.lst (xs.map .int)]++[PO.lst ((V1 xs N).map λt=>PV.tup (t.map .int))]=B at c1
 have hBl:B.length=A.length+2:=by rw [←hB];simp
 have hB1:B[A.length+1]?=some (.lst ((V1 xs N).map λt=>PV.tup (t.map .int))):=by
  rw [←hB,show A.length+1=(A++[PO.lst (xs.map .int)]).length by simp];exact C7
 unfold Y8
 refine Eq.trans (aP9 (a:=B.length) (l:=(G2 E4 (V1 xs N)).map λt=>.tup (t.map .int)) (A1:=B++[.lst ((G2 E4 (V1 xs N)).map λt=>.tup (t.map .int))])
  (S:=λσ=>∃x y,σ=[x,y]) (p:=λ_=>true) (f:=λv=>.int (aM9 v)) ?_ ?_ ?_ ⟨_,_,rfl⟩ ?_) ?_
 ·exact aZ4 (aK4 c1 (D8 hB1) (by rw [hs])) ae4
 ·exact ae4
 ·refine lim_le ?_
  rw [List.length_map,(K0 E4 (V1 xs N)).length_eq];simp [V1];omega
 ·rintro v hv σ ⟨x,y,rfl⟩
  obtain⟨t,ht,rfl⟩:=List.mem_map.mp hv
  obtain⟨k,_,rfl⟩:=List.mem_map.mp ((K0 _ _).mem_iff.mp ht)
  exact⟨[some (.int (xs.getD (36+k) 0)),some (.int k)],by simp,⟨_,_,rfl⟩,rfl,λ_=>rfl⟩
 ·have e:(List.map (λv=>PV.int (aM9 v)) (List.filter (λ_=>true) ((G2 E4 (V1 xs N)).map λt=>PV.tup (t.map .int))))=(ord xs N).map .int:=by
   rw [List.filter_eq_self.mpr λ_ _=>rfl,List.map_map,ord,List.map_map]
   refine List.map_congr_left λt ht=>?_
   obtain⟨k,_,rfl⟩:=List.mem_map.mp ((K0 _ _).mem_iff.mp ht)
   rfl
  rw [e,List.length_append,hBl]
  rfl
structure WF (A B:PHp) (a o f:Nat) (xs:List Int) (N:Nat) (ps:List (Int×Int)):Prop where
 pre:A<+:B
 above:A.length<=f
 sx:B[a]?=some (.lst (xs.map .int))
 so:B[o]?=some (.lst ((ord xs N).map .int))
 sf:B[f]?=some (.lst (pvs ps))
theorem WF.put {A B:PHp} {a o f:Nat} {xs:List Int} {N:Nat} {ps:List (Int×Int)} (W:WF A B a o f xs N ps) (haf:a≠f) (hof:o≠f) (p:Int×Int):WF A (B.set f (.lst (pvs (ps++[p])))) a o f xs N (ps++[p]):=
 ⟨R9 W.pre W.above,W.above,by rw [L0 haf];exact W.sx,by rw [L0 hof];exact W.so,get_set W.sf⟩
structure Pr (N:Nat) (ps:List (Int×Int)) (L:Nat):Prop where
 good:∀p∈ps,good N p
 nd:ps.Nodup
 len:ps.length<=L
theorem Pr.put {N L:Nat} {ps:List (Int×Int)} (h:Pr N ps L) {p:Int×Int} (hg:Ws.good N p) (hn:p∉ps):Pr N (ps++[p]) (L+1):=by
 refine⟨λq hq=>?_,?_,by rw [List.length_append];have:=h.len;simp;omega⟩
 ·rcases List.mem_append.mp hq with z | z
  ·exact h.good q z
  ·simp at z;subst z;exact hg
 ·rw [List.nodup_append]
  refine⟨h.nd,by simp,?_⟩
  intro x hx y hy
  simp at hy;subst hy
  rintro rfl;exact hn hx
theorem am6 {e v:ED} {σ:PSt} {B:PHp} {f:Nat} {l:List PV} {u:PV} (he:e σ B=.ok (.ref f) B) (hf:B[f]?=some (.lst l)) (hv:v σ B=.ok u B) (hl:l.length<LIM) :
 P5 e v σ B=.ok .non (B.set f (.lst (l++[u]))):=by
 show bnd (e σ) _ B=_
 rw [bnd_ok he]
 show bnd (Q9 f) _ B=_
 rw [bnd_ok (V2 hf),bnd_ok hv,bnd_ok (V2 hf),J0 hl]
 rfl
theorem ay4 {e i:ED} {σ:PSt} {B:PHp} {a:Nat} {l:List PV} {k:Int} {u:PV} (he:e σ B=.ok (.ref a) B) (hi:i σ B=.ok (.int k) B) (ha:D0 a B=.ok l B) (hk:atI l k=some u):C3 oIx e i σ B=.ok u B:=by
 show bnd (e σ) _ B=_
 rw [bnd_ok he,bnd_ok hi]
 show bnd (D0 a) _ B=_
 rw [bnd_ok ha,hk];rfl
theorem ad0 {e1 e2:ED} {σ:PSt} {A A1 A2:PHp} {u v:PV} (h1:e1 σ A=.ok u A1) (h2:e2 σ A1=.ok v A2):U7 (aCons e1 (aCons e2 aNil)) σ A=.ok (.tup [u,v]) A2:=by
 have h:aCons e1 (aCons e2 aNil) σ A=.ok [u,v] A2:=by
  show bnd (e1 σ) _ A=_
  rw [bnd_ok h1]
  have h3:aCons e2 aNil σ A1=.ok [v] A2:=by
   show bnd (e2 σ) _ A1=_
   rw [bnd_ok h2];rfl
  show bnd (aCons e2 aNil σ) _ A1=_
  rw [bnd_ok h3];rfl
 show bnd (aCons e1 (aCons e2 aNil) σ) _ A=_
 rw [bnd_ok h,J0 (by simp)];rfl
theorem bf7 {A B:PHp} {a o f:Nat} {xs:List Int} {N:Nat} (c:Int) (hN:N<=6) (h2:2<=N) (haf:a≠f) (hof:o≠f) (W:WF A B a o f xs N []) :
 Comes (S4 (wst c N a o f none none none none) B) (λσ B'=>∃k ps,σ=wst c N a o f k none none none/\WF A B' a o f xs N ps/\Pr N ps N) (λ_ _=>False):=by
 unfold S4
 refine d4 (lo:=0) (n:=N) (A1:=B) (X1 hN (by rfl)) (λi σ B'=>i<=N/\∃k ps,σ=wst c N a o f k none none none/\WF A B' a o f xs N ps/\Pr N ps i/\ps.map (·.2)=(ord xs N).take i)
  ⟨Nat.zero_le _,none,[],rfl,W,⟨by simp,by simp,by simp⟩,rfl⟩ ?_ (λσ B' ⟨_,k,ps,h1,h2,h3,_⟩=>⟨k,ps,h1,h2,h3⟩)
 rintro i σ B' hi ⟨_,k,ps,rfl,W',hp,hm⟩
 have hol:=a47 xs N
 have hin:i<(ord xs N).length:=by omega
 obtain⟨j,hj,hji,hat⟩:∃j,∃hj:j<(ord xs N).length,j≠i/\atI ((ord xs N).map PV.int) ((i:Int) - 1)=some (.int (ord xs N)[j]):=by
  by_cases h0:i=0
  ·subst h0
   refine⟨N - 1,by omega,by omega,?_⟩
   unfold atI ixN
   rw [if_neg (by omega),if_pos (by simp;omega)]
   have:(((0:Nat):Int) - 1+(((ord xs N).map PV.int).length:Int)).toNat=N - 1:=by rw [List.length_map,hol];omega
   rw [this]
   simp [hol,show N - 1<N by omega]
  ·refine⟨i - 1,by omega,by omega,?_⟩
   rw [show (i:Int) - 1=((i - 1:Nat):Int) by omega]
   exact n9 (by omega)
 have hne:(ord xs N)[j]≠(ord xs N)[i]:=by
  intro z
  rcases Nat.lt_or_gt_of_ne hji with h | h
  ·exact List.pairwise_iff_getElem.mp (aD4 xs N) j i hj hin h z
  ·exact List.pairwise_iff_getElem.mp (aD4 xs N) i j hin hj h z.symm
 have hg:good N ((ord xs N)[j],(ord xs N)[i]):=⟨aI1 (List.getElem_mem hj),aI1 (List.getElem_mem hin),hne⟩
 have hnew:((ord xs N)[j],(ord xs N)[i])∉ps:=by
  intro hmem
  have h1:(ord xs N)[i]∈(ord xs N).take i:=by rw [←hm];exact List.mem_map.mpr ⟨_,hmem,rfl⟩
  obtain⟨q,hq,e⟩:=List.mem_iff_getElem.mp h1
  rw [List.length_take] at hq
  rw [List.getElem_take] at e
  exact List.pairwise_iff_getElem.mp (aD4 xs N) q i (by omega) hin (by omega) e
 refine Turns.nx (σ:=wst c N a o f (some (.int i)) none none none) (A:=B'.set f (.lst (pvs (ps++[((ord xs N)[j],(ord xs N)[i])])))) ?_ ⟨hi,some (.int i),_,rfl,W'.put haf hof _,hp.put hg hnew,?_⟩
 ·have ho:=D8 W'.so
  have e1:=am6 (e:=eVar 4) (v:=U7 (aCons (C3 oIx (eVar 3) (C3 aZ1 (eVar 5) (eK (.int 1)))) (aCons (C3 oIx (eVar 3) (eVar 5)) aNil))) (σ:=wst c N a o f (some (.int i)) none none none) (B:=B') (f:=f) (u:=pv ((ord xs N)[j],(ord xs N)[i]))
   rfl W'.sf (by
    have x1:=ay4 (e:=eVar 3) (i:=C3 aZ1 (eVar 5) (eK (.int 1))) (σ:=wst c N a o f (some (.int i)) none none none) (B:=B') rfl rfl ho hat
    have x2:=ay4 (e:=eVar 3) (i:=eVar 5) (σ:=wst c N a o f (some (.int i)) none none none) (B:=B') rfl rfl ho (n9 hin)
    exact ad0 x1 x2) (lim_lt (by rw [pvs,List.length_map];have:=hp.len;omega))
  have e2:bnd (gName 5 (PV.int (0+(i:Int))) (wst c N a o f k none none none)) S3 B'=S3 (wst c N a o f (some (.int i)) none none none) B':=by simp [wst]
  rw [e2]
  unfold S3
  show bnd (P5 _ _ _) _ B'=_
  rw [bnd_ok e1]
  simp [pvs]
 ·rw [List.map_append,hm,List.map_cons,List.map_nil,List.take_succ_eq_append_getElem hin]
theorem bf8 {A B:PHp} {a o f:Nat} {xs:List Int} {N:Nat} (c:Int) (hx:xs.length=46) (hN:N<=6) (h2:2<=N) (haf:a≠f) (hof:o≠f) {k d:Option PV} {g t:Nat} (hg:g<N) (ht:t<N) {ps:List (Int×Int)} {L:Nat} (hL:L<=100) (W:WF A B a o f xs N ps) (P:Pr N ps L) :
 ∃d' B' ps',P8 (wst c N a o f k (some (.int g)) (some (.int t)) d) B=.ok (.nx (wst c N a o f k (some (.int g)) (some (.int t)) d')) B'/\WF A B' a o f xs N ps'/\Pr N ps' (L+1):=by
 have hlt:6*g+t<xs.length:=by omega
 have ha:=D8 W.sx
 have hpos:0<2+xs[43]%5:=by have:=Int.emod_nonneg xs[43] (show (5:Int)≠0 by decide);omega
 have e1:C3 oEq (C3 Q0 (C3 oIx (eVar 1) (C3 P4 (C3 aq3 (eK (.int 6)) (eVar 6)) (eVar 7))) (C3 P4 (eK (.int 2)) (C3 Q0 (C3 oIx (eVar 1) (eK (.int 43))) (eK (.int 5))))) (eK (.int 0))
  (wst c N a o f k (some (.int g)) (some (.int t)) d) B=.ok (.bl (decide (xs[6*g+t]%(2+xs[43]%5)=0))) B:=by
  have x1:=ay4 (e:=eVar 1) (i:=C3 P4 (C3 aq3 (eK (.int 6)) (eVar 6)) (eVar 7)) (σ:=wst c N a o f k (some (.int g)) (some (.int t)) d) (B:=B) (k:=((6*g+t:Nat):Int)) rfl (by simp [wst]) ha (n9 hlt)
  have x2:=ay4 (e:=eVar 1) (i:=eK (.int 43)) (σ:=wst c N a o f k (some (.int g)) (some (.int t)) d) (B:=B) (k:=(43:Nat)) rfl rfl ha (n9 (by omega))
  have x3:C3 P4 (eK (.int 2)) (C3 Q0 (C3 oIx (eVar 1) (eK (.int 43))) (eK (.int 5))) (wst c N a o f k (some (.int g)) (some (.int t)) d) B=.ok (.int (2+xs[43]%5)) B:=by
   show bnd (bnd (C3 oIx (eVar 1) (eK (.int 43)) _) _) _ B=_
   rw [bnd_ok (show bnd (C3 oIx (eVar 1) (eK (.int 43)) (wst c N a o f k (some (.int g)) (some (.int t)) d)) _ B=.ok (.int (xs[43]%5)) B by rw [bnd_ok x2];exact a46 _ _ _ (by decide))]
   rfl
  have x4:C3 Q0 (C3 oIx (eVar 1) (C3 P4 (C3 aq3 (eK (.int 6)) (eVar 6)) (eVar 7))) (C3 P4 (eK (.int 2)) (C3 Q0 (C3 oIx (eVar 1) (eK (.int 43))) (eK (.int 5)))) (wst c N a o f k (some (.int g)) (some (.int t)) d) B=.ok (.int (xs[6*g+t]%(2+xs[43]%5))) B:=by
   show bnd (C3 oIx (eVar 1) _ _) _ B=_
   rw [bnd_ok x1,bnd_ok x3]
   show D2 (0<2+xs[43]%5) (ret _) B=_
   rw [J0 hpos];rfl
  show bnd (C3 Q0 _ _ _) _ B=_
  rw [bnd_ok x4]
  simp [plain,eqv]
 have e2:=d5 (g:=gName 8) e1 (σ':=wst c N a o f k (some (.int g)) (some (.int t)) (some (.bl (decide (xs[6*g+t]%(2+xs[43]%5)=0))))) (A'':=B) rfl
 unfold P8
 rw [N2 e2]
 generalize decide (xs[6*g+t]%(2+xs[43]%5)=0)=b
 have n1:G1 (C3 oNe (eVar 6) (eVar 7)) (wst c N a o f k (some (.int g)) (some (.int t)) (some (.bl b))) B=.ok (!decide ((g:Int)=t)) B:=by
  simp [wst,plain,eqv]
 have n2:G1 (eVar 8) (wst c N a o f k (some (.int g)) (some (.int t)) (some (.bl b))) B=.ok b B:=rfl
 have n3:G1 (C3 aA8 (U7 (aCons (eVar 6) (aCons (eVar 7) aNil))) (eVar 4)) (wst c N a o f k (some (.int g)) (some (.int t)) (some (.bl b))) B=.ok (!decide (((g:Int),(t:Int))∈ps)) B:=by
  have y1:U7 (aCons (eVar 6) (aCons (eVar 7) aNil)) (wst c N a o f k (some (.int g)) (some (.int t)) (some (.bl b))) B=.ok (pv ((g:Int),(t:Int))) B:=ad0 rfl rfl
  show bnd (bnd (U7 _ _) _) _ B=_
  rw [bnd_ok (show bnd (U7 (aCons (eVar 6) (aCons (eVar 7) aNil)) (wst c N a o f k (some (.int g)) (some (.int t)) (some (.bl b)))) _ B=.ok (.bl (!decide (((g:Int),(t:Int))∈ps))) B by
   rw [bnd_ok y1]
   show bnd (D0 f) _ B=_
   rw [bnd_ok (D8 W.sf),J0 ⟨ay2 _,W8 _⟩,aI0];rfl)]
  rfl
 by_cases hc:((g:Int)≠t)/\b=true/\((g:Int),(t:Int))∉ps
 ·obtain⟨c1,c2,c3⟩:=hc
  refine⟨some (.bl b),B.set f (.lst (pvs (ps++[((g:Int),(t:Int))]))),ps++[((g:Int),(t:Int))],?_,W.put haf hof _,P.put ⟨by constructor <;> omega,by constructor <;> omega,c1⟩ c3⟩
  rw [bc3 (A':=B) (by
   show bnd (G1 _ _) _ B=_
   rw [bnd_ok n1,if_pos (by simp [c1])]
   show bnd (G1 _ _) _ B=_
   rw [bnd_ok n2,if_pos c2,n3];simp [c3])]
  have y1:U7 (aCons (eVar 6) (aCons (eVar 7) aNil)) (wst c N a o f k (some (.int g)) (some (.int t)) (some (.bl b))) B=.ok (pv ((g:Int),(t:Int))) B:=ad0 rfl rfl
  have y2:=am6 (e:=eVar 4) (v:=U7 (aCons (eVar 6) (aCons (eVar 7) aNil))) (σ:=wst c N a o f k (some (.int g)) (some (.int t)) (some (.bl b))) (B:=B) rfl W.sf y1 (lim_lt (by rw [pvs,List.length_map];have:=P.len;omega))
  show bnd (P5 _ _ _) _ B=_
  rw [bnd_ok y2]
  simp [pvs]
 ·refine⟨some (.bl b),B,ps,?_,W,⟨P.good,P.nd,Nat.le_succ_of_le P.len⟩⟩
  rw [bc4 (A':=B) (by
   show bnd (G1 _ _) _ B=_
   rw [bnd_ok n1]
   by_cases c1:(g:Int)=t
   ·rw [if_neg (by simp [c1])];rfl
   ·rw [if_pos (by simp [c1])]
    show bnd (G1 _ _) _ B=_
    rw [bnd_ok n2]
    by_cases c2:b=true
    ·rw [if_pos c2,n3]
     have c3:((g:Int),(t:Int))∈ps:=Classical.byContradiction λz=>hc ⟨c1,c2,z⟩
     simp [c3]
    ·rw [if_neg c2];rfl)]
  rfl
theorem bf9 {A B:PHp} {a o f:Nat} {xs:List Int} {N:Nat} (c:Int) (hx:xs.length=46) (hN:N<=6) (h2:2<=N) (haf:a≠f) (hof:o≠f) {k:Option PV} {ps:List (Int×Int)} (W:WF A B a o f xs N ps) (P:Pr N ps N) :
 Comes (Z1 (wst c N a o f k none none none) B) (λσ B'=>∃g t d ps,σ=wst c N a o f k g t d/\WF A B' a o f xs N ps/\Pr N ps 50) (λ_ _=>False):=by
 unfold Z1
 refine d4 (lo:=0) (n:=N) (A1:=B) (X1 hN (by rfl)) (λi σ B'=>∃g t d ps,σ=wst c N a o f k g t d/\WF A B' a o f xs N ps/\Pr N ps (6+6*i)) ⟨none,none,none,ps,rfl,W,⟨P.good,P.nd,by have:=P.len;omega⟩⟩ ?_
  (λσ B' ⟨g,t,d,ps,h1,h2,h3⟩=>⟨g,t,d,ps,h1,h2,⟨h3.good,h3.nd,by have:=h3.len;omega⟩⟩)
 rintro i σ B' hi ⟨g,t,d,ps,rfl,W',P'⟩
 have e:bnd (gName 6 (PV.int (0+(i:Int))) (wst c N a o f k g t d)) Z0 B'=Y9 (wst c N a o f k (some (.int i)) t d) B':=by simp [wst,Z0]
 rw [e]
 refine Comes.turns ?_
 unfold Y9
 refine d4 (lo:=0) (n:=N) (A1:=B') (X1 hN (by rfl)) (λj σ B'=>∃t d ps,σ=wst c N a o f k (some (.int i)) t d/\WF A B' a o f xs N ps/\Pr N ps (6+6*i+j)) ⟨t,d,ps,rfl,W',P'⟩ ?_
  (λσ B' ⟨t,d,ps,h1,h2,h3⟩=>⟨_,t,d,ps,h1,h2,⟨h3.good,h3.nd,by have:=h3.len;omega⟩⟩)
 rintro j σ B2 hj ⟨t,d,ps,rfl,W2,P2⟩
 obtain⟨d',B3,ps',e3,W3,P3⟩:=bf8 c hx hN h2 haf hof (k:=k) (d:=d) hi hj (by omega) W2 P2
 have e':bnd (gName 7 (PV.int (0+(j:Int))) (wst c N a o f k (some (.int i)) t d)) P8 B2=P8 (wst c N a o f k (some (.int i)) (some (.int j)) d) B2:=by simp [wst]
 rw [e']
 exact Turns.nx e3 ⟨some (.int j),d',ps',rfl,W3,P3⟩
theorem v6 {α:Type} (xs:List α) (i:Nat):cut xs (some (i:Int)) none=xs.drop i:=by
 unfold cut j6
 simp only
 rw [if_neg (by omega)]
 rw [show (min (i:Int) (xs.length:Int)).toNat=min i xs.length by omega]
 by_cases h:i<=xs.length
 ·rw [Nat.min_eq_left h,List.take_of_length_le (by simp)]
 ·rw [Nat.min_eq_right (by omega),List.drop_length,List.drop_eq_nil_of_le (by omega)];simp
theorem aV1 {i:ED} {σ:PSt} {A B:PHp} {j:Int} (hi:i σ A=.ok (.int j) B):lAt i σ A=.ok (some j) B:=by
 show bnd (i σ) _ A=_
 rw [bnd_ok hi];rfl
theorem ah8 {f:OD} {a b:ED} {σ:PSt} {A A1 A2 A3:PHp} {x y z:PV} (ha:a σ A=.ok x A1) (hb:b σ A1=.ok y A2) (hf:f x y A2=.ok z A3):C3 f a b σ A=.ok z A3:=by
 show bnd (a σ) _ A=_
 rw [bnd_ok ha,bnd_ok hb,hf]
theorem a48 {e:ED} {σ:PSt} {A A1:PHp} {b:Bool} (h:e σ A=.ok (.bl b) A1):G1 e σ A=.ok b A1:=by
 show bnd (e σ) _ A=_
 rw [bnd_ok h];rfl
theorem aD5 {e i:ED} {σ:PSt} {B:PHp} {a j:Nat} {l:List PV} (he:e σ B=.ok (.ref a) B) (hi:i σ B=.ok (.int j) B) (ha:D0 a B=.ok l B):X5 e (lAt i) lNo σ B=.ok (.ref B.length) (B++[.lst (l.drop j)]):=by
 show bnd (e σ) _ B=_
 rw [bnd_ok he]
 show bnd (lAt i σ) _ B=_
 rw [bnd_ok (aV1 hi)]
 show bnd (D0 a) _ B=_
 rw [bnd_ok ha,v6];rfl
theorem aV2 {e i:ED} {σ:PSt} {B:PHp} {a j:Nat} {l:List PV} (he:e σ B=.ok (.ref a) B) (hi:i σ B=.ok (.int j) B) (ha:D0 a B=.ok l B):X5 e lNo (lAt i) σ B=.ok (.ref B.length) (B++[.lst (l.take j)]):=by
 show bnd (e σ) _ B=_
 rw [bnd_ok he]
 show bnd (lAt i σ) _ B=_
 rw [bnd_ok (aV1 hi)]
 show bnd (D0 a) _ B=_
 rw [bnd_ok ha,aU7];rfl
end Ws
namespace Ws
theorem bg0 (c:Int) (A:PHp):∃(n:Int) (ps:List (Int×Int)) (A':PHp) (r:Nat),S6 [.int c] A=.ok (.tup [.int n,.ref r]) A'/\A<+:A'/\A'[r]?=some (.lst (pvs ps))/\Passings n ps/\A.length<=r:=by
 obtain⟨xs,hx,hx0,es⟩:=aa4 c 46 (by decide) A
 have h45:=Int.emod_nonneg xs[45] (show (5:Int)≠0 by decide)
 have h45':=Int.emod_lt_of_pos xs[45] (show (0:Int)<5 by decide)
 obtain⟨N,hNn,h2,hN⟩:∃N:Nat,(2:Int)+xs[45]%5=(N:Int)/\2<=N/\N<=6:=⟨(2+xs[45]%5).toNat,by omega,by omega,by omega⟩
 have hA0:(A++[PO.lst (xs.map .int)])[A.length]?=some (.lst (xs.map .int)):=C7
 have eo:=aN2 (c:=c) hx N hN A
 generalize hB4:A++[PO.lst (xs.map .int)]++[PO.lst ((V1 xs N).map λt=>PV.tup (t.map .int))]++[PO.lst ((G2 E4 (V1 xs N)).map λt=>PV.tup (t.map .int))]++[PO.lst ((ord xs N).map .int)]=B4 at eo
 have hl4:B4.length=A.length+4:=by rw [←hB4];simp
 have hp4:A++[PO.lst (xs.map .int)]<+:B4:=by rw [←hB4];exact E9 (E9 (List.prefix_append _ _))
 have ha4:=pre_get hp4 hA0
 have ho4:B4[A.length+3]?=some (.lst ((ord xs N).map .int)):=by
  rw [←hB4]
  have:A.length+3=(A++[PO.lst (xs.map .int)]++[PO.lst ((V1 xs N).map λt=>PV.tup (t.map .int))]++[PO.lst ((G2 E4 (V1 xs N)).map λt=>PV.tup (t.map .int))]).length:=by simp
  rw [this];exact C7
 have W0:WF A (B4++[.lst []]) A.length (A.length+3) B4.length xs N []:=⟨E9 ((List.prefix_append _ _).trans hp4),by omega,get_app_of ha4,get_app_of ho4,C7⟩
 have haf:A.length≠B4.length:=by omega
 have hof:A.length+3≠B4.length:=by omega
 have ix (j:Nat) (hj:j<46) {σ:PSt} {B:PHp} (hσ:σ[1]?=some (some (.ref A.length))) (hB:B[A.length]?=some (.lst (xs.map .int))):C3 oIx (eVar 1) (eK (.int j)) σ B=.ok (.int xs[j]) B:=
  ay4 (k:=(j:Int)) (by simp [hσ]) rfl (D8 hB) (n9 (by omega))
 obtain⟨k,ps1,B5,e5,W1,P1⟩:∃k ps1 B5,sIf (G1 (C3 oGt (C3 Q0 (C3 oIx (eVar 1) (eK (.int 42))) (eK (.int 3))) (eK (.int 0)))) S4 sPass (wst c N A.length (A.length+3) B4.length none none none none) (B4++[.lst []])=.ok (.nx (wst c N A.length (A.length+3) B4.length k none none none)) B5/\
  WF A B5 A.length (A.length+3) B4.length xs N ps1/\Pr N ps1 N:=by
  have t:G1 (C3 oGt (C3 Q0 (C3 oIx (eVar 1) (eK (.int 42))) (eK (.int 3))) (eK (.int 0))) (wst c N A.length (A.length+3) B4.length none none none none) (B4++[.lst []])=.ok (decide ((0:Int)<xs[42]%3)) (B4++[.lst []]):=by
   have x:=ix 42 (by decide) (σ:=wst c N A.length (A.length+3) B4.length none none none none) (B:=B4++[.lst []]) rfl W0.sx
   exact a48 (ah8 (ah8 x rfl (a46 _ _ _ (by decide))) rfl rfl)
  by_cases h:(0:Int)<xs[42]%3
  ·obtain⟨σ,B5,e,k,ps,rfl,W,P⟩:=(bf7 c hN h2 haf hof W0).end
   exact⟨k,ps,B5,by rw [bc3 (A':=B4++[.lst []]) (by rw [t,decide_eq_true h]),e],W,P⟩
  ·exact⟨none,[],_,by rw [bc4 (A':=B4++[.lst []]) (by rw [t,decide_eq_false h])];rfl,W0,⟨by simp,by simp,by simp⟩⟩
 obtain⟨σ6,B6,e6,g,t,d,ps,rfl,W2,P2⟩:=(bf9 c hx hN h2 haf hof W1 P1 (k:=k)).end
 have h44:=Int.emod_nonneg xs[44] (show ((ps.length:Int)+1)≠0 by omega)
 have h44':=Int.emod_lt_of_pos xs[44] (show (0:Int)<(ps.length:Int)+1 by omega)
 obtain⟨q,hq⟩:∃q:Nat,xs[44]%((ps.length:Int)+1)=(q:Int):=⟨(xs[44]%((ps.length:Int)+1)).toNat,by omega⟩
 let σ7:PSt:=[some (.int c),some (.ref A.length),some (.int N),some (.ref (A.length+3)),some (.ref B4.length),k,g,t,d,some (.int q)]
 have e7:J7 (C3 Q0 (C3 oIx (eVar 1) (eK (.int 44))) (C3 P4 (ae0 (eVar 4)) (eK (.int 1)))) (gName 9) (wst c N A.length (A.length+3) B4.length k g t d) B6=.ok (.nx σ7) B6:=by
  have x:=ix 44 (by decide) (σ:=wst c N A.length (A.length+3) B4.length k g t d) (B:=B6) rfl W2.sx
  have x2:C3 P4 (ae0 (eVar 4)) (eK (.int 1)) (wst c N A.length (A.length+3) B4.length k g t d) B6=.ok (.int ((ps.length:Int)+1)) B6:=by
   simp [wst,W2.sf,pvs]
  refine d5 (v:=.int q) (A':=B6) (ah8 x x2 ?_) rfl
  rw [a46 _ _ _ (by omega),hq]
 have e8:K8 (U7 (aCons (eVar 2) (aCons (C3 P4 (X5 (eVar 4) (lAt (eVar 9)) lNo) (X5 (eVar 4) lNo (lAt (eVar 9)))) aNil))) σ7 B6 =
  .ok (.rt (.tup [.int N,.ref (B6.length+2)])) (B6++[.lst ((pvs ps).drop q)]++[.lst ((pvs ps).take q)]++[.lst ((pvs ps).drop q++(pvs ps).take q)]):=by
  have x1:X5 (eVar 4) (lAt (eVar 9)) lNo σ7 B6=.ok (.ref B6.length) (B6++[.lst ((pvs ps).drop q)]):=aD5 rfl rfl (D8 W2.sf)
  have x2:X5 (eVar 4) lNo (lAt (eVar 9)) σ7 (B6++[.lst ((pvs ps).drop q)])=.ok (.ref (B6.length+1)) (B6++[.lst ((pvs ps).drop q)]++[.lst ((pvs ps).take q)]):=by
   have:=aV2 (e:=eVar 4) (i:=eVar 9) (σ:=σ7) (B:=B6++[.lst ((pvs ps).drop q)]) (j:=q) rfl rfl (D8 (get_app_of W2.sf))
   rw [this];simp
  have m1:Q9 B6.length (B6++[.lst ((pvs ps).drop q)]++[.lst ((pvs ps).take q)])=.ok ((pvs ps).drop q) (B6++[.lst ((pvs ps).drop q)]++[.lst ((pvs ps).take q)]):=V2 (get_app_of C7)
  have m2:Q9 (B6.length+1) (B6++[.lst ((pvs ps).drop q)]++[.lst ((pvs ps).take q)])=.ok ((pvs ps).take q) (B6++[.lst ((pvs ps).drop q)]++[.lst ((pvs ps).take q)]):=by
   have:=C7 (A:=B6++[PO.lst ((pvs ps).drop q)]) (o:=.lst ((pvs ps).take q))
   rw [List.length_append] at this
   exact V2 this
  have x3:C3 P4 (X5 (eVar 4) (lAt (eVar 9)) lNo) (X5 (eVar 4) lNo (lAt (eVar 9))) σ7 B6=.ok (.ref (B6.length+2)) (B6++[.lst ((pvs ps).drop q)]++[.lst ((pvs ps).take q)]++[.lst ((pvs ps).drop q++(pvs ps).take q)]):=by
   show bnd (X5 _ _ _ _) _ _=_
   rw [bnd_ok x1,bnd_ok x2]
   show bnd (Q9 _) _ _=_
   rw [bnd_ok m1,bnd_ok m2,J0 (lim_le (by have:=P2.len;simp [pvs];omega))]
   show R.ok (PV.ref _) _=_
   simp
  have x4:=ad0 (e1:=eVar 2) (e2:=C3 P4 (X5 (eVar 4) (lAt (eVar 9)) lNo) (X5 (eVar 4) lNo (lAt (eVar 9)))) (σ:=σ7) (A:=B6) (A1:=B6) (u:=.int N) rfl x3
  show bnd (U7 _ _) _ _=_
  rw [bnd_ok x4];rfl
 have hperm:(ps.drop q++ps.take q).Perm ps:=by
  refine List.perm_append_comm.trans ?_
  rw [List.take_append_drop]
 refine⟨N,ps.drop q++ps.take q,B6++[.lst ((pvs ps).drop q)]++[.lst ((pvs ps).take q)]++[.lst ((pvs ps).drop q++(pvs ps).take q)],B6.length+2,?_,E9 (E9 (E9 W2.pre)),?_,
  ⟨by omega,by omega,λp hp=>P2.good p (hperm.mem_iff.mp hp),hperm.nodup_iff.mpr P2.nd,by rw [hperm.length_eq];have:=P2.len;omega⟩,by have:=i3 W2.pre;omega⟩
 ·unfold S6
  refine aQ1 rfl ?_
  rw [N2 (σ':=[some (.int c),some (.ref A.length),none,none,none,none,none,none,none,none]) (A':=A++[.lst (xs.map .int)]) (by
   refine d5 (v:=.ref A.length) (A':=A++[.lst (xs.map .int)]) ?_ rfl
   exact es)]
  rw [N2 (σ':=[some (.int c),some (.ref A.length),some (.int N),none,none,none,none,none,none,none]) (A':=A++[.lst (xs.map .int)]) (by
   refine d5 (v:=.int N) (A':=A++[.lst (xs.map .int)]) ?_ rfl
   have x:=ix 45 (by decide) (σ:=[some (.int c),some (.ref A.length),none,none,none,none,none,none,none,none]) (B:=A++[.lst (xs.map .int)]) rfl hA0
   refine ah8 rfl (ah8 x rfl (a46 _ _ _ (by decide))) ?_
   show R.ok (PV.int ((2:Int)+xs[45]%5)) _=_
   rw [hNn])]
  rw [N2 (d5 (g:=gName 3) eo (σ':=[some (.int c),some (.ref A.length),some (.int N),some (.ref (A.length+3)),none,none,none,none,none,none]) (A'':=B4) rfl)]
  rw [N2 (d5 (g:=gName 4) (ae3 _ _) (σ':=wst c N A.length (A.length+3) B4.length none none none none) (A'':=B4++[.lst []]) rfl)]
  rw [N2 e5,N2 e6,N2 e7]
  exact e8
 ·have:=C7 (A:=B6++[PO.lst ((pvs ps).drop q)]++[PO.lst ((pvs ps).take q)]) (o:=.lst ((pvs ps).drop q++(pvs ps).take q))
  rw [show B6.length+2=(B6++[PO.lst ((pvs ps).drop q)]++[PO.lst ((pvs ps).take q)]).length by simp,this]
  simp [pvs]
end Ws
namespace Ws
theorem v7 (p q:Int×Int):ltP p q=true↔p.1<q.1\/(p.1=q.1/\p.2<q.2):=by
 unfold ltP l2 E4 E4
 by_cases h:p.1=q.1
 ·by_cases h2:p.2=q.2 <;> simp [h,h2,E4]
 ·simp [h]
theorem i9 (p q:Int×Int):ltP p q=false↔¬(p.1<q.1\/(p.1=q.1/\p.2<q.2)):=by
 rw [←v7];simp
theorem o0 (ps:List (Int×Int)):(srt ps).Pairwise (λp q=>ltP q p=false):=by
 refine Q7 ?_ ?_ ps
 ·intro a b h;rw [v7] at h;rw [i9];omega
 ·intro a b c h1 h2;rw [i9] at *;omega
end Ws
namespace Ws
noncomputable def T3 (N:Nat):List Int:=(List.range N).map λ(k:Nat)=>(k:Int)
theorem mem_hands {N:Nat} {x:Int}:x∈T3 N↔0<=x/\x<N:=by
 unfold T3
 rw [List.mem_map]
 constructor
 ·rintro⟨k,hk,rfl⟩
  have:=List.mem_range.mp hk
  omega
 ·rintro⟨h1,h2⟩
  exact⟨x.toNat,List.mem_range.mpr (by omega),by omega⟩
theorem am7 (N:Nat):(T3 N).length=N:=by simp [T3]
theorem ah9 (N:Nat):(T3 N).Pairwise (·< ·):=by
 unfold T3
 rw [List.pairwise_map]
 exact List.pairwise_lt_range.imp λh=>by omega
end Ws
namespace Ws
theorem aV3 (ps qs:List (Int×Int)):R4 (pvs ps) (pvs qs)=decide (ps=qs):=by
 have h:=av2 (pvs ps) (pvs qs) (W8 _)
 have inj:pvs ps=pvs qs↔ps=qs:=⟨λz=>by
  unfold pvs at z
  exact List.map_inj_right (λ_ _=>aU6) |>.mp z,λz=>by rw [z]⟩
 cases e:R4 (pvs ps) (pvs qs) with
 | true=>exact (decide_eq_true (inj.mp (h.mp e))).symm
 | false=>exact (decide_eq_false λz=>by rw [h.mpr (inj.mpr z)] at e;cases e).symm
section
variable {A:PHp} {Q:PV->PHp->Prop} {E:XP} {σ:PSt} {i j:Int} {n k:Nat} {e e1 e2 e3 e4:ED}
noncomputable abbrev DT:=List (List Int×PV)
variable {m:DT}
theorem ab7 {QM:DT->PHp->Prop} (h:A[n]?=some (.dT m)) (q:QM m A):Wp (R1 n) A QM E:=w_eq (a:=m) (by unfold R1;rw [h]) q
theorem w_tnew (q:Q (.ref A.length) (A++[.dT []])):Wp (av4 σ) A Q E:=q
theorem w_tget (h:Wp (e1 σ) A (λx A1=>Wp (e2 σ) A1 (λk A2=>∃n i m v,x=.ref n/\T6 k=some i/\A2[n]?=some (.dT m)/\N8 m i=some v/\Q v A2) E) E):Wp (al7 e1 e2 σ) A Q E:=
 C0 (w_mono h λx A1 h1=>C0 (w_mono h1 λk A2 ⟨n,i,m,v,hx,hk,hn,hv,q⟩=>by subst hx;rw [hk];exact C0 (ab7 hn (by rw [hv];exact q))))
theorem w_tget1 (h:Wp (e1 σ) A (λx A1=>∃n m0,x=.ref n/\A1[n]?=some (.dT m0)/\Wp (e2 σ) A1 (λk A2=>∃i m,T6 k=some i/\A2[n]?=some (.dT m)/\Q ((N8 m i).getD .non) A2) E) E):Wp (aB2 e1 e2 σ) A Q E:=
 C0 (w_mono h λx A1 ⟨n,m0,hx,h0,h1⟩=>by
  subst hx
  exact C0 (ab7 h0 (C0 (w_mono h1 λk A2 ⟨i,m,hk,hn,q⟩=>by rw [hk];exact C0 (ab7 hn q)))))
theorem w_tput {QF:Fl->PHp->Prop} (h:Wp (e3 σ) A (λv A1=>Wp (e1 σ) A1 (λx A2=>Wp (e2 σ) A2 (λk A3=>∃n i m,x=.ref n/\T6 k=some i/\A3[n]?=some (.dT m)/\m.length<LIM/\QF (.nx σ) (A3.set n (.dT (av3 m i v)))) E) E) E):Wp (al6 e1 e2 e3 σ) A QF E:=
 C0 (w_mono h λv A1 h1=>C0 (w_mono h1 λx A2 h2=>C0 (w_mono h2 λk A3 ⟨n,i,m,hx,hk,hn,hm,q⟩=>by
  subst hx;rw [hk]
  exact C0 (ab7 hn (D1 hm (C0 (w_eq (a:=()) rfl q)))))))
theorem w_tcopy (h:Wp (e σ) A (λx A1=>∃n m,x=.ref n/\A1[n]?=some (.dT m)/\((m.map (·.1)).Nodup/\∀p∈m,p.1∈small)/\Q (.ref A1.length) (A1++[.dT m])) E):Wp (aq9 e σ) A Q E:=
 C0 (w_mono h λx A1 ⟨n,m,hx,h0,h1,q⟩=>by subst hx;exact C0 (ab7 h0 (D1 h1 q)))
theorem w_eqS {x y:PySem.Str} (q:Q (.bl (decide (x=y))) A):Wp (oEq (.str x) (.str y)) A Q E:=a68 rfl rfl q
theorem w_neS {x y:PySem.Str} (q:Q (.bl (!decide (x=y))) A):Wp (oNe (.str x) (.str y)) A Q E:=a69 rfl rfl q
theorem w_nePV {ps qs:List (Int×Int)} {n k:Nat} (hn:A[n]?=some (.lst (pvs ps))) (hk:A[k]?=some (.lst (pvs qs))) (q:Q (.bl (!decide (ps=qs))) A):Wp (oNe (.ref n) (.ref k)) A Q E:=a71 hn hk ⟨W8 _,W8 _⟩ (by rw [aV3];exact q)
theorem w_isStr (h:Wp (e σ) A (λx A1=>Wp (ar0 x) A1 (λb A2=>Q (.bl b) A2) E) E):Wp (aB3 e σ) A Q E:=C0 (w_mono h λ_ _ h1=>C0 h1)
theorem w_sorted (h:Wp (e σ) A (λx A1=>∃n l l',x=.ref n/\A1[n]?=some (.lst l)/\T8 l A1=.ok l' A1/\Q (.ref A1.length) (A1++[.lst l'])) E):Wp (X6 e σ) A Q E:=C0 (w_mono h λx A1 ⟨n,l,l',hx,h0,h1,q⟩=>by subst hx;exact C0 (Q8 h0 (C0 (w_eq h1 q))))
end
theorem a49 {m:DT} {i:List Int} {v:PV} (h:i∉m.map (·.1)):av3 m i v=m++[(i,v)]:=by
 unfold av3
 rw [if_neg]
 rw [List.any_eq_true]
 rintro⟨p,hp,hd⟩
 exact h (List.mem_map.mpr ⟨p,hp,by simpa using hd⟩)
theorem a50 {m:DT} {i:List Int} {v:PV} (nd:(m.map (·.1)).Nodup) (h:(i,v)∈m):N8 m i=some v:=by
 induction m with
 | nil=>cases h
 | cons p r ih=>
   unfold N8
   rcases List.mem_cons.mp h with z | z
   ·rw [←z,if_pos rfl]
   ·have nd':=List.nodup_cons.mp nd
    have:p.1≠i:=λe=>nd'.1 (List.mem_map.mpr ⟨_,z,e.symm⟩)
    rw [if_neg this];exact ih nd'.2 z
section
variable {A:PHp} {E:XP} {n:Nat} {l:List PV} {m:DT}
theorem w_isStrV {QB:Bool->PHp->Prop} {x:PV} {b:Bool} (h:ar0 x A=.ok b A) (q:QB b A):Wp (ar0 x) A QB E:=w_eq h q
theorem exD1 {R:Nat->DT->Prop} (h:A[n]?=some (.dT m)) (q:R n m):∃n' m',PV.ref n=.ref n'/\A[n']?=some (.dT m')/\R n' m':=⟨n,m,rfl,h,q⟩
theorem exD2 {k:PV} {i:List Int} {R:List Int->DT->Prop} (hk:T6 k=some i) (h:A[n]?=some (.dT m)) (q:R i m):∃i' m',T6 k=some i'/\A[n]?=some (.dT m')/\R i' m':=⟨i,m,hk,h,q⟩
theorem exD3 {k:PV} {i:List Int} {R:Nat->List Int->DT->Prop} (hk:T6 k=some i) (h:A[n]?=some (.dT m)) (q:R n i m):∃n' i' m',PV.ref n=.ref n'/\T6 k=some i'/\A[n']?=some (.dT m')/\R n' i' m':=⟨n,i,m,rfl,hk,h,q⟩
theorem exD4 {k:PV} {i:List Int} {v:PV} {R:PV->Prop} (hk:T6 k=some i) (h:A[n]?=some (.dT m)) (hv:N8 m i=some v) (q:R v):∃n' i' m' v',PV.ref n=.ref n'/\T6 k=some i'/\A[n']?=some (.dT m')/\N8 m' i'=some v'/\R v':=⟨n,i,m,v,rfl,hk,h,hv,q⟩
theorem get_appL {o:PO} {k:Nat} (h:A.length=k):(A++[o])[k]?=some o:=by subst h;exact C7
theorem brC {c:Bool} {P R:Prop} (h:c=false) (q:R):(c=true->P)/\(c=false->R):=⟨λz=>(by rw [h] at z;cases z),λ_=>q⟩
end
end Ws
local macro_rules | `(tactic| walk_at "s1")=>`(tactic| first
 | with_reducible refine Ws.w_isV ?_)
local macro_rules | `(tactic| walk_at "s3")=>`(tactic| ((with_reducible apply Ws.exX);(·walk_at "st");(·decide)))
local macro_rules | `(tactic| walk_at "s1")=>`(tactic| first
 | with_reducible refine Ws.w_isStr ?_
 | with_reducible refine Ws.w_tget ?_
 | with_reducible refine Ws.w_tget1 ?_
 | with_reducible refine Ws.w_tput ?_
 | with_reducible refine Ws.w_tcopy ?_
 | with_reducible refine Ws.w_sorted ?_
 | with_reducible refine Ws.w_raise ?_)
local macro_rules | `(tactic| walk_at "s2")=>`(tactic| first
 | with_reducible refine Ws.w_tnew ?_
 | with_reducible refine Ws.w_eqS ?_
 | with_reducible refine Ws.w_neS ?_
 | ((with_reducible apply Ws.w_nePV);(·walk_at "st");(·walk_at "st"))
 | ((with_reducible apply Ws.w_isStrV);(·rfl))
 | ((with_reducible apply Ws.w_isTyT);(·walk_at "st")))
local macro_rules | `(tactic| walk_at "s3")=>`(tactic| first
 | ((with_reducible apply Ws.exD1);(·walk_at "st"))
 | ((with_reducible apply Ws.exD2);(·rfl);(·walk_at "st"))
 | ((with_reducible apply Ws.exD3);(·rfl);(·walk_at "st"))
 | ((with_reducible apply Ws.exD4);(·rfl);(·walk_at "st");(·first | assumption | rfl)))
local macro_rules | `(tactic| walk_at "pre")=>`(tactic| first
 | assumption
 | exact List.prefix_refl _
 | (refine Ws.E9 ?_;walk_at "pre")
 | ((refine Ws.R9 ?pp ?nn);(case nn=>walk_at "ne");(case pp=>walk_at "pre"))
 | (refine List.IsPrefix.trans (by assumption) ?_;walk_at "pre"))
local macro_rules | `(tactic| walk_at "s3")=>`(tactic| ((with_reducible refine And.intro (a:=List.IsPrefix _ _) ?h1 ?_);(case h1=>walk_at "pre")))
local macro_rules | `(tactic| walk_at "s3")=>`(tactic| ((with_reducible refine And.intro (a:=_<900) ?h1 ?_);(case h1=>((simp only [List.length_cons,List.length_nil,Ws.putFld,Nat.reduceEqDiff,if_false]);(try omega)))))
local macro_rules | `(tactic| walk_at "ne")=>`(tactic| first
 | assumption
 | omega
 | ((simp only [List.length_set,List.length_append,List.length_cons,List.length_nil]);omega))
local macro_rules | `(tactic| walk_at "st")=>`(tactic| first
 | ((with_reducible refine Ws.get_appL ?_);(first | rfl | ((simp only [List.length_set,List.length_append,List.length_cons,List.length_nil]);done) | ((simp only [List.length_set,List.length_append,List.length_cons,List.length_nil]);omega)))
 | ((with_reducible apply Ws.get_set);walk_at "st")
 | ((with_reducible apply Ws.get_app_of);walk_at "st")
 | ((refine (Ws.L0 ?ne).trans ?_);(case ne=>walk_at "ne");walk_at "st"))
local macro_rules | `(tactic| walk_at "br")=>`(tactic| first
 | ((with_reducible refine Ws.brC ?_ ?_);(·first | rfl | (simp;done) | decide))
 | ((with_reducible refine Ws.brD ?_ ?_);(·first | rfl | (simp;done) | decide)))
local macro_rules | `(tactic| walk_at "gb")=>`(tactic| repeat (first | walk_at "s" | walk_at "br"))
namespace Ws
section
theorem aV4 {α β:Type} (f:α->β) (xs:List α) (lo hi:Option Int):cut (xs.map f) lo hi=(cut xs lo hi).map f:=by
 unfold cut
 rw [List.length_map,List.map_take,List.map_drop]
end
noncomputable def Z2:List Int->Bool
 | a::b::r=>decide (a<b)&&Z2 (b::r)
 | _=>true
noncomputable def R7 (n:Int) (L:List Int):Bool:=!decide (L=[])&&(L.all λh=>decide (0<=h/\h<n))&&Z2 L
theorem ai0:∀L:List Int,(((n6 (L.map .int) ((L.drop 1).map .int)).map λv=>decide (a45 v<aM9 v)).all id)=Z2 L
 | []=>rfl
 | [a]=>rfl
 | a::b::r=>by
   have ih:=ai0 (b::r)
   show (decide (a<b)&&_)=_
   rw [Z2,←ih];rfl
theorem aV5 {L M:List Int} {v:PV} (h:v∈n6 (L.map .int) (M.map .int)):∃a b:Int,v=.tup [.int a,.int b]:=by
 induction L generalizing M with
 | nil=>cases h
 | cons a r ih=>
   cases M with
   | nil=>cases h
   | cons b s=>
     rcases List.mem_cons.mp h with z | z
     ·exact⟨a,b,z⟩
     ·exact ih z
theorem is_rising_ok {A:PHp} {l:Nat} {L:List Int} (hl:A[l]?=some (.lst (L.map .int))) (hL:L.length<=1000):Wp (N6 [.ref l]) A (λv A'=>A<+:A'/\v=.bl (Z2 L)) NoX:=by
 unfold N6
 walk_at "fn"
 walk_at "go"
 unfold g9
 refine ac9 (l:=n6 (L.map .int) ((L.drop 1).map .int)) (λσ=>∃x y,σ=[x,y]) (λ_=>true) (λv=>.bl (decide (a45 v<aM9 v))) ?_
 walk_at "go"
 have hc:cut (L.map PV.int) (some 1) none=(L.drop 1).map .int:=by rw [aV4];exact congrArg _ (v6 L 1)
 rw [hc]
 have hl1:(A++[PO.lst ((L.drop 1).map .int)])[l]?=some (.lst (L.map .int)):=get_app_of hl
 have hzl:=ay1 (L.map .int) ((L.drop 1).map .int)
 rw [List.length_map] at hzl
 walk_at "go"
 refine⟨L.length,?_,hzl,lim_le (by omega),⟨_,_,rfl⟩,λi=>aM8 hl1 C7 i,?_,?_⟩
 ·show bnd (D0 l) _ _=_
  rw [bnd_ok (D8 hl1)];simp
 ·rintro v σ hv ⟨x,y,rfl⟩
  obtain⟨a,b,rfl⟩:=aV5 hv
  walk_at "go"
  refine⟨rfl,⟨_,_,rfl⟩,?_⟩
  walk_at "go"
  refine⟨rfl,rfl,λ_=>?_⟩
  walk_at "go"
  exact⟨rfl,rfl⟩
 ·refine⟨_,(n6 (L.map .int) ((L.drop 1).map .int)).map λv=>decide (a45 v<aM9 v),rfl,?_,?_⟩
  ·rw [C7,List.filter_eq_self.mpr (by simp),List.map_map];rfl
  ·rw [ai0];exact⟨E9 (List.prefix_append _ _),rfl⟩
theorem are_leaders_ok {A:PHp} {w r l:Nat} {n:Int} {ps:List (Int×Int)} (W:WebAt A w r n ps) {L:List Int} (hl:A[l]?=some (.lst (L.map .int))) (hL:L.length<=1000):Wp (I9 [.ref w,.ref l]) A (λv A'=>A<+:A'/\v=.bl (R7 n L)) NoX:=by
 unfold I9
 walk_at "fn"
 walk_at "gb"
 refine⟨λh1=>?_,λh1=>?_⟩
 ·walk_at "go"
  have:L=[]:=of_decide_eq_true h1
  simp [R7,this]
 have hne:L≠[]:=of_decide_eq_false h1
 walk_at "go"
 unfold f_are_leaders_c1
 have W1:=W.mono (List.prefix_append A [PO.lst []])
 have hob:=W1.ob
 have hl1:(A++[PO.lst []])[l]?=some (.lst (L.map .int)):=get_app_of hl
 refine ac9 (l:=L.map .int) (λσ=>∃x,σ=[x,some (.ref w)]) (λ_=>true) (λv=>match v with | .int h=>.bl (decide (0<=h/\h<n)) | _=>.non) ?_
 walk_at "go"
 refine⟨L.length,by rw [fuel_lst hl1];simp,by simp,by simp;exact lim_le (by omega),⟨_,rfl⟩,λi=>ah3 hl1 i,?_,?_⟩
 ·rintro v σ hv ⟨x,rfl⟩
  obtain⟨h,hh,rfl⟩:=List.mem_map.mp hv
  walk_at "go"
  refine⟨rfl,⟨_,rfl⟩,?_⟩
  walk_at "go"
  refine⟨rfl,rfl,λ_=>?_⟩
  walk_at "go"
  exact w_eq (is_hand_eq _ _ _) ⟨rfl,rfl⟩
 ·refine⟨_,L.map λh=>decide (0<=h/\h<n),rfl,?_,?_⟩
  ·rw [C7,List.filter_eq_self.mpr (by simp),List.map_map,List.map_map];rfl
  ·refine⟨_,rfl,λh2=>?_,λh2=>?_⟩
   ·walk_at "go"
    refine w_mono (is_rising_ok (get_app_of hl1) hL) λv A1 ⟨h3,h4⟩=>⟨(E9 (List.prefix_append _ _)).trans h3,?_⟩
    rw [h4]
    have:(L.all λh=>decide (0<=h/\h<n))=true:=by rw [List.all_map] at h2;exact h2
    simp only [R7,this,hne];simp
   ·refine⟨E9 (List.prefix_append _ _),?_⟩
    have:(L.all λh=>decide (0<=h/\h<n))=false:=by rw [List.all_map] at h2;exact h2
    simp only [R7,this];simp
theorem am8:∀{L:List Int},Z2 L=true->L.Pairwise (·< ·)
 | [],_=>.nil
 | [a],_=>by simp
 | a::b::r,h=>by
   rw [Z2,Bool.and_eq_true] at h
   have ih:=am8 h.2
   have hab:a<b:=of_decide_eq_true h.1
   refine List.pairwise_cons.mpr ⟨λx hx=>?_,ih⟩
   rcases List.mem_cons.mp hx with z | z
   ·rw [z];exact hab
   ·have:=(List.pairwise_cons.mp ih).1 x z;omega
theorem aa5:∀{L:List Int},L.Pairwise (·< ·)->Z2 L=true
 | [],_=>rfl
 | [a],_=>rfl
 | a::b::r,h=>by
   rw [Z2,Bool.and_eq_true]
   have h':=List.pairwise_cons.mp h
   exact⟨decide_eq_true (h'.1 b List.mem_cons_self),aa5 h'.2⟩
theorem aI2:∀{L M:List Int},L.Pairwise (·< ·)->M.Pairwise (·< ·)->(∀x,x∈L↔x∈M)->L=M
 | [],[],_,_,_=>rfl
 | [],b::s,_,_,h=>by have:=(h b).mpr List.mem_cons_self;cases this
 | a::r,[],_,_,h=>by have:=(h a).mp List.mem_cons_self;cases this
 | a::r,b::s,h1,h2,h=>by
   have k1:=List.pairwise_cons.mp h1
   have k2:=List.pairwise_cons.mp h2
   have e:a=b:=by
    have m1:=(h a).mp List.mem_cons_self
    have m2:=(h b).mpr List.mem_cons_self
    rcases List.mem_cons.mp m1 with z | z
    ·exact z
    ·rcases List.mem_cons.mp m2 with y | y
     ·exact y.symm
     ·have:=k2.1 a z;have:=k1.1 b y;omega
   subst e
   rw [aI2 k1.2 k2.2 λx=>⟨λhx=>?_,λhx=>?_⟩]
   ·rcases List.mem_cons.mp ((h x).mp (List.mem_cons_of_mem _ hx)) with z | z
    ·have:=k1.1 x hx;omega
    ·exact z
   ·rcases List.mem_cons.mp ((h x).mpr (List.mem_cons_of_mem _ hx)) with z | z
    ·have:=k2.1 x hx;omega
    ·exact z
theorem lead_iff {N:Nat} {L:List Int}:R7 N L=true↔L=(T3 N).filter (λh=>decide (h∈L))/\L≠[]:=by
 unfold R7
 constructor
 ·intro h
  rw [Bool.and_eq_true,Bool.and_eq_true] at h
  refine⟨aI2 (am8 h.2) ((ah9 N).filter _) λx=>?_,by simpa using h.1.1⟩
  have ha:=List.all_eq_true.mp h.1.2
  rw [List.mem_filter,mem_hands]
  exact⟨λhx=>⟨of_decide_eq_true (ha x hx),decide_eq_true hx⟩,λhx=>of_decide_eq_true hx.2⟩
 ·rintro⟨h,hne⟩
  have hp:L.Pairwise (·< ·):=by rw [h];exact (ah9 N).filter _
  rw [Bool.and_eq_true,Bool.and_eq_true]
  refine⟨⟨by simpa using hne,List.all_eq_true.mpr λx hx=>?_⟩,aa5 hp⟩
  rw [h,List.mem_filter] at hx
  exact decide_eq_true (mem_hands.mp hx.1)
end Ws
namespace Ws
theorem aN3 {a b:Int} (ha:0<=a/\a<10) (hb:0<=b/\b<10):[a,b]∈small:=by
 unfold small
 rw [List.mem_flatten]
 refine⟨_,List.mem_map.mpr ⟨a.toNat,List.mem_range.mpr (by omega),rfl⟩,List.mem_map.mpr ⟨b.toNat,List.mem_range.mpr (by omega),?_⟩⟩
 rw [Int.toNat_of_nonneg ha.1,Int.toNat_of_nonneg hb.1]
theorem aV6 {p q:Int×Int} (h:l2 p=l2 q):p=q:=by
 obtain⟨a,b⟩:=p;obtain⟨c,d⟩:=q
 simp [l2] at h;simp [h]
noncomputable def limOf (m:DT) (p:Int×Int):Int:=match N8 m (l2 p) with
 | some (.int z)=>z
 | _=>0
noncomputable def limD (qs:List (Int×Int)) (f:Int×Int->Int):DT:=qs.map λp=>(l2 p,PV.int (f p))
theorem am9 (qs:List (Int×Int)) (f:Int×Int->Int):(limD qs f).map (·.1)=qs.map l2:=by unfold limD;rw [List.map_map];rfl
theorem as5 {qs:List (Int×Int)} {f:Int×Int->Int} (h:qs.Nodup):((limD qs f).map (·.1)).Nodup:=by
 rw [am9]
 exact List.Pairwise.map _ (λa b hab z=>hab (aV6 z)) h
theorem U6 {qs:List (Int×Int)} {f:Int×Int->Int} (h:qs.Nodup) {p:Int×Int} (hp:p∈qs):N8 (limD qs f) (l2 p)=some (.int (f p)):=a50 (as5 h) (List.mem_map.mpr ⟨p,hp,rfl⟩)
theorem ai1 {qs:List (Int×Int)} {f:Int×Int->Int} {n:Int} (hn:n<=6) (hg:∀p∈qs,good n p):∀p∈limD qs f,p.1∈small:=λp hp=>by
 obtain⟨q,hq,rfl⟩:=List.mem_map.mp hp
 have:=hg q hq
 exact aN3 ⟨this.1.1,by have:=this.1.2;omega⟩ ⟨this.2.1.1,by have:=this.2.1.2;omega⟩
theorem ai2 {qs:List (Int×Int)} {f:Int×Int->Int} {p:Int×Int} (hp:p∉qs):av3 (limD qs f) (l2 p) (.int (f p))=limD (qs++[p]) f:=by
 rw [a49]
 ·simp [limD]
 ·rw [am9];intro z
  obtain⟨q,hq,e⟩:=List.mem_map.mp z
  rw [←aV6 e] at hp;exact hp hq
structure PlanAt (A:PHp) (P w r:Nat) (n:Int) (ps:List (Int×Int)) (L:List Int) (f:Int×Int->Int) (ll dl dk:Nat):Prop where
 web:WebAt A w r n ps
 ob:A[P]?=some (.ins 1 [(3,.ref w),(4,.ref ll),(5,.ref dl),(9,.tup (L.map .int)),(10,.ref dk)])
 ls:A[ll]?=some (.lst (L.map .int))
 ld:A[dl]?=some (.dT (limD (srt ps) f))
 lk:A[dk]?=some (.dT (limD (srt ps) f))
theorem PlanAt.mono {A B:PHp} {P w r:Nat} {n:Int} {ps:List (Int×Int)} {L:List Int} {f:Int×Int->Int} {ll dl dk:Nat} (h:PlanAt A P w r n ps L f ll dl dk) (e:A<+:B):PlanAt B P w r n ps L f ll dl dk:=
 ⟨h.web.mono e,pre_get e h.ob,pre_get e h.ls,pre_get e h.ld,pre_get e h.lk⟩
theorem aN4 {z:Int} (h:0<=z) (A:PHp):Q5 [.int z] A=.ok (.bl true) A:=by simp [Q5,h]
section
variable {A:PHp} {w r l d:Nat} {n:Int} {ps:List (Int×Int)} {L:List Int} {m:DT}
theorem srt_nd (h:ps.Nodup):(srt ps).Nodup:=(srt_perm ps).nodup_iff.mpr h
theorem plan_l1 {B:PHp} {P k:Nat} (W:WebAt A w r n ps) (hd:A[d]?=some (.dT m)) (hnd:ps.Nodup) (hlen:ps.length<64) (hm:∀p∈ps,∃z,0<=z/\N8 m (l2 p)=some (.int z))
 (pB:A<+:B) (hk:A.length<=k) (hB:B[k]?=some (.dT [])) (hPk:P≠k) {po:PO} (hP:B[P]?=some po) :
 Wp (T2 [some (.ref P),some (.ref w),some (.ref l),some (.ref d),some (.ref k),none]) B (λo B'=>(∃x,o=.nx [some (.ref P),some (.ref w),some (.ref l),some (.ref d),some (.ref k),x])/\A<+:B'/\B'[P]?=some po/\B'.length=B.length/\B'[k]?=some (.dT (limD (srt ps) (limOf m)))) NoX:=by
 unfold T2
 have hs:∀p∈srt ps,p∈ps:=λp hp=>(srt_perm ps).mem_iff.mp hp
 refine aD3 (λi σ B'=>(∃x,σ=[some (.ref P),some (.ref w),some (.ref l),some (.ref d),some (.ref k),x])/\A<+:B'/\B'[P]?=some po/\B'.length=B.length/\B'[k]?=some (.dT (limD ((srt ps).take i) (limOf m)))) ?_
 have WB:=W.mono pB
 have hwo:=WB.ob
 have hwl:=WB.ls
 walk_at "go"
 refine⟨r,pvs (srt ps),rfl,⟨⟨_,rfl⟩,pB,hP,rfl,hB⟩,λi σ B' ⟨_,h,_⟩=>D8 (W.mono h).ls,?_,?_⟩
 ·rintro i v σ B1 hv ⟨⟨x,rfl⟩,p1,hP1,hl1,hk1⟩
  simp only [pvs,List.getElem?_map] at hv
  cases hp:(srt ps)[i]? with
  | none=>rw [hp] at hv;cases hv
  | some p=>
    rw [hp] at hv;cases hv
    have hmem:p∈srt ps:=List.mem_of_getElem? hp
    have hd1:=pre_get p1 hd
    have hkey:T6 (pv p)=some (l2 p):=rfl
    have tk:(srt ps).take (i+1)=(srt ps).take i++[p]:=by rw [List.take_succ,hp];rfl
    unfold h9
    walk_at "go"
    obtain⟨z,hz,h0⟩:=hm p (hs p hmem)
    have h0':N8 m [p.1,p.2]=some (.int z):=h0
    rw [h0']
    refine w_eq (aN4 hz _) ?_
    walk_at "gb"
    have hnin:p∉(srt ps).take i:=by
     intro hm'
     have hlt:=(List.getElem?_eq_some_iff.mp hp).1
     obtain⟨j,hj,e⟩:=List.mem_iff_getElem.mp hm'
     rw [List.length_take] at hj
     rw [List.getElem_take] at e
     have e2:(srt ps)[i]=p:=(List.getElem?_eq_some_iff.mp hp).2
     exact List.pairwise_iff_getElem.mp (srt_nd hnd) j i (by omega) hlt (by omega) (e.trans e2.symm)
    have hval:limOf m p=z:=by unfold limOf;rw [h0]
    refine⟨?_,?_⟩
    ·refine lim_lt ?_
     rw [limD,List.length_map,List.length_take]
     have:=(srt_perm ps).length_eq;omega
    ·refine⟨⟨_,rfl⟩,R9 p1 hk,by rw [L0 hPk];exact hP1,by simpa using hl1,?_⟩
     rw [get_set hk1,tk,←ai2 hnin,hval];rfl
 ·rintro σ B1 ⟨⟨x,rfl⟩,p1,hP1,hl1,hk1⟩
  rw [pvs,List.length_map,List.take_length] at hk1
  exact⟨⟨x,rfl⟩,p1,hP1,hl1,hk1⟩
theorem ao0 (W:WebAt A w r n ps) (hl:A[l]?=some (.lst (L.map .int))) (hL:L.length<=1000) (hd:A[d]?=some (.dT m)) (hg:Passings n ps) (hle:R7 n L=true) (hm:∀p∈ps,∃z,0<=z/\N8 m (l2 p)=some (.int z)) :
 Wp (K2 [.ref A.length,.ref w,.ref l,.ref d]) (A++[.ins 1 []]) (λv A'=>v=.non/\A<+:A'/\∃ll dl dk,PlanAt A' A.length w r n ps L (limOf m) ll dl dk/\A.length<ll/\A.length<dl/\A.length<dk) NoX:=by
 unfold K2
 walk_at "fn"
 have p0:A<+:A++[PO.ins 1 []]:=List.prefix_append _ _
 walk_at "go"
 refine w_mono (are_leaders_ok (W.mono p0) (pre_get p0 hl) hL) λv A1 ⟨p1,hv⟩=>?_
 subst hv
 have ho1:A1[A.length]?=some (.ins 1 []):=pre_get p1 C7
 have pA1:A<+:A1:=p0.trans p1
 have hlt1:=y6 ho1
 rw [hle]
 walk_at "gb"
 refine w_mono (plan_l1 (l:=l) (P:=A.length) (k:=A1.length) W hd hg.nd hg.len hm (E9 pA1) (by omega) C7 (by omega) (get_app_of ho1)) λo B ⟨⟨x,ho⟩,pB,hoB,hlB,hkB⟩=>?_
 subst ho
 have hlB':B.length=A1.length+1:=by rw [hlB];simp
 have WB:=W.mono pB
 have hlB1:=pre_get pB hl
 have hlA:=y6 hl
 have hsm:((limD (srt ps) (limOf m)).map (·.1)).Nodup/\∀p∈limD (srt ps) (limOf m),p.1∈small:=⟨as5 (srt_nd hg.nd),ai1 hg.hi λp hp=>hg.good p ((srt_perm ps).mem_iff.mp hp)⟩
 walk_at "go"
 simp only [putFld,Nat.reduceEqDiff,if_false,List.length_set,List.length_append,List.length_cons,List.length_nil,Nat.zero_add]
 refine⟨trivial,?pre,B.length,B.length+1,A1.length,⟨W.mono ?pre,?ob,?ls,?ld,?lk⟩,?_,?_,hlt1⟩
 case pre=>walk_at "pre"
 case ob=>walk_at "st"
 case ls=>walk_at "st"
 case ld=>walk_at "st"
 case lk=>walk_at "st"
 ·omega
 ·omega
end
end Ws
namespace Ws
theorem limit_ok {A:PHp} {P w r:Nat} {n:Int} {ps:List (Int×Int)} {L:List Int} {f:Int×Int->Int} {ll dl dk:Nat} (H:PlanAt A P w r n ps L f ll dl dk) (nd:ps.Nodup) {p:Int×Int} (hp:p∈ps):H9 [.ref P,pv p] A=.ok (.int (f p)) A:=by
 have h1:=H.ob
 have h2:=H.lk
 have hv:N8 (limD (srt ps) f) [p.1,p.2]=some (.int (f p)):=U6 (srt_nd nd) ((srt_perm ps).mem_iff.mpr hp)
 have h:Wp (H9 [.ref P,pv p]) A (λv A'=>v=.int (f p)/\A'=A) NoX:=by
  unfold H9
  walk_at "fn"
  walk_at "go"
  exact⟨rfl,rfl⟩
 obtain⟨v,A',e,rfl,rfl⟩:=bl4 h
 exact e
end Ws
namespace Ws
open PySem PySem.StrLaws PySem.Builtin PySem.Builtin.Str
noncomputable def one (c:Nat):Str:=⟨#[c]⟩
theorem ai3 (x:Str) (c limit:Nat):∀(l:List Nat) (st:Array Nat×Nat),(∀i∈l,st.2<=i)->l.Pairwise (·< ·)->st.1.size+l.length<=limit->
 (forIn l st (occBody x (one c) x.length limit)).run.fst.toList=st.1.toList++l.filter (λi=>x.cps.toList[i]? == some c)
 | [],st,_,_,_=>by simp
 | a::l,st,hf,hp,hl=>by
   rw [List.forIn_cons]
   unfold occBody
   have hp2:=List.pairwise_cons.mp hp
   have key:=subAt_one x c a
   by_cases h:x.cps.toList[a]?=some c
   ·have k:=key.mpr h
    rw [if_pos ⟨⟨⟨by simp only [List.length_cons] at hl;omega,hf a (List.mem_cons_self ..)⟩,k.1⟩,k.2⟩]
    have ih:=ai3 x c limit l (st.1.push a,a+(one c).length) (λi hi=>by have:=hp2.1 i hi;show a+1<=i;omega) hp2.2 (by simp only [List.length_cons] at hl;simp;omega)
    refine ih.trans ?_
    have:(x.cps.toList[a]? == some c)=true:=by rw [h];simp
    rw [List.filter_cons,this];simp
   ·rw [if_neg λk=>h (key.mp ⟨k.1.2,k.2⟩)]
    have ih:=ai3 x c limit l (st.1,st.2) (λi hi=>hf i (List.mem_cons_of_mem _ hi)) hp2.2 (by simp only [List.length_cons] at hl;show st.1.size+l.length<=limit;omega)
    refine ih.trans ?_
    have:(x.cps.toList[a]? == some c)=false:=by simpa using h
    rw [List.filter_cons,this];simp
theorem aI3 (x:Str) (c:Nat):occurrences x (one c) 0 x.length (x.length+1)=(List.range' 0 x.length).filter λi=>x.cps.toList[i]? == some c:=by
 rw [occ_eq,ai3 x c (x.length+1) _ _ (λi _=>Nat.zero_le i) List.pairwise_lt_range' (by simp)]
 show []++_=_
 rw [List.nil_append,Nat.sub_zero,List.range'_concat,List.filter_append]
 have:(x.cps.toList[0+1*x.length]? == some c)=false:=by rw [List.getElem?_eq_none (by simp [Str.length])];rfl
 rw [List.filter_cons,this];simp
noncomputable def T4 (c:Nat):List (List Nat)->List Nat
 | []=>[]
 | [w]=>w
 | w::v::r=>w++c::T4 c (v::r)
theorem aI4 {c:Nat} {L:List Nat} {a:Nat}:∀{n:Nat},(∀i,a<=i->i<a+n->L[i]?≠some c)->(List.range' a n).filter (λi=>L[i]? == some c)=[]:=λh=>by
 rw [List.filter_eq_nil_iff]
 intro i hi
 have:=List.mem_range'_1.mp hi
 simpa using h i this.1 this.2
theorem ab8 (x:Str) (c:Nat):∀(ws:List (List Nat)),ws≠[]->(∀w∈ws,c∉w)->∀(P:List Nat),x.cps.toList=P++T4 c ws->
 (partsFrom x 1 P.length ((List.range' P.length (x.length - P.length)).filter λi=>x.cps.toList[i]? == some c)).map (λy=>y.cps.toList)=ws
 | [],h,_,_,_=>absurd rfl h
 | [w],_,hw,P,hx=>by
   have hn:x.length=P.length+w.length:=by
    have:=congrArg List.length hx
    simpa [T4,Str.length] using this
   rw [aI4 (c:=c) λi h1 h2 h3=>?_]
   ·simp only [partsFrom,List.map_cons,List.map_nil,strSub_toList,hx,hn]
    simp [T4]
   ·rw [hx,List.getElem?_append_right h1] at h3
    exact hw w (List.mem_cons_self ..) (List.mem_of_getElem? h3)
 | w::v::r,_,hw,P,hx=>by
   have hx':x.cps.toList=(P++w++[c])++T4 c (v::r):=by rw [hx];simp [T4]
   have hn:x.length=P.length+w.length+1+(T4 c (v::r)).length:=by
    have:=congrArg List.length hx'
    simp only [Str.length,List.length_append,List.length_cons,List.length_nil,Array.length_toList] at this ⊢;omega
   have ih:=ab8 x c (v::r) (by simp) (λu hu=>hw u (List.mem_cons_of_mem _ hu)) (P++w++[c]) hx'
   have hl:(P++w++[c]).length=P.length+w.length+1:=by simp;omega
   rw [hl] at ih
   have hs:x.length - P.length=w.length+(1+(x.length - (P.length+w.length+1))):=by omega
   rw [hs,←List.range'_append_1,←List.range'_append_1,List.filter_append,List.filter_append,aI4 (c:=c) (n:=w.length) λi h1 h2 h3=>?_]
   ·have hc:x.cps.toList[P.length+w.length]?=some c:=by
     rw [hx',List.getElem?_append_left (by simp),List.getElem?_append_right (by simp)];simp
    have e1:(List.range' (P.length+w.length) 1).filter (λi=>x.cps.toList[i]? == some c)=[P.length+w.length]:=by
     have:(x.cps.toList[P.length+w.length]? == some c)=true:=by rw [hc];simp
     show List.filter _ [P.length+w.length]=_
     rw [List.filter_cons,this];rfl
    rw [e1]
    simp only [List.nil_append,List.singleton_append,partsFrom,List.map_cons,ih,strSub_toList]
    congr 1
    rw [hx]
    simp [T4]
   ·rw [hx',List.append_assoc,List.append_assoc,List.getElem?_append_right h1,List.getElem?_append_left (by omega)] at h3
    exact hw w (List.mem_cons_self ..) (List.mem_of_getElem? h3)
theorem ad1 {a b:Str} (h:a.cps.toList=b.cps.toList):a=b:=Str.ext' (Array.toList_inj.mp h)
theorem o4 (c:Nat):∀ws:List Str,(Str.join (one c) ws).cps.toList=T4 c (ws.map λw=>w.cps.toList)
 | []=>rfl
 | [w]=>rfl
 | w::v::r=>by
   show (w++one c++Str.join (one c) (v::r)).cps.toList=_
   rw [Str.cps_append,Str.cps_append,Array.toList_append,Array.toList_append,o4 c (v::r)]
   simp [T4,one]
theorem aD6 (c:Nat) (hc:c<256) (ws:List Str) (h0:ws≠[]) (hw:∀w∈ws,c∉w.cps.toList) :
 Txt.split (Txt.join (one c) ws) (one c)=ws/\partsBetween (Txt.join (one c) ws) (occurrences (Txt.join (one c) ws) (one c) 0 (Txt.join (one c) ws).length ((Txt.join (one c) ws).length+1)) (one c).length=ws:=by
 have hj:Txt.join (one c) ws=Str.join (one c) ws:=glued_eq_join _ _
 generalize Txt.join (one c) ws=x at hj ⊢
 have hx:x.cps.toList=[]++T4 c (ws.map λw=>w.cps.toList):=by rw [hj,o4];rfl
 have key:=ab8 x c (ws.map λw=>w.cps.toList) (by simpa using h0) (λw hm=>by
  obtain⟨v,hv,rfl⟩:=List.mem_map.mp hm
  exact hw v hv) [] hx
 have e:partsBetween x (occurrences x (one c) 0 x.length (x.length+1)) (one c).length=ws:=by
  rw [partsBetween_eq,aI3]
  have inj:∀{l m:List Str},l.map (λy=>y.cps.toList)=m.map (λy=>y.cps.toList)->l=m:=λ{l}=>by
   induction l with
   | nil=>intro m h;cases m with | nil=>rfl | cons _ _=>cases h
   | cons a l ih=>
     intro m h
     cases m with
     | nil=>cases h
     | cons b m=>
       have h:=List.cons.inj h
       rw [ad1 h.1,ih h.2]
  exact inj key
 have e1:occurrences x (one c) 0 x.length (x.length+1)=[]->[x]=ws:=λe0=>by
  rw [e0,partsBetween_eq] at e
  have:strSub x 0 x.length=x:=sub_whole x
  simpa [partsFrom,this] using e
 refine⟨?_,e⟩
 unfold Txt.split
 split
 ·rename_i hb
  refine e1 ?_
  have k1:Str.strKind (one c)=1:=by simp [Str.strKind,one,hc]
  have k2:1<=Str.strKind x:=by unfold Str.strKind;split <;> (try split) <;> decide
  have hz:x.length=0:=by
   have:x.length<(one c).length\/Str.strKind x<Str.strKind (one c):=by simpa using hb
   rcases this with h | h
   ·have:(one c).length=1:=rfl
    omega
   ·omega
  rw [aI3,hz];rfl
 ·split
  ·rename_i hemp
   exact e1 (by simpa using hemp)
  ·exact e
end Ws
namespace Ws
open PySem
noncomputable def num (n:Nat):Str:=Str.ofString (toString ((n:Nat):Int))
theorem v8 (n:Nat):(num n).cps.toList=(Nat.toDigits 10 n).map Char.toNat:=PySem.W.KIN.signs_num n
theorem num_dig {n c:Nat} (h:c∈(num n).cps.toList):48<=c/\c<=57:=by
 rw [v8] at h
 obtain⟨ch,hch,e⟩:=List.mem_map.mp h
 have r:=PyProof.Rows.digit_range (Nat.isDigit_of_mem_toDigits (by decide) (by decide) hch)
 rw [←e];exact r
theorem j0 {n:Nat} (h:n<1000000000):1<=(num n).length/\(num n).length<=9:=by
 have e:(num n).length=(Nat.toDigits 10 n).length:=by
  rw [←List.length_map (f:=Char.toNat),←v8];simp [Str.length]
 rw [e]
 exact⟨PySem.toDigits_len_ge 10 n,PySem.toDigits_len_pow (by decide) (by decide) (Nat.lt_of_lt_of_le h (by decide))⟩
theorem aV7 (n:Nat) (h0:n≠0):∃c cs,(num n).cps.toList=c::cs/\c≠48:=by
 induction n using Nat.strongRecOn with
 | _ m ih=>
   by_cases h:m<10
   ·refine⟨(Nat.digitChar m).toNat,[],by rw [v8,Nat.toDigits_of_lt_base h];rfl,?_⟩
    have:∀d:Nat,d<10->d≠0->(Nat.digitChar d).toNat≠48:=by decide
    exact this m h h0
   ·have hm:m%10<10:=Nat.mod_lt m (by decide)
    have t:Nat.toDigits 10 (m / 10)++Nat.toDigits 10 (m%10)=Nat.toDigits 10 (10*(m / 10)+m%10):=Nat.toDigits_append_toDigits (by decide) (by omega) hm
    rw [Nat.div_add_mod] at t
    obtain⟨c,cs,e,hc⟩:=ih (m / 10) (by omega) (by omega)
    rw [v8] at e
    refine⟨c,cs++(Nat.toDigits 10 (m%10)).map Char.toNat,?_,hc⟩
    rw [v8,←t,List.map_append,e];rfl
theorem aV8:num 0="0":=by decide +kernel
theorem a51 {n:Nat} (h:n<1000000000):intText? (num n)=some (n:Int):=PySem.W.KIN.num_reads (by omega) (by omega)
end Ws
namespace Ws
open PySem PySem.StrLaws
section
variable {A:PHp} {Q:PV->PHp->Prop} {QI:It->PHp->Prop} {E:XP} {σ:PSt} {e e1 e2:ED}
theorem w_strE (h:Wp (e σ) A (λx A1=>∃n:Nat,x=.int n/\n<1000000000/\Q (.str (num n)) A1) E):Wp (av5 e σ) A Q E:=
 C0 (w_mono h λx A1 ⟨n,hx,hn,q⟩=>by
  subst hx
  exact D1 (by show ((n:Int)).natAbs<_;omega) q)
theorem w_intT (h:Wp (e σ) A (λx A1=>∃n:Nat,x=.str (num n)/\n<1000000000/\Q (.int n) A1) E):Wp (aQ2 e σ) A Q E:=
 C0 (w_mono h λx A1 ⟨n,hx,hn,q⟩=>by
  subst hx
  show Wp (match intText? (num n) with | some k=>D2 ((num n).length<=640) (ret (.int k)) | none=>stuck) A1 Q E
  rw [a51 hn]
  exact D1 (Nat.le_trans (j0 hn).2 (by decide)) q)
theorem ai4:∀ys:List Str,Y0 (ys.map .str)=some ys
 | []=>rfl
 | y::ys=>by show (Y0 (ys.map .str)).map _=_;rw [ai4 ys];rfl
theorem w_join (h:Wp (e1 σ) A (λx A1=>∃z,x=.str z/\Wp (e2 σ) A1 (λy A2=>∃n ys,y=.ref n/\A2[n]?=some (.lst (ys.map .str))/\(z.length<=16/\(ys.map (·.length)).sum+ys.length<=1048576)/\Q (.str (Txt.join z ys)) A2) E) E):Wp (al8 e1 e2 σ) A Q E:=
 C0 (w_mono h λx A1 ⟨z,hx,h1⟩=>by
  subst hx
  exact C0 (w_mono h1 λy A2 ⟨n,ys,hy,hn,hl,q⟩=>by
   subst hy
   refine C0 (Q8 hn ?_)
   rw [ai4]
   exact D1 hl q))
theorem w_split (h:Wp (e1 σ) A (λx A1=>∃z,x=.str z/\Wp (e2 σ) A1 (λy A2=>∃c ws,y=.str (one c)/\z=Txt.join (one c) ws/\(c<256/\ws≠[]/\(∀w∈ws,c∉w.cps.toList)/\z.length<=LIM/\ws.length<=LIM)/\Q (.ref A2.length) (A2++[.lst (ws.map .str)])) E) E):Wp (ar1 e1 e2 σ) A Q E:=
 C0 (w_mono h λx A1 ⟨z,hx,h1⟩=>by
  subst hx
  exact C0 (w_mono h1 λy A2 ⟨c,ws,hy,hz,⟨hc,h0,hw,hl,hl2⟩,q⟩=>by
   subst hy
   obtain⟨s1,s2⟩:=aD6 c hc ws h0 hw
   rw [←hz] at s1 s2
   refine D1 ⟨rfl,hl,by rw [s1];exact hl2,by rw [s2];exact hl2⟩ ?_
   rw [s1]
   exact q))
theorem w_addS {x y:Str} (h:x.length+y.length<=LIM) (q:Q (.str (x++y)) A):Wp (ab3 (.str x) (.str y)) A Q E:=D1 h q
theorem w_inS {c:Nat} {y:Str} (q:Q (.bl (decide (c∈y.cps.toList))) A):Wp (bc8 (.str ⟨#[c]⟩) (.str y)) A Q E:=by
 show Q (.bl (!(Builtin.Str.occurrences y ⟨#[c]⟩ 0 y.length 1).isEmpty)) A
 rw [found_one];exact q
theorem w_lenS (h:Wp (e σ) A (λx A1=>∃z,x=.str z/\z.length<=LIM/\Q (.int z.length) A1) E):Wp (aQ3 e σ) A Q E:=
 C0 (w_mono h λx A1 ⟨z,hx,hl,q⟩=>by subst hx;exact D1 hl q)
theorem w_ixS {z:Str} {i:Int} {c:Nat} (hi:atI z.cps.toList i=some c) (hl:z.length<=LIM) (q:Q (.str ⟨#[c]⟩) A):Wp (aK6 (.str z) (.int i)) A Q E:=by
 show Wp (match atI z.cps.toList i with | some c=>D2 (z.length<=LIM) (ret (.str ⟨#[c]⟩)) | none=>stuck) A Q E
 rw [hi];exact D1 hl q
theorem w_istr (h:Wp (e σ) A (λx A1=>∃z,x=.str z/\z.cps.all (·< 128)=true/\QI (.fix (z.cps.toList.map λc=>.str ⟨#[c]⟩)) A1) E):Wp (bc9 e σ) A QI E:=
 C0 (w_mono h λx A1 ⟨z,hx,hl,q⟩=>by subst hx;exact D1 hl q)
theorem w_ienk {k:Nat} (h:Wp (e σ) A (λx A1=>∃n l,x=.ref n/\D0 n A1=.ok l A1/\QI (.enk k n) A1) E):Wp (bc1 k e σ) A QI E:=C0 (w_mono h λx A1 ⟨n,l,hx,h2,q⟩=>by
 subst hx
 exact C0 (w_eq h2 q))
theorem aI5 (x y:Str):eqv (.str x) (.str y)=decide (x=y):=by simp [eqv]
theorem w_eqS2 {x y:Str} (q:Q (.bl (decide (x=y))) A):Wp (oEq (.str x) (.str y)) A Q E:=a68 rfl rfl (by rw [aI5];exact q)
theorem w_neS2 {x y:Str} (q:Q (.bl (!decide (x=y))) A):Wp (oNe (.str x) (.str y)) A Q E:=a69 rfl rfl (by rw [aI5];exact q)
end
end Ws
local macro_rules | `(tactic| walk_at "s1")=>`(tactic| first
 | with_reducible refine Ws.w_strE ?_
 | with_reducible refine Ws.w_intT ?_
 | with_reducible refine Ws.w_join ?_
 | with_reducible refine Ws.w_split ?_
 | with_reducible refine Ws.w_lenS ?_
 | with_reducible refine Ws.w_istr ?_
 | with_reducible refine Ws.w_ienk ?_)
local macro_rules | `(tactic| walk_at "s2")=>`(tactic| first
 | with_reducible refine Ws.w_inS ?_
 | with_reducible refine Ws.w_eqS2 ?_
 | with_reducible refine Ws.w_neS2 ?_)
namespace Ws
open PySem
theorem j3 {α:Type} {A:PHp} {Q:PV->PHp->Prop} {E:XP} {σ:PSt} {it:ID} {mk:PSt->PSt} {g:GD} {e:ED} (xs:List α) (vi vo:α->PV) (S:PSt->Prop)
 (h:Wp (it σ) A (λJ A1=>m8 J A1=.ok xs.length A1/\xs.length<=LIM/\S (mk σ)/\(∀i B,A1<+:B->item J i B=.ok (xs.map vi)[i]? B)/\
  (∀x σ B,x∈xs->S σ->A1<+:B->Wp (g (vi x) σ) B (λσ1 B1=>B1=B/\S σ1/\Wp (e σ1) B (λy B3=>y=vo x/\B<+:B3) E) E)/\
  ∀B,A1<+:B->Q (.ref B.length) (B++[.lst (xs.map vo)])) E):Wp (Q1 it mk g Z5 e σ) A Q E:=
 aU4 (w_mono h λJ A1 ⟨hf,hL,h0,hit,hs,he⟩=>⟨xs.map vi,xs.length,λi acc σ B=>A1<+:B/\S σ/\acc=(xs.take i).map vo,hf,by simp,⟨List.prefix_refl _,h0,by simp⟩,λi acc σ B ⟨h1,_⟩=>hit i B h1,λi v acc σ B hv ⟨h1,h2,h3⟩=>by
  rw [List.getElem?_map] at hv
  obtain⟨x,hx,rfl⟩:=Option.map_eq_some_iff.mp hv
  refine w_mono (hs x σ B (List.mem_of_getElem? hx) h2 h1) λσ1 B1 ⟨e1,h4,h5⟩=>?_
  subst e1
  refine w_true ⟨λ_=>w_mono h5 λy B3 ⟨h8,h7⟩=>⟨h1.trans h7,h4,?_⟩,λhc=>by cases hc⟩
  rw [h3,h8,List.take_succ,hx];simp,λacc σ B ⟨h1,_,h3⟩=>by
  rw [List.length_map,List.take_of_length_le (Nat.le_refl _)] at h3
  subst h3
  exact⟨by rw [List.length_map];exact hL,he B h1⟩⟩)
theorem aI6 {n:Nat} {l:List PV} {A B:PHp} (h:A[n]?=some (.lst l)) (p:A<+:B) (i:Nat):item (.lst n) i B=.ok l[i]? B:=ah3 (pre_get p h) i
theorem ay5:(" " : Str)=one 32:=by decide +kernel
theorem aV9:("\n" : Str)=one 10:=by decide +kernel
theorem fig {c:Nat} (h:48<=c/\c<=57):c∈("0123456789" : Str).cps.toList:=by
 have:∀c:Nat,c<=57->48<=c->c∈("0123456789" : Str).cps.toList:=by decide +kernel
 exact this c h.2 h.1
theorem brTx {p P R:Prop} [Decidable p] (hp:p) (h:P):(decide p=true->P)/\(decide p=false->R):=⟨λ_=>h,λz=>absurd hp (of_decide_eq_false z)⟩
theorem bo1 {p P R:Prop} [Decidable p] (hp:¬p) (h:R):(decide p=true->P)/\(decide p=false->R):=⟨λz=>absurd (of_decide_eq_true z) hp,λ_=>h⟩
theorem brTx' {p P R:Prop} [Decidable p] (hp:p) (h:R):((!decide p)=true->P)/\((!decide p)=false->R):=⟨λz=>absurd (decide_eq_true hp) (by simpa using z),λ_=>h⟩
theorem a73 {α:Type} (xs:List α):(xs.map λ_=>true).all id=true:=by simp
theorem is_number_num {n:Nat} (h:n<1000000000) (A:PHp):Wp (N7 [.str (num n)]) A (λv A'=>v=.bl true/\A<+:A') NoX:=by
 have hl:=j0 h
 have hn9:(num n).cps.toList.length=(num n).length:=by simp [Str.length]
 unfold N7
 walk_at "fn"
 refine w_seq (w_if (w_tor (w_tnot (w_tval ?_))))
 walk_at "go"
 refine brTx (by omega) ?_
 walk_at "go"
 refine brTx' (by omega) ?_
 walk_at "go"
 unfold f_is_number_c1
 refine j3 (num n).cps.toList (λc=>.str ⟨#[c]⟩) (λ_=>.bl true) (λσ=>∃x,σ=[x]) ?_
 walk_at "go"
 refine⟨?_,by simp,lim_le (by rw [hn9];omega),⟨_,rfl⟩,λi B _=>rfl,?_,λB hB=>?_⟩
 ·rw [←Array.all_toList]
  exact List.all_eq_true.mpr λc hc=>by have:=num_dig hc;simp;omega
 ·rintro c σ B hc ⟨x,rfl⟩ _
  walk_at "go"
  refine⟨rfl,⟨_,rfl⟩,?_⟩
  walk_at "go"
  exact⟨congrArg PV.bl (decide_eq_true (fig (num_dig hc))),List.prefix_refl _⟩
 ·refine⟨_,(num n).cps.toList.map λ_=>true,rfl,by rw [C7,List.map_map];rfl,?_⟩
  ·rw [a73]
   walk_at "go"
   by_cases h0:n=0
   ·subst h0
    refine brTx aV8 ?_
    exact⟨rfl,hB.trans (List.prefix_append _ _)⟩
   ·obtain⟨c,cs,e,hc⟩:=aV7 n h0
    refine bo1 (λz=>?_) ?_
    ·rw [z] at e
     have:("0" : Str).cps.toList=[48]:=by decide +kernel
     rw [this] at e;cases e;exact hc rfl
    ·walk_at "go"
     refine w_ixS (c:=c) (by rw [e];simp [atI,ixN]) (lim_le (by omega)) ?_
     walk_at "go"
     refine⟨?_,hB.trans (List.prefix_append _ _)⟩
     rw [decide_eq_false];rfl
     intro z
     have z:(⟨#[c]⟩:Str)=⟨#[48]⟩:=z.trans (by decide +kernel)
     cases z;exact hc rfl
theorem ac2 (ns:List Nat) (h:∀n∈ns,n<1000000000) (hl:ns.length<=100) {A:PHp} {k:Nat} (hk:A[k]?=some (.lst ((ns.map num).map .str))) :
 Wp (K6 [.ref k]) A (λv A'=>∃m,v=.ref m/\A'[m]?=some (.lst (ns.map λn=>.int (n:Nat)))/\A<+:A') NoX:=by
 rw [List.map_map] at hk
 unfold K6
 walk_at "fn"
 walk_at "go"
 unfold U5
 refine j3 ns (λn=>.str (num n)) (λ_=>.bl true) (λσ=>∃x,σ=[x]) ?_
 walk_at "go"
 refine⟨by rw [fuel_lst hk];simp,lim_le (by omega),⟨_,rfl⟩,λi B p=>aI6 hk p i,?_,λB hB=>?_⟩
 ·rintro n σ B hn ⟨x,rfl⟩ _
  walk_at "go"
  refine⟨rfl,⟨_,rfl⟩,?_⟩
  walk_at "go"
  exact is_number_num (h n hn) B
 ·refine⟨_,ns.map λ_=>true,rfl,by rw [C7,List.map_map];rfl,?_⟩
  rw [a73]
  walk_at "go"
  unfold f_read_numbers_c2
  have hk2:(B++[PO.lst (ns.map λ_=>PV.bl true)])[k]?=some (.lst (ns.map (PV.str ∘ num))):=get_app_of (pre_get hB hk)
  refine j3 ns (λn=>.str (num n)) (λn=>.int (n:Nat)) (λσ=>∃x,σ=[x]) ?_
  walk_at "go"
  refine⟨by rw [fuel_lst hk2];simp,lim_le (by omega),⟨_,rfl⟩,λi B p=>aI6 hk2 p i,?_,λB2 hB2=>?_⟩
  ·rintro n σ B hn ⟨x,rfl⟩ _
   walk_at "go"
   refine⟨rfl,⟨_,rfl⟩,?_⟩
   walk_at "go"
   exact⟨h n hn,rfl,List.prefix_refl _⟩
  ·exact⟨_,rfl,C7,((hB.trans (List.prefix_append _ _)).trans hB2).trans (List.prefix_append _ _)⟩
theorem aW0 {ys:List Str} {b:Nat} (h:∀y∈ys,y.length<=b):(ys.map (·.length)).sum<=ys.length*b:=StrLaws.sumLen_le ys h
theorem ay6 (k:Str) (hk:k.length<=9) (ns:List Nat) (h:∀n∈ns,n<1000000000) (hl:ns.length<=100) (A:PHp) :
 Wp (J4 [.str k,.tup (ns.map λn=>.int (n:Nat))]) A (λv A'=>v=.str (Txt.join (one 32) (k::ns.map num))/\A<+:A') NoX:=by
 unfold J4
 walk_at "fn"
 walk_at "go"
 unfold V0
 refine j3 ns (λn=>.int (n:Nat)) (λn=>.str (num n)) (λσ=>∃x,σ=[x]) ?_
 walk_at "go"
 refine⟨by simp,lim_le (by omega),⟨_,rfl⟩,λi B p=>rfl,?_,λB hB=>?_⟩
 ·rintro n σ B hn ⟨x,rfl⟩ _
  walk_at "go"
  refine⟨rfl,⟨_,rfl⟩,?_⟩
  walk_at "go"
  exact⟨h n hn,rfl,List.prefix_refl _⟩
 ·refine aD2 (get_app_of (pre_get hB C7)) C7 (lim_le (by simp;omega)) ?_
  refine⟨_,k::ns.map num,rfl,by rw [C7,List.map_cons,List.map_map];rfl,⟨by decide +kernel,?_⟩,by rw [ay5],?_⟩
  ·have:=aW0 (ys:=k::ns.map num) (b:=9) λy hy=>by
    rcases List.mem_cons.mp hy with rfl | hy
    ·exact hk
    ·obtain⟨n,hn,rfl⟩:=List.mem_map.mp hy
     exact (j0 (h n hn)).2
   simp only [List.length_cons,List.length_map] at this ⊢
   omega
  ·exact (((List.prefix_append _ _).trans hB).trans (List.prefix_append _ _)).trans (List.prefix_append _ _)
end Ws
namespace Ws
open PySem
section
variable {A:PHp} {Q:PV->PHp->Prop} {E:XP} {σ:PSt} {e:ED}
theorem w_tkeys (h:Wp (e σ) A (λx A1=>∃n m,x=.ref n/\A1[n]?=some (.dT m)/\(m.length<=LIM/\∀p∈m,p.1≠[])/\Q (.ref A1.length) (A1++[.lst (m.map λp=>.tup (p.1.map .int))])) E):Wp (aB4 e σ) A Q E:=
 C0 (w_mono h λx A1 ⟨n,m,hx,hm,hc,q⟩=>by subst hx;exact C0 (ab7 hm (D1 hc q)))
theorem w_neD {n k:Nat} {m m':DT} (h1:A[n]?=some (.dT m)) (h2:A[k]?=some (.dT m')) (hk:n≠k/\t3 m/\t3 m') (q:Q (.bl (!ab2 m m')) A):Wp (bd0 (.ref n) (.ref k)) A Q E:=
 C0 (C0 (ab7 h1 (C0 (ab7 h2 (D1 ⟨hk.2.1,hk.2.2,λz=>absurd z hk.1⟩ q)))))
theorem bg1 {i j k m:Int} (q:Q (.bl (if i=k then decide (j<=m) else decide (i<k))) A):Wp (aQ4 (.tup [.int i,.int j]) (.tup [.int k,.int m])) A Q E:=q
theorem bg2 {i j:Int} (q:Q (.bl false) A):Wp (aQ4 (.tup [.int i,.int j]) (.tup [])) A Q E:=q
theorem w_isC {cs:List Nat} {k:Nat} (h:Wp (e σ) A (λx A1=>∃n c fs,x=.ref n/\A1[n]?=some (.ins c fs)/\c∈cs/\Q (.bl (aZ5 c k)) A1) E):Wp (bc7 cs e k σ) A Q E:=
 C0 (w_mono h λx A1 ⟨n,c,fs,hx,hm,hc,q⟩=>by subst hx;exact C0 (w_eq (a:=(c,fs)) (A':=A1) (by show T7 n A1=_;unfold T7;rw [hm]) (D1 hc q)))
theorem bg3 {it:ID} {g:GD} {s:SD} {σ:PSt} {A:PHp} {QF:Fl->PHp->Prop} {E:XP} (P:Nat->PSt->PHp->Prop) (h:Wp (it σ) A (λJ A1=>∃k a l,J=.enk k a/\P 0 σ A1/\(∀i σ B,P i σ B->D0 a B=.ok l B)/\(∀(i:Nat) v σ B,l[i]?=some v->P i σ B->Wp (g (.tup [.int ((k+i:Nat):Int),v]) σ) B (λσ1 B1=>Wp (s σ1) B1 (ay0 (P (i+1)) QF) E) E)/\∀σ B,P l.length σ B->QF (.nx σ) B) E) :
 Wp (X7 it g s σ) A QF E:=C0 (w_mono h λJ A1 ⟨k,a,l,hJ,h0,hl,hs,he⟩=>by
 subst hJ
 refine C0 (C0 (w_eq (hl 0 σ A1 h0) (aH8 ?_)))
 refine u9 P (λσ B hP=>⟨by show bnd (D0 a) _ B=_;rw [bnd_ok (hl _ σ B hP)];simp,he σ B hP⟩) (λi σ B hi hP=>?_) l.length 0 σ A1 (by omega) h0 (l.length+1) (Nat.lt_succ_self _)
 exact⟨.tup [.int ((k+i:Nat):Int),l[i]],by show bnd (D0 a) _ B=_;rw [bnd_ok (hl _ σ B hP),List.getElem?_eq_getElem hi];rfl,hs i l[i] σ B (List.getElem?_eq_getElem hi) hP⟩)
end
noncomputable def line (k:Str) (L:List Int):Str:=Txt.join (one 32) (k::L.map λi=>num i.toNat)
noncomputable def okN (i:Int):Prop:=0<=i/\i<1000000000
theorem ay7 {L:List Int} (h:∀x∈L,okN x):L.map PV.int=(L.map Int.toNat).map λn=>PV.int (n:Nat):=by
 rw [List.map_map]
 exact List.map_congr_left λx hx=>by show PV.int x=PV.int ((x.toNat:Nat):Int);rw [Int.toNat_of_nonneg (h x hx).1]
theorem aW1 {L:List Int} (h:∀x∈L,okN x):∀n∈L.map Int.toNat,n<1000000000:=λn hn=>by
 obtain⟨x,hx,rfl⟩:=List.mem_map.mp hn
 have:=h x hx
 unfold okN at this;omega
theorem in_wordsT (k:Str) (hk:k.length<=9) (L:List Int) (h:∀x∈L,okN x) (hl:L.length<=100) (A:PHp) :
 Wp (J4 [.str k,.tup (L.map .int)]) A (λv A'=>v=.str (line k L)/\A<+:A') NoX:=by
 rw [ay7 h]
 refine w_mono (ay6 k hk _ (aW1 h) (by simpa using hl) A) λv A' ⟨h1,h2⟩=>⟨?_,h2⟩
 rw [h1,List.map_map];rfl
theorem in_wordsL (k:Str) (hk:k.length<=9) (L:List Int) (h:∀x∈L,okN x) (hl:L.length<=100) {A:PHp} {a:Nat} (ha:A[a]?=some (.lst (L.map .int))) :
 Wp (J4 [.str k,.ref a]) A (λv A'=>v=.str (line k L)/\A<+:A') NoX:=by
 unfold J4
 walk_at "fn"
 walk_at "go"
 unfold V0
 have ha1:(A++[PO.lst [PV.str k]])[a]?=some (.lst (L.map .int)):=get_app_of ha
 refine j3 L (λn=>.int n) (λn=>.str (num n.toNat)) (λσ=>∃x,σ=[x]) ?_
 walk_at "go"
 refine⟨by rw [fuel_lst ha1];simp,lim_le (by omega),⟨_,rfl⟩,λi B p=>aI6 ha1 p i,?_,λB hB=>?_⟩
 ·rintro n σ B hn ⟨x,rfl⟩ _
  walk_at "go"
  refine⟨rfl,⟨_,rfl⟩,?_⟩
  walk_at "go"
  have:=h n hn
  unfold okN at this
  exact⟨n.toNat,by rw [Int.toNat_of_nonneg this.1],by omega,rfl,List.prefix_refl _⟩
 ·refine aD2 (get_app_of (pre_get hB C7)) C7 (lim_le (by simp;omega)) ?_
  refine⟨_,k::L.map λn=>num n.toNat,rfl,by rw [C7,List.map_cons,List.map_map];rfl,⟨by decide +kernel,?_⟩,by rw [ay5];rfl,?_⟩
  ·have:=aW0 (ys:=k::L.map λn=>num n.toNat) (b:=9) λy hy=>by
    rcases List.mem_cons.mp hy with rfl | hy
    ·exact hk
    ·obtain⟨n,hn,rfl⟩:=List.mem_map.mp hy
     have:=h n hn
     unfold okN at this
     exact (j0 (by omega)).2
   simp only [List.length_cons,List.length_map] at this ⊢
   omega
  ·exact (((List.prefix_append _ _).trans hB).trans (List.prefix_append _ _)).trans (List.prefix_append _ _)
theorem ao1 (c:Nat) (l:List Str):(Txt.join (one c) l).length<=(l.map (·.length)).sum+l.length:=by
 have e:Txt.join (one c) l=Str.join (one c) l:=StrLaws.glued_eq_join _ _
 rw [e]
 have:=StrLaws.join_length_le (one c) l
 have h1:(one c).length=1:=rfl
 rw [h1] at this;omega
theorem ai5 {k:Str} (hk:k.length<=9) {L:List Int} (h:∀x∈L,okN x):∀w∈k::L.map λi=>num i.toNat,w.length<=9:=λy hy=>by
 rcases List.mem_cons.mp hy with rfl | hy
 ·exact hk
 ·obtain⟨n,hn,rfl⟩:=List.mem_map.mp hy
  have:=h n hn
  unfold okN at this
  exact (j0 (by omega)).2
theorem v9 {k:Str} (hk:k.length<=9) {L:List Int} (h:∀x∈L,okN x) (hl:L.length<=100):(line k L).length<=10*L.length+10:=by
 have h1:=ao1 32 (k::L.map λi=>num i.toNat)
 have h2:=aW0 (ai5 hk h)
 simp only [List.length_cons,List.length_map] at h1 h2
 unfold line;omega
end Ws
local macro_rules | `(tactic| walk_at "s1")=>`(tactic| first
 | with_reducible refine Ws.w_tkeys ?_
 | with_reducible refine Ws.w_isC ?_)
namespace Ws
open PySem
noncomputable def ac3 (f:Int×Int->Int) (p:Int×Int):Str:=line "pass" [p.1,p.2,f p]
noncomputable def prows (n:Int) (L:List Int) (qs:List (Int×Int)) (f:Int×Int->Int):List Str:=line "hands" [n]::line "leaders" L::qs.map (ac3 f)
noncomputable def ab9 (n:Int) (L:List Int) (qs:List (Int×Int)) (f:Int×Int->Int):Str:=Txt.join (one 10) (prows n L qs f)
structure PTok (n:Int) (L:List Int) (qs:List (Int×Int)) (f:Int×Int->Int):Prop where
 n:okN n
 hL:∀x∈L,okN x
 Ll:L.length<=6
 ql:qs.length<64
 q:∀p∈qs,okN p.1/\okN p.2/\okN (f p)
theorem PTok.row {n:Int} {L:List Int} {qs:List (Int×Int)} {f:Int×Int->Int} (T:PTok n L qs f) {p:Int×Int} (hp:p∈qs):∀x∈[p.1,p.2,f p],okN x:=by
 intro x hx
 obtain⟨a,b,c⟩:=T.q p hp
 simp only [List.mem_cons,List.not_mem_nil,or_false] at hx
 rcases hx with rfl | rfl | rfl <;> assumption
theorem PTok.n1 {n:Int} {L:List Int} {qs:List (Int×Int)} {f:Int×Int->Int} (T:PTok n L qs f):∀x∈[n],okN x:=by
 intro x hx;rw [List.mem_singleton] at hx;rw [hx];exact T.n
theorem aW2 {n:Int} {L:List Int} {qs:List (Int×Int)} {f:Int×Int->Int} (T:PTok n L qs f):∀y∈prows n L qs f,y.length<=70:=by
 intro y hy
 rcases List.mem_cons.mp hy with rfl | hy
 ·have:=v9 (k:="hands") (by decide +kernel) T.n1 (by simp);simp at this;omega
 rcases List.mem_cons.mp hy with rfl | hy
 ·have:=v9 (k:="leaders") (by decide +kernel) T.hL (by have:=T.Ll;omega);have:=T.Ll;omega
 ·obtain⟨p,hp,rfl⟩:=List.mem_map.mp hy
  have:=v9 (k:="pass") (by decide +kernel) (T.row hp) (by simp);simp at this;unfold ac3;omega
theorem ao2 {n:Int} {L:List Int} {qs:List (Int×Int)} {f:Int×Int->Int}:(prows n L qs f).length=qs.length+2:=by simp [prows]
theorem i0 {n:Int} {L:List Int} {qs:List (Int×Int)} {f:Int×Int->Int} (T:PTok n L qs f):((prows n L qs f).map (·.length)).sum+(prows n L qs f).length<=5000:=by
 have h:=aW0 (aW2 T)
 rw [ao2] at h ⊢
 have:=T.ql;omega
theorem written_plan_ok {A:PHp} {P w r:Nat} {n:Int} {ps:List (Int×Int)} {L:List Int} {f:Int×Int->Int} {ll dl dk:Nat} (H:PlanAt A P w r n ps L f ll dl dk) (nd:ps.Nodup) (T:PTok n L (srt ps) f) :
 Wp (J5 [.ref P]) A (λv A'=>v=.str (ab9 n L (srt ps) f)/\A<+:A') NoX:=by
 unfold J5
 walk_at "fn"
 have hP:=H.ob
 have hw:=H.web.ob
 walk_at "go"
 refine w_mono (in_wordsL "hands" (by decide +kernel) [n] T.n1 (by simp) (get_appL rfl)) λv A1 ⟨hv,p1⟩=>?_
 subst hv
 have q1:A<+:A1:=(List.prefix_append _ _).trans p1
 have hP1:=pre_get q1 hP
 walk_at "go"
 refine w_mono (in_wordsT "leaders" (by decide +kernel) L T.hL (by have:=T.Ll;omega) A1) λv A2 ⟨hv,p2⟩=>?_
 subst hv
 have q2:A<+:A2:=q1.trans p2
 walk_at "go"
 unfold f_written_plan_l1
 have H3:=H.mono (E9 (o:=PO.lst [.str (line "hands" [n]),.str (line "leaders" L)]) q2)
 have hP3:=H3.ob
 have hw3:=H3.web.ob
 have hr3:=H3.web.ls
 have hs:∀p∈srt ps,p∈ps:=λp hp=>(srt_perm ps).mem_iff.mp hp
 have hle:=i3 q2
 refine aD3 (λi σ B=>(∃x,σ=[some (.ref P),some (.ref A2.length),x])/\A<+:B/\B[A2.length]?=some (.lst (((prows n L (srt ps) f).take (i+2)).map .str))) ?_
 walk_at "go"
 refine⟨r,pvs (srt ps),rfl,⟨⟨_,rfl⟩,E9 q2,by rw [get_appL rfl];simp [prows]⟩,λi σ B ⟨_,h,_⟩=>D8 (H.mono h).web.ls,?_,?_⟩
 ·rintro i v σ B hv ⟨⟨x,rfl⟩,pB,hB⟩
  simp only [pvs,List.getElem?_map] at hv
  obtain⟨p,hp,rfl⟩:=Option.map_eq_some_iff.mp hv
  have hmem:p∈srt ps:=List.mem_of_getElem? hp
  unfold U4
  have HB:=H.mono pB
  have hPB:=HB.ob
  walk_at "go"
  refine w_eq (limit_ok HB nd (hs p hmem)) ?_
  walk_at "go"
  refine w_addT (l:=[.int p.1,.int p.2]) ⟨nofun,lim_le (by simp)⟩ ?_
  walk_at "go"
  refine w_mono (in_wordsT "pass" (by decide +kernel) [p.1,p.2,f p] (T.row hmem) (by simp) B) λv B1 ⟨hv,p3⟩=>?_
  subst hv
  have hB1:=pre_get p3 hB
  walk_at "go"
  refine⟨lim_lt (by simp [prows];have:=T.ql;omega),⟨_,rfl⟩,R9 (pB.trans p3) hle,?_⟩
  rw [get_set hB1]
  have e:(prows n L (srt ps) f)[i+2]?=some (ac3 f p):=by simp [prows,hp]
  have ts:(prows n L (srt ps) f).take (i+1+2)=(prows n L (srt ps) f).take (i+2)++[ac3 f p]:=by
   rw [show i+1+2=(i+2)+1 by omega,List.take_succ,e];rfl
  rw [ts,List.map_append];rfl
 ·rintro σ B ⟨⟨x,rfl⟩,pB,hB⟩
  rw [pvs,List.length_map,List.take_of_length_le (by simp [prows])] at hB
  walk_at "go"
  exact⟨_,prows n L (srt ps) f,rfl,hB,⟨by decide +kernel,by have:=i0 T;omega⟩,by rw [aV9];rfl,pB⟩
end Ws
namespace Ws
open PySem
theorem ay8 {c d:Nat} (hcd:c≠d):∀ws:List (List Nat),(∀w∈ws,c∉w)->c∉T4 d ws
 | [],_=>by simp [T4]
 | [w],h=>h w (by simp)
 | w::v::r,h=>by
   have ih:=ay8 hcd (v::r) λu hu=>h u (List.mem_cons_of_mem _ hu)
   simp only [T4,List.mem_append,List.mem_cons,not_or]
   exact⟨h w (by simp),hcd,ih⟩
theorem aD7 (c:Nat) (ws:List Str):(Txt.join (one c) ws).cps.toList=T4 c (ws.map λw=>w.cps.toList):=by
 have e:Txt.join (one c) ws=Str.join (one c) ws:=StrLaws.glued_eq_join _ _
 rw [e,o4]
theorem bg4 (n:Nat):32∉(num n).cps.toList/\10∉(num n).cps.toList:=⟨λz=>by have:=num_dig z;omega,λz=>by have:=num_dig z;omega⟩
theorem ao3 {k:Str} (hk:32∉k.cps.toList/\10∉k.cps.toList) {L:List Int}:∀w∈k::L.map (λi=>num i.toNat),32∉w.cps.toList/\10∉w.cps.toList:=λw hw=>by
 rcases List.mem_cons.mp hw with rfl | hw
 ·exact hk
 ·obtain⟨n,_,rfl⟩:=List.mem_map.mp hw
  exact bg4 _
theorem as6 {k:Str} (hk:32∉k.cps.toList/\10∉k.cps.toList) (L:List Int):10∉(line k L).cps.toList:=by
 unfold line
 rw [aD7]
 refine ay8 (by decide) _ λw hw=>?_
 obtain⟨u,hu,rfl⟩:=List.mem_map.mp hw
 exact (ao3 hk u hu).2
theorem ad2 (k:Str) (L:List Int):line k L=Txt.join (one 32) (k::L.map λi=>num i.toNat):=by unfold line;rfl
theorem atN {α:Type} {xs:List α} {i:Nat} {x:α} (h:xs[i]?=some x):atI xs (i:Int)=some x:=by
 obtain⟨h1,h2⟩:=List.getElem?_eq_some_iff.mp h
 rw [aV0 h1,h2]
theorem behind_ok (k:Str) (hk:k.length<=9) (hn:32∉k.cps.toList/\10∉k.cps.toList) (L:List Int) (h:∀x∈L,okN x) (hl:L.length<=100) (A:PHp) :
 Wp (E1 [.str k,.str (line k L)]) A (λv A'=>∃m,v=.ref m/\A'[m]?=some (.lst (L.map .int))/\A<+:A') NoX:=by
 unfold E1
 walk_at "fn"
 walk_at "go"
 have hll:=v9 hk h hl
 refine⟨32,k::L.map λi=>num i.toNat,?_,?_,?_,?_⟩
 ·exact congrArg PV.str ay5
 ·exact ad2 k L
 ·exact⟨by decide,by simp,λw hw=>(ao3 hn w hw).1,lim_le (by omega),lim_le (by simp;omega)⟩
 have hx:atI ((k::L.map λi=>num i.toNat).map PV.str) 0=some (.str k):=atN (i:=0) (by simp)
 have hc:cut ((k::L.map λi=>num i.toNat).map PV.str) (some 1) none=((L.map Int.toNat).map num).map .str:=by
  refine (v6 _ 1).trans ?_
  simp [List.map_map]
 generalize (k::L.map λi=>num i.toNat).map PV.str=ws at hx hc
 walk_at "go"
 refine⟨λ_=>?_,λz=>absurd z (by simp)⟩
 walk_at "go"
 rw [hc]
 refine w_mono (ac2 (L.map Int.toNat) (aW1 h) (by simpa using hl) C7) λv A1 hh=>?_
 obtain⟨m,hv,hm,hp⟩:=hh
 exact⟨m,hv,by rw [hm,ay7 h],((List.prefix_append _ _).trans (List.prefix_append _ _)).trans hp⟩
theorem read_hands_ok {n:Int} (h2:2<=n/\n<=6) (A:PHp):Wp (M0 [.str (line "hands" [n])]) A (λv A'=>v=.int n/\A<+:A') NoX:=by
 unfold M0
 walk_at "fn"
 walk_at "go"
 have hN:∀x∈[n],okN x:=λx hx=>by rw [List.mem_singleton] at hx;subst hx;unfold okN;omega
 refine w_mono (behind_ok "hands" (by decide +kernel) ⟨by decide +kernel,by decide +kernel⟩ [n] hN (by simp) A) λv A1 hh=>?_
 obtain⟨m,rfl,hm,hp⟩:=hh
 have hx:atI ([n].map PV.int) 0=some (.int n):=atN (i:=0) (by simp)
 walk_at "gb"
 refine w_eq (is_number_eq n A1) ?_
 walk_at "gb"
 refine brTx' h2 ?_
 walk_at "gb"
 exact⟨rfl,hp⟩
theorem read_leaders_ok {n:Int} (h2:2<=n/\n<=6) {L:List Int} (hL:∀x∈L,okN x) (hl:L.length<=6) (hle:R7 n L=true) (A:PHp) :
 Wp (K7 [.int n,.str (line "leaders" L)]) A (λv A'=>∃m,v=.ref m/\A'[m]?=some (.lst (L.map .int))/\A<+:A') NoX:=by
 unfold K7
 walk_at "fn"
 walk_at "go"
 refine w_mono (behind_ok "leaders" (by decide +kernel) ⟨by decide +kernel,by decide +kernel⟩ L hL (by omega) A) λv A1 hh=>?_
 obtain⟨m,rfl,hm,hp⟩:=hh
 walk_at "gb"
 have W:Passings n []:=⟨h2.1,h2.2,by simp,by simp,by simp⟩
 have hq:(A1++[PO.lst []])[A1.length]?=some (.lst (pvs [])):=C7
 obtain⟨A2,r,e,p2,WA,_⟩:=ah6 W hq
 refine w_eq e ?_
 walk_at "gb"
 have hm2:A2[m]?=some (.lst (L.map .int)):=pre_get p2 (get_app_of hm)
 refine w_mono (are_leaders_ok WA hm2 (by omega)) λv A3 hh=>?_
 obtain⟨p3,hv⟩:=hh
 subst hv
 rw [hle]
 walk_at "gb"
 exact⟨pre_get p3 hm2,hp.trans ((List.prefix_append _ _).trans (p2.trans p3))⟩
noncomputable abbrev s7 (n:Int) (k d:Nat) (la:PV) (a b c e:Option PV):PSt:=[some (.int n),some (.ref k),some (.ref d),some la,a,b,c,e]
noncomputable def aI7 (qs:List (Int×Int)):PV:=match qs.getLast? with
 | some p=>pv p
 | none=>.tup []
theorem ao4 {α:Type} {qs:List α} {i:Nat} {p:α} (h:qs[i]?=some p):(qs.take (i+1)).getLast?=some p:=by
 rw [List.take_succ,h];simp
theorem w_leLast {qs:List (Int×Int)} (hs:qs.Pairwise λp q=>ltP p q=true) {i:Nat} {p:Int×Int} (hp:qs[i]?=some p) {A:PHp} {Q:PV->PHp->Prop} {E:XP} (q:Q (.bl false) A):Wp (aQ4 (.tup [.int p.1,.int p.2]) (aI7 (qs.take i))) A Q E:=by
 unfold aI7
 cases h:(qs.take i).getLast? with
 | none=>exact bg2 q
 | some r=>
   have hr:ltP r p=true:=by
    cases i with
    | zero=>simp at h
    | succ j=>
      have hj:j<qs.length:=by have:=(List.getElem?_eq_some_iff.mp hp).1;omega
      have h3:qs[j]?=some qs[j]:=List.getElem?_eq_getElem hj
      have h4:=ao4 h3
      rw [h] at h4;cases h4
      obtain⟨h5,h6⟩:=List.getElem?_eq_some_iff.mp hp
      have:=List.pairwise_iff_getElem.mp hs j (j+1) hj h5 (by omega)
      rw [h6] at this;exact this
   rw [v7] at hr
   refine bg1 ?_
   have e:(if p.1=r.1 then decide (p.2<=r.2) else decide (p.1<r.1))=false:=by
    split
    ·rw [decide_eq_false_iff_not];omega
    ·rw [decide_eq_false_iff_not];omega
   rw [e];exact q
theorem ai6 {n:Int} (h2:2<=n/\n<=6) {qs:List (Int×Int)} {f:Int×Int->Int} (hg:∀p∈qs,good n p) (hf:∀p∈qs,okN (f p)) (hs:qs.Pairwise λp q=>ltP p q=true) (hlen:qs.length<64) {A:PHp} {k:Nat} (hk:A[k]?=some (.lst ((qs.map (ac3 f)).map .str))) :
 Wp (L3 [.int n,.ref k]) A (λv A'=>∃d,v=.ref d/\A'[d]?=some (.dT (limD qs f))/\A<+:A') NoX:=by
 unfold L3
 walk_at "fn"
 walk_at "go"
 unfold X0
 have hnd:qs.Nodup:=hs.imp λ{p q} h z=>by subst z;rw [v7] at h;omega
 refine bg3 (λi σ B=>(∃a b c e,σ=s7 n k A.length (aI7 (qs.take i)) a b c e)/\A<+:B/\B[A.length]?=some (.dT (limD (qs.take i) f))) ?_
 have hk1:(A++[PO.dT []])[k]?=some (.lst ((qs.map (ac3 f)).map .str)):=get_app_of hk
 walk_at "go"
 refine⟨_,_,_,rfl,⟨⟨_,_,_,_,rfl⟩,List.prefix_append _ _,C7⟩,λi σ B hh=>D8 (pre_get hh.2.1 hk),?_,?_⟩
 ·rintro i v σ B hv ⟨⟨a,b,c,e,rfl⟩,pB,hB⟩
  rw [List.getElem?_map,List.getElem?_map] at hv
  obtain⟨y,hy,rfl⟩:=Option.map_eq_some_iff.mp hv
  obtain⟨p,hp,rfl⟩:=Option.map_eq_some_iff.mp hy
  have hmem:=List.mem_of_getElem? hp
  have g:=hg p hmem
  have ho:∀x∈[p.1,p.2,f p],okN x:=by
   intro x hx
   simp only [List.mem_cons,List.not_mem_nil,or_false] at hx
   unfold good at g
   rcases hx with rfl | rfl | rfl
   ·unfold okN;omega
   ·unfold okN;omega
   ·exact hf p hmem
  unfold W9
  walk_at "go"
  refine w_mono (behind_ok "pass" (by decide +kernel) ⟨by decide +kernel,by decide +kernel⟩ [p.1,p.2,f p] ho (by simp) B) λv B1 hh=>?_
  obtain⟨m,rfl,hm,hp1⟩:=hh
  have x0:atI ([p.1,p.2,f p].map PV.int) 0=some (.int p.1):=atN (i:=0) (by simp)
  have x1:atI ([p.1,p.2,f p].map PV.int) 1=some (.int p.2):=atN (i:=1) (by simp)
  have x2:atI ([p.1,p.2,f p].map PV.int) 2=some (.int (f p)):=atN (i:=2) (by simp)
  walk_at "gb"
  refine w_eq (is_passing_eq n p B1) ?_
  rw [decide_eq_true g]
  walk_at "gb"
  refine w_leLast hs hp ?_
  have hB1:=pre_get hp1 hB
  have hkey:T6 (pv p)=some (l2 p):=rfl
  walk_at "gb"
  have hnin:p∉qs.take i:=by
   intro hm'
   obtain⟨h5,h6⟩:=List.getElem?_eq_some_iff.mp hp
   obtain⟨j,hj,e⟩:=List.mem_iff_getElem.mp hm'
   rw [List.length_take] at hj
   rw [List.getElem_take] at e
   exact List.pairwise_iff_getElem.mp hnd j i (by omega) h5 (by omega) (e.trans h6.symm)
  refine⟨lim_lt (by rw [limD,List.length_map,List.length_take];omega),?_⟩
  walk_at "gb"
  have tk:qs.take (i+1)=qs.take i++[p]:=by rw [List.take_succ,hp];rfl
  refine⟨⟨_,_,_,_,by unfold aI7;rw [ao4 hp];rfl⟩,R9 (pB.trans hp1) (Nat.le_refl _),?_⟩
  rw [get_set hB1,tk,←ai2 hnin];rfl
 ·rintro σ B ⟨⟨a,b,c,e,rfl⟩,pB,hB⟩
  rw [List.length_map,List.length_map,List.take_length] at hB
  walk_at "gb"
  exact pB
end Ws
namespace Ws
open PySem
theorem bg5 {ps:List (Int×Int)} (h:ps.Nodup):(srt ps).Pairwise λp q=>ltP p q=true:=by
 have h1:=o0 ps
 have h2:(srt ps).Pairwise (·≠·):=srt_nd h
 refine (h1.and h2).imp λ{p q} hh=>?_
 obtain⟨a,b⟩:=hh
 rw [i9] at a
 rw [v7]
 have:¬(p.1=q.1/\p.2=q.2):=λz=>b (Prod.ext z.1 z.2)
 omega
theorem srt_srt {ps:List (Int×Int)} (h:ps.Nodup):srt (srt ps)=srt ps:=by
 refine y8 (lt:=ltP) (λp q h1 h2=>?_) (srt_perm _) (o0 _) (o0 _)
 rw [i9] at h1 h2
 exact Prod.ext (by omega) (by omega)
theorem aW3 (qs:List (Int×Int)) (f:Int×Int->Int):(limD qs f).map (λp=>PV.tup (p.1.map .int))=pvs qs:=by
 unfold limD pvs
 rw [List.map_map]
 exact List.map_congr_left λp _=>rfl
theorem Passings.srt {n:Int} {ps:List (Int×Int)} (W:Passings n ps):Passings n (srt ps):=
 ⟨W.lo,W.hi,λp hp=>W.good p ((srt_perm ps).mem_iff.mp hp),srt_nd W.nd,by rw [(srt_perm ps).length_eq];exact W.len⟩
theorem a52 {n:Int} {L:List Int} {qs:List (Int×Int)} {f:Int×Int->Int}:∀y∈prows n L qs f,10∉y.cps.toList:=by
 intro y hy
 rcases List.mem_cons.mp hy with rfl | hy
 ·exact as6 ⟨by decide +kernel,by decide +kernel⟩ _
 rcases List.mem_cons.mp hy with rfl | hy
 ·exact as6 ⟨by decide +kernel,by decide +kernel⟩ _
 ·obtain⟨p,hp,rfl⟩:=List.mem_map.mp hy
  exact as6 ⟨by decide +kernel,by decide +kernel⟩ _
theorem read_plan_ok {n:Int} {ps:List (Int×Int)} {L:List Int} {f:Int×Int->Int} (W:Passings n ps) (T:PTok n L (srt ps) f) (hle:R7 n L=true) (A:PHp) :
 Wp (L6 [.str (ab9 n L (srt ps) f)]) A (λv A'=>∃P w r ll dl dk,v=.ref P/\PlanAt A' P w r n (srt ps) L (limOf (limD (srt ps) f)) ll dl dk/\A<+:A'/\A.length<=dl) NoX:=by
 unfold L6
 walk_at "fn"
 walk_at "go"
 have hsm:=i0 T
 have hjl:=ao1 10 (prows n L (srt ps) f)
 refine⟨10,prows n L (srt ps) f,?_,?_,?_,?_⟩
 ·exact congrArg PV.str aV9
 ·unfold ab9;rfl
 ·exact⟨by decide,by simp [prows],a52,lim_le (by unfold ab9;omega),lim_le (by rw [ao2];have:=T.ql;omega)⟩
 have x0:atI ((prows n L (srt ps) f).map PV.str) 0=some (.str (line "hands" [n])):=atN (i:=0) (by simp [prows])
 have x1:atI ((prows n L (srt ps) f).map PV.str) 1=some (.str (line "leaders" L)):=atN (i:=1) (by simp [prows])
 have hc:cut ((prows n L (srt ps) f).map PV.str) (some 2) none=((srt ps).map (ac3 f)).map .str:=by
  refine (v6 _ 2).trans ?_
  simp [prows]
 have hln:((prows n L (srt ps) f).map PV.str).length=(srt ps).length+2:=by simp [prows]
 have hlt:=(srt_perm ps).length_eq
 have hql:=T.ql
 generalize (prows n L (srt ps) f).map PV.str=R at x0 x1 hc hln
 walk_at "gb"
 refine w_mono (read_hands_ok ⟨W.lo,W.hi⟩ _) λv A1 hh=>?_
 obtain⟨rfl,p1⟩:=hh
 have hR:A1[A.length]?=some (.lst R):=pre_get p1 C7
 have pA1:A<+:A1:=(List.prefix_append _ _).trans p1
 walk_at "gb"
 rw [show decide ((R.length:Int)=1)=false by rw [decide_eq_false_iff_not,hln];omega]
 walk_at "gb"
 refine w_mono (read_leaders_ok ⟨W.lo,W.hi⟩ T.hL T.Ll hle A1) λv A2 hh=>?_
 obtain⟨l,rfl,hl,p2⟩:=hh
 have hR2:=pre_get p2 hR
 walk_at "gb"
 rw [hc]
 have hgs:∀p∈srt ps,good n p:=λp hp=>W.good p ((srt_perm ps).mem_iff.mp hp)
 refine w_mono (ai6 (n:=n) ⟨W.lo,W.hi⟩ (qs:=srt ps) (f:=f) hgs (λp hp=>(T.q p hp).2.2) (bg5 W.nd) T.ql C7) λv A3 hh=>?_
 obtain⟨d,rfl,hd,p3⟩:=hh
 walk_at "gb"
 refine⟨⟨lim_le (by simp [limD];omega),λp hp=>?_⟩,?_⟩
 ·obtain⟨q,_,rfl⟩:=List.mem_map.mp hp
  simp [l2]
 walk_at "gb"
 have WS:=W.srt
 obtain⟨A4,r,e4,p4,W4,hr4⟩:=ah6 WS (A:=A3++[PO.lst ((limD (srt ps) f).map λp=>PV.tup (p.1.map .int))]) (q:=A3.length) (by rw [C7,aW3])
 refine w_eq e4 ?_
 walk_at "gb"
 have q3:A2<+:A4:=(List.prefix_append _ _).trans (p3.trans ((List.prefix_append _ _).trans p4))
 have hl4:=pre_get q3 hl
 have hd4:A4[d]?=some (.dT (limD (srt ps) f)):=pre_get p4 (get_app_of hd)
 have hAll:∀p∈srt ps,∃z,0<=z/\N8 (limD (srt ps) f) (l2 p)=some (.int z):=λp hp=>⟨f p,(T.q p hp).2.2.1,U6 (srt_nd W.nd) hp⟩
 refine w_mono (ao0 W4 hl4 (by have:=T.Ll;omega) hd4 WS hle hAll) λv A5 hh=>?_
 obtain⟨hv,p5,ll,dl,dk,HP,g1,g2,g3⟩:=hh
 have pA:A<+:A4:=pA1.trans (p2.trans q3)
 have:=i3 pA
 exact⟨_,_,_,ll,dl,dk,rfl,HP,pA.trans p5,by omega⟩
end Ws
namespace Ws
open PySem
theorem ai7 {xs:List Int} {i:Nat} (h:i<xs.length):atI (xs.map PV.int) (i:Int)=some (.int (xs.getD i 0)):=by
 rw [n9 h];simp [h]
theorem aW4 {A:PHp} {c:Int} {N:Nat} (h2:2<=N) (hN:N<=6):Wp (L4 [.int c,.int N]) A (λv A'=>A<+:A'/\∃(L:List Int) (r:Nat),v=.ref r/\A'[r]?=some (.lst (L.map .int))/\L.length<=6/\R7 N L=true/\A.length<=r) NoX:=by
 obtain⟨xs,hx,hnn,es⟩:=aa4 c 7 (by decide) A
 have hlt:∀{L:List Int},L.Pairwise (·< ·)->(∀h∈L,0<=h/\h<(N:Int))->L≠[]->R7 N L=true:=λh1 h3 h4=>by
  unfold R7
  rw [aa5 h1,decide_eq_false h4,List.all_eq_true.mpr λh hh=>decide_eq_true (h3 h hh)];rfl
 unfold L4
 walk_at "fn"
 walk_at "go"
 refine w_eq es ?_
 walk_at "go"
 unfold f_law_leaders_c1
 have hA1:(A++[PO.lst (xs.map .int)])[A.length]?=some (.lst (xs.map .int)):=C7
 refine ac9 (l:=(T3 N).map .int) (λσ=>∃y,σ=[y,some (.ref A.length)]) (λv=>match v with | .int k=>decide (xs.getD k.toNat 0%4<1+xs.getD 6 0%3) | _=>false) (λv=>v) ?_
 walk_at "go"
 have hlen:((T3 N).map PV.int).length=N:=by rw [List.length_map,am7]
 refine⟨by rw [hlen];omega,by rw [hlen];exact lim_le (by omega),⟨_,rfl⟩,λi=>?_,?_,?_⟩
 ·rw [T3,List.map_map];exact aU5 _ _
 ·rintro v σ hv ⟨y,rfl⟩
  obtain⟨k,hk,rfl⟩:=List.mem_map.mp hv
  have hk':=mem_hands.mp hk
  have e0:atI (xs.map PV.int) k=some (.int (xs.getD k.toNat 0)):=by
   have:=ai7 (xs:=xs) (i:=k.toNat) (by omega)
   rw [Int.toNat_of_nonneg hk'.1] at this;exact this
  have e6:atI (xs.map PV.int) 6=some (.int (xs.getD 6 0)):=ai7 (i:=6) (by omega)
  walk_at "go"
  refine⟨rfl,⟨_,rfl⟩,?_⟩
  walk_at "go"
  refine⟨rfl,rfl,λ_=>?_⟩
  walk_at "go"
  exact⟨rfl,rfl⟩
 ·generalize hp:(λv:PV=>match v with | .int k=>decide (xs.getD k.toNat 0%4<1+xs.getD 6 0%3) | _=>false)=p
  have ef:((((T3 N).map PV.int).filter p).map λv=>v)=((T3 N).filter λk=>p (.int k)).map .int:=by
   rw [List.map_id'',List.filter_map];rfl
   intro _;rfl
  rw [ef]
  generalize hL:(T3 N).filter (λk=>p (.int k))=L
  have hLp:L.Pairwise (·< ·):=by rw [←hL];exact (ah9 N).filter _
  have hLr:∀h∈L,0<=h/\h<(N:Int):=λh hh=>by rw [←hL] at hh;exact mem_hands.mp (List.mem_filter.mp hh).1
  have hLl:L.length<=6:=by rw [←hL];exact Nat.le_trans (List.length_filter_le _ _) (by rw [am7];exact hN)
  walk_at "gb"
  refine⟨λz=>?_,λz=>?_⟩
  ·have e0:atI (xs.map PV.int) 0=some (.int (xs.getD 0 0)):=ai7 (i:=0) (by omega)
   walk_at "gb"
   refine⟨[xs.getD 0 0%(N:Int)],_,rfl,by walk_at "st",by simp,hlt (by simp) (λh hh=>?_) (by simp),by simp⟩
   rw [List.mem_singleton] at hh;subst hh
   exact⟨Int.emod_nonneg _ (by omega),Int.emod_lt_of_pos _ (by omega)⟩
  ·walk_at "gb"
   exact⟨L,_,rfl,by walk_at "st",hLl,hlt hLp hLr (of_decide_eq_false z),by simp⟩
theorem w_pow9 {A:PHp} {Q:PV->PHp->Prop} {E:XP} (q:Q (.int 1000000000) A):Wp (bc6 (.int 10) (.int 9)) A Q E:=by
 show Wp (D2 (0<=(9:Int)/\(9:Int)<=1000/\(10:Int).natAbs<1000) (ret (.int ((10:Int) ^ (9:Int).toNat)))) A Q E
 rw [show (10:Int) ^ (9:Int).toNat=1000000000 by decide]
 exact D1 (by decide) q
theorem limits7 {A:PHp} {c:Int} {ps:List (Int×Int)} {q:Nat} (hq:A[q]?=some (.lst (pvs ps))) (hl:ps.length<=30) (nd:ps.Nodup) :
 Wp (M2 [.int c,.ref q]) A (λv A'=>A<+:A'/\∃(f:Int×Int->Int) (d:Nat),v=.ref d/\A'[d]?=some (.dT (limD ps f))/\(∀p,okN (f p))/\A.length<=d) NoX:=by
 obtain⟨xs,hx,hnn,es⟩:=aa4 c 31 (by decide) A
 unfold M2
 walk_at "fn"
 walk_at "go"
 refine w_eq es ?_
 walk_at "go"
 unfold f_law_limits_l1
 have p0:A<+:A++[PO.lst (xs.map .int)]:=List.prefix_append _ _
 have hq2:(A++[PO.lst (xs.map .int)]++[PO.dT []])[q]?=some (.lst (pvs ps)):=get_app_of (get_app_of hq)
 have hA2:(A++[PO.lst (xs.map .int)]++[PO.dT []])[A.length]?=some (.lst (xs.map .int)):=get_app_of C7
 refine bf6 (λi σ B=>(∃x,σ=[some (.int c),some (.ref q),some (.ref A.length),some (.ref (A.length+1)),x])/\A++[PO.lst (xs.map .int)]<+:B/\∃f:Int×Int->Int,(∀p,okN (f p))/\B[A.length+1]?=some (.dT (limD (ps.take i) f))) ?_
 walk_at "go"
 refine⟨by rw [pvs,List.length_map];omega,_,_,rfl,⟨⟨none,by simp⟩,List.prefix_append _ _,λ_=>0,λ_=>⟨Int.le_refl 0,by show (0:Int)<1000000000;omega⟩,get_appL (by simp)⟩,?_,?_⟩
 ·rintro i σ B hi ⟨⟨x,rfl⟩,pB,f,hf,hB⟩
  rw [pvs,List.length_map] at hi
  have hqB:B[q]?=some (.lst (pvs ps)):=pre_get pB (get_app_of hq)
  have hxB:B[A.length]?=some (.lst (xs.map .int)):=pre_get pB C7
  have hp:ps[i]?=some ps[i]:=List.getElem?_eq_getElem hi
  have e1:atI (pvs ps) (0+(i:Int))=some (pv ps[i]):=by rw [Int.zero_add];exact atN (by rw [pvs,List.getElem?_map,hp];rfl)
  have e2:atI (xs.map PV.int) (0+(i:Int))=some (.int (xs.getD i 0)):=by rw [Int.zero_add];exact ai7 (by omega)
  have e3:atI (xs.map PV.int) 30=some (.int (xs.getD 30 0)):=ai7 (i:=30) (by omega)
  unfold Z9
  have hm3:=Int.emod_nonneg (xs.getD 30 0) (by decide:(3:Int)≠0)
  have hm4:=Int.emod_lt_of_pos (xs.getD 30 0) (by decide:(0:Int)<3)
  have ok1:∀m:Int,0<m->m<=1000000000->∀y:Int,okN (y%m):=λm h1 h2 y=>⟨Int.emod_nonneg _ (by omega),by have:=Int.emod_lt_of_pos y h1;omega⟩
  walk_at "go"
  refine w_mul (.inr (by omega)) ?_
  walk_at "go"
  refine w_pow9 ?_
  walk_at "go"
  obtain⟨y,hy,ho⟩:∃y,atI [PV.int (xs.getD i 0%12),.int (xs.getD i 0%101),.int (xs.getD i 0*48271%1000000000)] (xs.getD 30 0%3)=some (.int y)/\okN y:=by
   have h3:xs.getD 30 0%3=0\/xs.getD 30 0%3=1\/xs.getD 30 0%3=2:=by omega
   rcases h3 with h3 | h3 | h3 <;> rw [h3]
   ·exact⟨_,atN (i:=0) rfl,ok1 _ (by decide) (by decide) _⟩
   ·exact⟨_,atN (i:=1) rfl,ok1 _ (by decide) (by decide) _⟩
   ·exact⟨_,atN (i:=2) rfl,ok1 _ (by decide) (by decide) _⟩
  walk_at "go"
  have hkey:T6 (pv ps[i])=some (l2 ps[i]):=rfl
  walk_at "go"
  have hnin:ps[i]∉ps.take i:=by
   intro hm'
   obtain⟨j,hj,e⟩:=List.mem_iff_getElem.mp hm'
   rw [List.length_take] at hj
   rw [List.getElem_take] at e
   exact List.pairwise_iff_getElem.mp nd j i (by omega) hi (by omega) e
  refine⟨lim_lt (by rw [limD,List.length_map,List.length_take];omega),⟨_,rfl⟩,R9 (E9 pB) (by simp),λp=>if p=ps[i] then y else f p,λp=>?_,?_⟩
  ·dsimp only
   split
   ·exact ho
   ·exact hf p
  ·rw [get_set (get_app_of hB)]
   have tk:ps.take (i+1)=ps.take i++[ps[i]]:=by rw [List.take_succ,hp];rfl
   have e:limD (ps.take i) f=limD (ps.take i) λp=>if p=ps[i] then y else f p:=by
    unfold limD
    refine List.map_congr_left λp hpm=>?_
    have:p≠ps[i]:=λz=>hnin (z ▸ hpm)
    show (l2 p,PV.int (f p))=(l2 p,PV.int (if p=ps[i] then y else f p))
    rw [if_neg this]
   rw [tk,e,←ai2 hnin,if_pos rfl];rfl
 ·rintro σ B ⟨⟨x,rfl⟩,pB,f,hf,hB⟩
  rw [pvs,List.length_map,List.take_length] at hB
  walk_at "gb"
  exact⟨f,_,rfl,hB,hf,by omega⟩
end Ws
namespace Ws
open PySem
theorem Z3 (z x y:Str) (l:List Str):Txt.join z (x::y::l)=x++z++Txt.join z (y::l):=by
 show Builtin.Str.glued z _=_++Builtin.Str.glued z _
 rw [StrLaws.glued_eq_join,StrLaws.glued_eq_join];rfl
theorem ao5 (z x:Str):Txt.join z [x]=x:=by
 show Builtin.Str.glued z _=_
 rw [StrLaws.glued_eq_join];rfl
theorem as7 (a b:Str):(a++b).cps.toList=a.cps.toList++b.cps.toList:=Array.toList_append ..
theorem bl5 (n:Int):("hands " : Str)++num n.toNat=line "hands" [n]:=by
 rw [ad2,List.map_cons,List.map_nil,Z3,ao5]
 refine congrArg (·++num n.toNat) ?_
 exact ad1 (by rw [as7];decide +kernel)
theorem bl6 (a b c:Int):("pass " : Str)++num a.toNat++" "++num b.toNat++" "++num c.toNat=line "pass" [a,b,c]:=by
 rw [ad2,List.map_cons,List.map_cons,List.map_cons,List.map_nil,Z3,Z3,Z3,ao5,ay5]
 have e:("pass " : Str)="pass"++one 32:=ad1 (by rw [as7];decide +kernel)
 rw [e]
 refine ad1 ?_
 simp only [as7,List.append_assoc]
theorem w4 {i:Int} (h:okN i):(num i.toNat).length<=9:=by
 unfold okN at h
 exact (j0 (by omega)).2
theorem law_text_ok {A:PHp} {n:Int} {ps:List (Int×Int)} {L:List Int} {f:Int×Int->Int} {q l d:Nat} {m:DT} (hq:A[q]?=some (.lst (pvs ps))) (hl:A[l]?=some (.lst (L.map .int))) (hd:A[d]?=some (.dT m)) (hm:∀p∈ps,N8 m (l2 p)=some (.int (f p))) (T:PTok n L (srt ps) f) :
 Wp (Q6 [.int n,.ref q,.ref l,.ref d]) A (λv A'=>v=.str (ab9 n L (srt ps) f)/\A<+:A') NoX:=by
 have hn:=T.n
 have hN:0<=n/\n<1000000000:=hn
 unfold Q6
 walk_at "fn"
 walk_at "go"
 refine⟨n.toNat,by rw [Int.toNat_of_nonneg hN.1],by omega,?_⟩
 have h6:("hands " : Str).length=6:=by decide +kernel
 refine w_addS (lim_le (by have:=w4 hn;omega)) ?_
 rw [bl5]
 walk_at "go"
 unfold f_law_text_c1
 have hl1:(A++[PO.lst [PV.str "leaders"]])[l]?=some (.lst (L.map .int)):=get_app_of hl
 have hLl:=T.Ll
 refine j3 L (λn=>.int n) (λn=>.str (num n.toNat)) (λσ=>∃x,σ=[x]) ?_
 walk_at "go"
 refine⟨by rw [fuel_lst hl1];simp,lim_le (by omega),⟨_,rfl⟩,λi B p=>aI6 hl1 p i,?_,λB hB=>?_⟩
 ·rintro x σ B hx ⟨y,rfl⟩ _
  walk_at "go"
  refine⟨rfl,⟨_,rfl⟩,?_⟩
  walk_at "go"
  have:=T.hL x hx
  unfold okN at this
  exact⟨x.toNat,by rw [Int.toNat_of_nonneg this.1],by omega,rfl,List.prefix_refl _⟩
 have pB:A<+:B:=(List.prefix_append _ _).trans hB
 refine aD2 (get_app_of (pre_get hB C7)) C7 (lim_le (by simp;omega)) ?_
 refine⟨_,("leaders" : Str)::L.map λn=>num n.toNat,rfl,by rw [C7,List.map_cons,List.map_map];rfl,⟨by decide +kernel,?_⟩,?_⟩
 ·have:=aW0 (ai5 (k:="leaders") (by decide +kernel) T.hL)
  simp only [List.length_cons,List.length_map] at this ⊢
  omega
 rw [ay5,←ad2]
 generalize hC:B++[PO.lst (L.map λn=>PV.str (num n.toNat))]++_=C
 have pC:A<+:C:=by rw [←hC];exact E9 (E9 pB)
 walk_at "go"
 unfold f_law_text_l1
 have hqC:(C++[PO.lst [PV.str (line "hands" [n]),PV.str (line "leaders" L)]])[q]?=some (.lst (pvs ps)):=get_app_of (pre_get pC hq)
 have hlen:ps.length<64:=by have:=T.ql;rw [(srt_perm ps).length_eq] at this;exact this
 have hle:=i3 pC
 refine aD3 (λi σ B=>(∃x y,σ=[some (.int n),some (.ref q),some (.ref l),some (.ref d),some (.ref C.length),x,y])/\A<+:B/\B[C.length+1]?=some (.lst (pvs (srt ps)))/\B[C.length]?=some (.lst (((prows n L (srt ps) f).take (i+2)).map .str))) ?_
 walk_at "go"
 refine⟨_,_,_,rfl,hqC,n8 hlen,.inl ⟨_,_,rfl,D8 C7,?_⟩⟩
 refine⟨_,_,rfl,⟨⟨_,_,rfl⟩,E9 (E9 pC),get_appL (by simp),?_⟩,λi σ B hh=>D8 (by rw [List.length_append];exact hh.2.2.1),?_,?_⟩
 ·rw [List.append_assoc,List.getElem?_append_right (Nat.le_refl _)];simp [prows]
 ·rintro i v σ B hv ⟨⟨x,y,rfl⟩,pB,hS,hB⟩
  simp only [pvs,List.getElem?_map] at hv
  obtain⟨p,hp,rfl⟩:=Option.map_eq_some_iff.mp hv
  have hmem:p∈srt ps:=List.mem_of_getElem? hp
  have hmp:p∈ps:=(srt_perm ps).mem_iff.mp hmem
  obtain⟨o1,o2,o3⟩:=T.q p hmem
  have o1':0<=p.1/\p.1<1000000000:=o1
  have o2':0<=p.2/\p.2<1000000000:=o2
  have o3':0<=f p/\f p<1000000000:=o3
  have l1:=w4 o1
  have l2':=w4 o2
  have l3:=w4 o3
  have h5:("pass " : Str).length=5:=by decide +kernel
  have h1:(" " : Str).length=1:=by decide +kernel
  have la:∀a b:Str,(a++b).length=a.length+b.length:=λa b=>by
   show (a++b).cps.size=a.cps.size+b.cps.size
   rw [Str.cps_append,Array.size_append]
  have hdB:=pre_get pB hd
  have hv3:N8 m [p.1,p.2]=some (.int (f p)):=hm p hmp
  unfold m4
  dsimp only [pv]
  walk_at "go"
  refine⟨p.1.toNat,by rw [Int.toNat_of_nonneg o1'.1],by omega,w_addS (lim_le (by omega)) ?_⟩
  walk_at "go"
  refine w_addS (lim_le (by simp only [la];omega)) ?_
  walk_at "go"
  refine⟨p.2.toNat,by rw [Int.toNat_of_nonneg o2'.1],by omega,w_addS (lim_le (by simp only [la];omega)) ?_⟩
  walk_at "go"
  refine w_addS (lim_le (by simp only [la];omega)) ?_
  walk_at "go"
  refine⟨(f p).toNat,by rw [Int.toNat_of_nonneg o3'.1],by omega,w_addS (lim_le (by simp only [la];omega)) ?_⟩
  refine⟨_,hB,lim_lt (by simp [prows];have:=T.ql;omega),⟨_,_,rfl⟩,R9 pB hle,by rw [L0 (by omega)];exact hS,?_⟩
  rw [get_set hB,bl6]
  have e:(prows n L (srt ps) f)[i+2]?=some (ac3 f p):=by simp [prows,hp]
  have ts:(prows n L (srt ps) f).take (i+1+2)=(prows n L (srt ps) f).take (i+2)++[ac3 f p]:=by
   rw [show i+1+2=(i+2)+1 by omega,List.take_succ,e];rfl
  rw [ts,List.map_append];rfl
 ·rintro σ B ⟨⟨x,y,rfl⟩,pB,hS,hB⟩
  rw [pvs,List.length_map,List.take_of_length_le (by simp [prows])] at hB
  walk_at "go"
  exact⟨_,prows n L (srt ps) f,rfl,hB,⟨by decide +kernel,by have:=i0 T;omega⟩,by rw [aV9];rfl,pB⟩
end Ws
namespace Ws
open PySem
theorem ao6 (qs:List (Int×Int)) (f:Int×Int->Int):t3 (limD qs f):=λp hp=>by
 obtain⟨q,_,rfl⟩:=List.mem_map.mp hp
 rfl
theorem aW5 {qs ps:List (Int×Int)} {f g:Int×Int->Int} (h:qs.Perm ps) (nd:ps.Nodup) (e:∀p∈ps,f p=g p):ab2 (limD qs f) (limD ps g)=true:=by
 unfold ab2
 rw [Bool.and_eq_true]
 refine⟨by simp [limD,h.length_eq],List.all_eq_true.mpr λp hp=>?_⟩
 obtain⟨q,hq,rfl⟩:=List.mem_map.mp hp
 have hm:q∈ps:=h.mem_iff.mp hq
 dsimp only
 rw [U6 nd hm]
 simp [eqv,e q hm]
theorem right7 {A:PHp} {P w r:Nat} {n:Int} {ps qs:List (Int×Int)} {L:List Int} {f g:Int×Int->Int} {ll dl dk q l d:Nat} (H:PlanAt A P w r n qs L f ll dl dk) (hs:srt qs=srt ps) (W:Passings n ps) (hqp:qs.Perm ps) (hq:A[q]?=some (.lst (pvs ps))) (hl:A[l]?=some (.lst (L.map .int))) (hd:A[d]?=some (.dT (limD ps g))) (hdl:dl≠d) (hfg:∀p∈ps,f p=g p) (hLl:L.length<=6) :
 Wp (L7 [.ref P,.int n,.ref q,.ref l,.ref d]) A (λv A'=>v=.bl true/\A<+:A') NoX:=by
 unfold L7
 have hP:=H.ob
 have hw:=H.web.ob
 have hr:=H.web.ls
 have hls:=H.ls
 have hld:=H.ld
 walk_at "fn"
 walk_at "gb"
 refine⟨by decide,true,rfl,?_⟩
 walk_at "gb"
 refine⟨q,_,_,rfl,hq,n8 W.len,?_⟩
 rw [hs] at hr hld
 walk_at "gb"
 refine w_neD (get_app_of hld) (get_app_of hd) ⟨hdl,ao6 _ _,ao6 _ _⟩ ?_
 rw [aW5 (srt_perm ps) W.nd hfg]
 walk_at "gb"
 unfold f_law_right_c1
 have HB:=H.mono (List.prefix_append A [PO.lst (pvs (srt ps))])
 have hPB:=HB.ob
 have hqB:(A++[PO.lst (pvs (srt ps))])[q]?=some (.lst (pvs ps)):=get_app_of hq
 have hdB:(A++[PO.lst (pvs (srt ps))])[d]?=some (.dT (limD ps g)):=get_app_of hd
 refine ac9 (l:=pvs ps) (λσ=>∃y,σ=[y,some (.ref P),some (.ref d)]) (λ_=>false) (λv=>v) ?_
 walk_at "go"
 refine⟨_,fuel_lst hqB,Nat.le_refl _,lim_le (by rw [pvs,List.length_map];have:=W.len;omega),⟨_,rfl⟩,λi=>ah3 hqB i,?_,?_⟩
 ·rintro v σ hv ⟨y,rfl⟩
  obtain⟨p,hp,rfl⟩:=List.mem_map.mp hv
  walk_at "go"
  refine⟨rfl,⟨_,rfl⟩,?_⟩
  have hkey:T6 (pv p)=some (l2 p):=rfl
  have hval:=U6 (f:=g) W.nd hp
  walk_at "go"
  refine w_eq (limit_ok HB (hqp.nodup_iff.mpr W.nd) (hqp.mem_iff.mpr hp)) ?_
  walk_at "go"
  exact⟨rfl,by simp [hfg p hp],λz=>by simp [hfg p hp] at z⟩
 ·have e:((pvs ps).filter λ_=>false)=[]:=by simp
  rw [e]
  walk_at "gb"
  refine w_eqIs (l:=[]) (m:=[]) (get_app_of C7) C7 ?_
  exact⟨rfl,E9 (E9 (List.prefix_append _ _))⟩
end Ws
namespace Ws
open PySem
theorem a53 {n:Int} {ps:List (Int×Int)} (W:Passings n ps):ps.length<=30:=by
 have h6:=W.hi
 have:=W.nd.length_le_of_subset (l₂:=((T3 6).map λa=>((T3 6).filter λb=>decide (a≠b)).map λb=>(a,b)).flatten) λp hp=>by
  have g:=W.good p hp
  unfold good at g
  refine List.mem_flatten.mpr ⟨_,List.mem_map.mpr ⟨p.1,mem_hands.mpr (by omega),rfl⟩,List.mem_map.mpr ⟨p.2,List.mem_filter.mpr ⟨mem_hands.mpr (by omega),decide_eq_true g.2.2⟩,rfl⟩⟩
 refine Nat.le_trans this ?_
 decide +kernel
theorem law_pure:∀ns:List Int,∃A',ay3 [.ref 0] [.ro (ns.map .int)]=.ok (.bl true) A':=by
 intro ns
 suffices h:Wp (ay3 [.ref 0]) [.ro (ns.map .int)] (λv _=>v=.bl true) NoX by
  unfold Wp at h
  cases e:ay3 [.ref 0] [.ro (ns.map .int)] with
  | ok v A'=>rw [e] at h;exact⟨A',by rw [show v=.bl true from h]⟩
  | ex c v A'=>rw [e] at h;exact h.elim
  | no=>rw [e] at h;exact h.elim
 have hA:([PO.ro (ns.map .int)]:PHp)[0]?=some (.ro (ns.map .int)):=rfl
 unfold ay3
 walk_at "fn"
 walk_at "gb"
 obtain⟨c0,e0⟩:=as4 hA 0
 refine w_eq e0 ?_
 walk_at "gb"
 obtain⟨n,ps,A1,q,e1,p1,hq,W,_⟩:=bg0 c0 [.ro (ns.map .int)]
 refine w_eq e1 ?_
 have hA1:=pre_get p1 hA
 have hl30:=a53 W
 have hn0:=W.lo
 have hn6:=W.hi
 walk_at "gb"
 obtain⟨c1,e2⟩:=as4 hA1 1
 refine w_eq e2 ?_
 walk_at "gb"
 obtain⟨N,rfl⟩:∃N:Nat,n=(N:Int):=⟨n.toNat,by rw [Int.toNat_of_nonneg (by omega)]⟩
 refine w_mono (aW4 (c:=c1) (N:=N) (by omega) (by omega)) λv A2 hh=>?_
 obtain⟨p2,L,l,rfl,hl,hLl,hle,_⟩:=hh
 have hq2:=pre_get p2 hq
 have hA2:=pre_get p2 hA1
 walk_at "gb"
 obtain⟨c2,e3⟩:=as4 hA2 2
 refine w_eq e3 ?_
 walk_at "gb"
 refine w_mono (limits7 (c:=c2) hq2 hl30 W.nd) λv A3 hh=>?_
 obtain⟨p3,g,d,rfl,hd,hg,hdl⟩:=hh
 have hq3:=pre_get p3 hq2
 have hl3:=pre_get p3 hl
 walk_at "gb"
 obtain⟨A4,r,e4,p4,W4,hr4⟩:=ah6 W (A:=A3++[PO.lst (pvs ps)]) (q:=A3.length) C7
 refine w_eq e4 ?_
 have q4:A3<+:A4:=(List.prefix_append _ _).trans p4
 have hl4:=pre_get q4 hl3
 have hd4:=pre_get q4 hd
 have hcp:((limD ps g).map (·.1)).Nodup/\∀p∈limD ps g,p.1∈small:=⟨as5 W.nd,ai1 (n:=(N:Int)) W.hi W.good⟩
 walk_at "gb"
 have W5:=(W4.mono (E9 (o:=PO.lst (L.map .int)) (List.prefix_refl A4))).mono (E9 (o:=PO.dT (limD ps g)) (List.prefix_refl _))
 have hAll:∀p∈ps,∃z,0<=z/\N8 (limD ps g) (l2 p)=some (.int z):=λp hp=>⟨g p,(hg p).1,U6 W.nd hp⟩
 refine w_mono (ao0 (l:=A4.length) W5 (get_app_of C7) (by omega) (get_appL rfl) W hle hAll) λv A6 hh=>?_
 obtain⟨hv,p6,ll,dl,dk,HP,g1,g2,g3⟩:=hh
 have q6:A4<+:A6:=(List.prefix_append _ _).trans ((List.prefix_append _ _).trans p6)
 have hfg:∀p∈ps,limOf (limD ps g) p=g p:=λp hp=>by unfold limOf;rw [U6 W.nd hp]
 have hmem:∀p∈srt ps,p∈ps:=λp hp=>(srt_perm ps).mem_iff.mp hp
 have hLr:∀x∈L,okN x:=λx hx=>by
  have h1:=(lead_iff.mp hle).1
  rw [h1] at hx
  have:=mem_hands.mp (List.mem_filter.mp hx).1
  unfold okN;omega
 have T:PTok N L (srt ps) (limOf (limD ps g)):=⟨by unfold okN;omega,hLr,hLl,by rw [(srt_perm ps).length_eq];exact W.len,λp hp=>by
  have gd:=W.good p (hmem p hp)
  unfold good at gd
  refine⟨by unfold okN;omega,by unfold okN;omega,?_⟩
  rw [hfg p (hmem p hp)];exact hg p⟩
 walk_at "gb"
 refine w_mono (written_plan_ok HP W.nd T) λv A7 hh=>?_
 obtain⟨rfl,p7⟩:=hh
 have q7:A3<+:A7:=q4.trans (q6.trans p7)
 have hq7:=pre_get q7 hq3
 have hl7:=pre_get q7 hl3
 have hd7:=pre_get q7 hd
 walk_at "gb"
 refine w_mono (law_text_ok (f:=limOf (limD ps g)) hq7 hl7 hd7 (λp hp=>by rw [hfg p hp];exact U6 W.nd hp) T) λv A8 hh=>?_
 obtain⟨rfl,p8⟩:=hh
 walk_at "gb"
 refine w_mono (read_plan_ok W T hle A8) λv A9 hh=>?_
 obtain⟨P9,w9,r9,ll9,dl9,dk9,rfl,HP9,p9,hdl9⟩:=hh
 have q9:A3<+:A9:=q7.trans (p8.trans p9)
 have hf9:∀p∈ps,limOf (limD (srt ps) (limOf (limD ps g))) p=g p:=λp hp=>by
  unfold limOf;rw [U6 (srt_nd W.nd) ((srt_perm ps).mem_iff.mpr hp)];exact hfg p hp
 have hdlt:=y6 hd7
 have hlen8:=i3 p8
 walk_at "gb"
 refine w_mono (right7 HP9 (srt_srt W.nd) W (srt_perm ps) (pre_get q9 hq3) (pre_get q9 hl3) (pre_get q9 hd) (by omega) hf9 hLl) λv A10 hh=>?_
 obtain⟨rfl,p10⟩:=hh
 walk_at "gb"
 have HP10:=HP9.mono p10
 have T9:PTok N L (srt (srt ps)) (limOf (limD (srt ps) (limOf (limD ps g)))):=by
  rw [srt_srt W.nd]
  exact⟨T.n,T.hL,T.Ll,T.ql,λp hp=>⟨(T.q p hp).1,(T.q p hp).2.1,by rw [hf9 p (hmem p hp)];exact hg p⟩⟩
 refine w_mono (written_plan_ok HP10 (srt_nd W.nd) T9) λv A11 hh=>?_
 obtain⟨rfl,p11⟩:=hh
 have et:ab9 N L (srt (srt ps)) (limOf (limD (srt ps) (limOf (limD ps g))))=ab9 N L (srt ps) (limOf (limD ps g)):=by
  rw [srt_srt W.nd]
  unfold ab9 prows
  have:(srt ps).map (ac3 (limOf (limD (srt ps) (limOf (limD ps g)))))=(srt ps).map (ac3 (limOf (limD ps g))):=List.map_congr_left λp hp=>by
   unfold ac3;rw [hf9 p (hmem p hp),hfg p (hmem p hp)]
  rw [this]
 rw [et]
 walk_at "gb"
 refine w_mono (read_plan_ok W T hle A11) λv A12 hh=>?_
 obtain⟨P12,w12,r12,ll12,dl12,dk12,rfl,HP12,p12,hdl12⟩:=hh
 have q12:A3<+:A12:=q9.trans (p10.trans (p11.trans p12))
 have h11:=i3 (p9.trans (p10.trans p11))
 walk_at "gb"
 refine w_mono (right7 HP12 (srt_srt W.nd) W (srt_perm ps) (pre_get q12 hq3) (pre_get q12 hl3) (pre_get q12 hd) (by omega) hf9 hLl) λv A13 hh=>?_
 obtain⟨rfl,p13⟩:=hh
 rfl
end Ws
namespace Ws
open PySem
structure aD8 (mg:Str->Option Value):Prop where
 g_FEWEST_HANDS:∃t,mg "FEWEST_HANDS" = some (.int 2 t)
 g_MOST_HANDS:∃t,mg "MOST_HANDS" = some (.int 6 t)
 g_HANDS:∃t,mg "HANDS" = some (.str "hands" t)
 g_LEADERS:∃t,mg "LEADERS" = some (.str "leaders" t)
 g_PASS:∃t,mg "PASS" = some (.str "pass" t)
 g_FIGURES:∃t,mg "FIGURES" = some (.str "0123456789" t)
 g_MOST_FIGURES:∃t,mg "MOST_FIGURES" = some (.int 9 t)
section
variable {P:Program} {w:World} {K:PySem.W.Frag} {mg:Str->Option Value} {base:Heap} {cm:Nat->Addr}
noncomputable def top (i:Nat):Stmt:=PySem.Challenge.pw_wordswap_k71_plans_written.main.body.getD i (.Pass ⟨0,0,0,0⟩)
theorem ay9:L2.D5 ["value"] ["value"] (L2.B9 (top 9)):=⟨rfl,rfl,rfl,by decide +kernel,rfl,by decide +kernel,by decide +kernel⟩
set_option maxHeartbeats 4000000 in
theorem az0 {fa:Addr} {fd:FuncData} (B:P7 K mg cm) (F:L2.Fun K "is_whole" "is_whole" (top 9) fa fd):L2.FnOk P w K mg base L2.CX0 (1) fa fd ["value"] (SpF K cm K3 1):=
 K5 F ay9 λcdv A outer s0 H E hr=>by
  have hu:=hr.units
  have hu1:=Nat.lt_of_le_of_lt (Nat.add_le_add_left (show 1<=64 by decide) _) hu
  exact (C6 (G5 (af2 (aF9 (t:=.int) B.kit (r_var (L2.pv 0)) rfl B.b_isinstance rfl B.b_int PyProof.Rows.boot_int) (z0 (bk1 (aF9 (t:=.bool) B.kit (r_var (L2.pv 0)) rfl B.b_isinstance rfl B.b_bool PyProof.Rows.boot_bool))))))
theorem aD9:L2.D5 ["number","value"] ["number","value"] (L2.B9 (top 10)):=⟨rfl,rfl,rfl,by decide +kernel,rfl,by decide +kernel,by decide +kernel⟩
set_option maxHeartbeats 4000000 in
theorem aE0 {fa:Addr} {fd:FuncData} (B:P7 K mg cm) (D_is_whole:Def P w K mg base cm "is_whole" 1 ["value"] K3 1) (F:L2.Fun K "is_hand" "is_hand" (top 10) fa fd):L2.FnOk P w K mg base L2.CX0 (2) fa fd ["number","value"] (SpF K cm L9 2):=
 K5 F aD9 λcdv A outer s0 H E hr=>by
  have hu:=hr.units
  have hu1:=Nat.lt_of_le_of_lt (Nat.add_le_add_left (show 1<=64 by decide) _) hu
  exact (C6 (G5 (af2 (C8 D_is_whole (by decide) hr rfl (r_cons (r_var (L2.pv 1)) r_nil)) (z0 (aF4 L2.au0 av6 L2.aE4 aF3 r_int (r_var (L2.pv 1)) (r_var (L2.pv 0)))))))
theorem d0:L2.D5 ["value"] ["value"] (L2.B9 (top 11)):=⟨rfl,rfl,rfl,by decide +kernel,rfl,by decide +kernel,by decide +kernel⟩
set_option maxHeartbeats 4000000 in
theorem d3 {fa:Addr} {fd:FuncData} (B:P7 K mg cm) (GL:aD8 mg) (D_is_whole:Def P w K mg base cm "is_whole" 1 ["value"] K3 1) (F:L2.Fun K "is_number_of_hands" "is_number_of_hands" (top 11) fa fd):L2.FnOk P w K mg base L2.CX0 (2) fa fd ["value"] (SpF K cm D7 1):=
 K5 F d0 λcdv A outer s0 H E hr=>by
  have hu:=hr.units
  have hu1:=Nat.lt_of_le_of_lt (Nat.add_le_add_left (show 1<=64 by decide) _) hu
  exact (C6 (G5 (af2 (C8 D_is_whole (by decide) hr rfl (r_cons (r_var (L2.pv 0)) r_nil)) (z0 (aF4 L2.au0 av6 L2.au0 av6 (aB9 rfl GL.g_FEWEST_HANDS) (r_var (L2.pv 0)) (aB9 rfl GL.g_MOST_HANDS))))))
theorem aj7:L2.D5 ["number","value"] ["number","value"] (L2.B9 (top 12)):=⟨rfl,rfl,rfl,by decide +kernel,rfl,by decide +kernel,by decide +kernel⟩
set_option maxHeartbeats 4000000 in
theorem aj8 {fa:Addr} {fd:FuncData} (B:P7 K mg cm) (D_is_hand:Def P w K mg base cm "is_hand" 2 ["number","value"] L9 2) (F:L2.Fun K "is_passing" "is_passing" (top 12) fa fd):L2.FnOk P w K mg base L2.CX0 (3) fa fd ["number","value"] (SpF K cm K1 2):=
 K5 F aj7 λcdv A outer s0 H E hr=>by
  have hu:=hr.units
  have hu1:=Nat.lt_of_le_of_lt (Nat.add_le_add_left (show 1<=64 by decide) _) hu
  exact (C1 (T1 (L2.PW.pt (U1 (N4 (N3 (aF9 (t:=.tuple) B.kit (r_var (L2.pv 1)) rfl B.b_isinstance rfl B.b_tuple PyProof.Rows.boot_tuple))) (R5 (J8 (R6 hu) Z6 (af3 (r_var (L2.pv 1)) rfl B.b_len) r_int (L2.G6 _)))))
 (C6 (G5 aB5))
 J3)
 (C6 (G5 (af2 (C8 D_is_hand (by decide) hr rfl (r_cons (r_var (L2.pv 0)) (r_cons (N9 (r_var (L2.pv 1)) r_int (λ_ _=>rfl)) r_nil))) (af2 (C8 D_is_hand (by decide) hr rfl (r_cons (r_var (L2.pv 0)) (r_cons (N9 (r_var (L2.pv 1)) r_int (λ_ _=>rfl)) r_nil))) (z0 (ab4 (R6 hu) Z6 (N9 (r_var (L2.pv 1)) r_int (λ_ _=>rfl)) (N9 (r_var (L2.pv 1)) r_int (λ_ _=>rfl)) (L2.G6 _))))))))
theorem sc_first_wrong_passing:L2.D5 ["number","passings","at","passing"] ["number","passings"] (L2.B9 (top 13)):=⟨rfl,rfl,rfl,by decide +kernel,rfl,by decide +kernel,by decide +kernel⟩
set_option maxHeartbeats 4000000 in
theorem Z4 {fa:Addr} {fd:FuncData} (B:P7 K mg cm) (D_is_passing:Def P w K mg base cm "is_passing" 3 ["number","value"] K1 2) (F:L2.Fun K "first_wrong_passing" "first_wrong_passing" (top 13) fa fd):L2.FnOk P w K mg base L2.CX0 (4) fa fd ["number","passings"] (SpF K cm E8 2):=
 K5 F sc_first_wrong_passing λcdv A outer s0 H E hr=>by
  have hu:=hr.units
  have hu1:=Nat.lt_of_le_of_lt (Nat.add_le_add_left (show 1<=64 by decide) _) hu
  exact (C1 (d7 PassesOwn.never rfl (bk6 rfl B.b_enumerate (r_var (L2.pv 1))) (g_tup rfl (g_cons (g_name (L2.pg_name (i:=2) sc_first_wrong_passing.nd rfl (.inl rfl))) (g_cons (g_name (L2.pg_name (i:=3) sc_first_wrong_passing.nd rfl (.inl rfl))) am0)))
 (C6 (T1 (L2.PW.pt (U1 (N4 (N3 (C8 D_is_passing (by decide) hr rfl (r_cons (r_var (L2.pv 0)) (r_cons (r_var (L2.pv 3)) r_nil))))) (R5 (J8 (bd7 hu) bk5 (r_var (L2.pv 3)) (r_cut (r_var (L2.pv 1)) r_lno (r_lat (r_var (L2.pv 2)))) (by rfl)))))
 (C6 (G5 (r_var (L2.pv 2))))
 J3)))
 (C6 (G5 r_non)))
theorem as8:L2.D5 ["numbers"] ["numbers"] (L2.B9 (top 16)):=⟨rfl,rfl,rfl,by decide +kernel,rfl,by decide +kernel,by decide +kernel⟩
set_option maxHeartbeats 4000000 in
theorem as9 {fa:Addr} {fd:FuncData} (B:P7 K mg cm) (F:L2.Fun K "is_rising" "is_rising" (top 16) fa fd):L2.FnOk P w K mg base L2.CX0 (1) fa fd ["numbers"] (SpF K cm N6 1):=
 K5 F as8 λcdv A outer s0 H E hr=>by
  have hu:=hr.units
  have hu1:=Nat.lt_of_le_of_lt (Nat.add_le_add_left (show 1<=64 by decide) _) hu
  exact (C6 (G5 (aH2 rfl (Y3 (N:=["low","high"]) [none,none] rfl (⟨rfl,rfl,by decide +kernel,by decide +kernel,J9,(C9 (λh=>nomatch h) (C9 (λh=>nomatch h) (C9 (λh=>nomatch h) J9)))⟩) (.own (.own .nil)) (bk9 (λ_ _=>nofun) rfl B.b_zip (r_var (L2.pv 0)) (r_cut (r_var (L2.pv 0)) (r_lat r_int) r_lno)) (λ_ _ _ _=>(g_tup rfl (g_cons (g_name (L2.pg_name (i:=0) (show List.Nodup (["low","high"]:List Str) from by decide +kernel) rfl (by first | exact Or.inl rfl | exact Or.inr rfl))) (g_cons (g_name (L2.pg_name (i:=1) (show List.Nodup (["low","high"]:List Str) from by decide +kernel) rfl (by first | exact Or.inl rfl | exact Or.inr rfl))) am0)))) (λ_ _ _ _=>Y2) (λ_ _ _ _=>(ab4 L2.aE4 aF3 (r_var (L2.pv 0)) (r_var (L2.pv 1)) (L2.G6 _)))) rfl B.b_all)))
theorem ai8:L2.D5 ["web","leaders"] ["web","leaders"] (L2.B9 (top 17)):=⟨rfl,rfl,rfl,by decide +kernel,rfl,by decide +kernel,by decide +kernel⟩
set_option maxHeartbeats 4000000 in
theorem ai9 {fa:Addr} {fd:FuncData} (B:P7 K mg cm) (D_is_rising:Def P w K mg base cm "is_rising" 1 ["numbers"] N6 1) (D_is_hand:Def P w K mg base cm "is_hand" 2 ["number","value"] L9 2) (F:L2.Fun K "are_leaders" "are_leaders" (top 17) fa fd):L2.FnOk P w K mg base L2.CX0 (3) fa fd ["web","leaders"] (SpF K cm I9 2):=
 K5 F ai8 λcdv A outer s0 H E hr=>by
  have hu:=hr.units
  have hu1:=Nat.lt_of_le_of_lt (Nat.add_le_add_left (show 1<=64 by decide) _) hu
  exact (C1 (T1 (L2.PW.pt (U1 (N4 (N3 (aF9 (t:=.list) B.kit (r_var (L2.pv 1)) rfl B.b_isinstance rfl B.b_list PyProof.Rows.boot_list))) (R5 (J8 (d9 hu) ab5 (r_var (L2.pv 1)) (V5 r_nil) (L2.G6 _)))))
 (C6 (G5 aB5))
 J3)
 (C6 (G5 (af2 (aH2 rfl (Y3 (N:=["h","web"]) [none,some 0] rfl (⟨rfl,rfl,by decide +kernel,by decide +kernel,(C9 rfl J9),(C9 (λh=>nomatch h) (C9 (λh=>nomatch h) (C9 (λh=>nomatch h) (C9 (λ_=>rfl) J9))))⟩) (.own (.free rfl (by first | exact Or.inl rfl | exact Or.inr rfl) (by first | exact Or.inl rfl | exact Or.inr (Or.inl rfl) | exact Or.inr (Or.inr rfl)) rfl (by first | exact Or.inl rfl | exact Or.inr rfl) .nil)) (j9 (r_var (L2.pv 1))) (λ_ _ _ _=>(g_name (L2.pg_name (i:=0) (show List.Nodup (["h","web"]:List Str) from by decide +kernel) rfl (by first | exact Or.inl rfl | exact Or.inr rfl)))) (λ_ _ _ _=>Y2) (λ_ _ _ _=>(C8 D_is_hand (by decide) hr rfl (r_cons (U2 (r_var (L2.pv 1)) (i:=0) rfl (by decide) B.cls (λc=>B.na c 0 (by decide))) (r_cons (r_var (L2.pv 0)) r_nil))))) rfl B.b_all) (z0 (C8 D_is_rising (by decide) hr rfl (r_cons (r_var (L2.pv 1)) r_nil)))))))
theorem az1:L2.D5 ["value"] ["value"] (L2.B9 (top 18)):=⟨rfl,rfl,rfl,by decide +kernel,rfl,by decide +kernel,by decide +kernel⟩
set_option maxHeartbeats 4000000 in
theorem az2 {fa:Addr} {fd:FuncData} (B:P7 K mg cm) (D_is_whole:Def P w K mg base cm "is_whole" 1 ["value"] K3 1) (F:L2.Fun K "is_limit" "is_limit" (top 18) fa fd):L2.FnOk P w K mg base L2.CX0 (2) fa fd ["value"] (SpF K cm Q5 1):=
 K5 F az1 λcdv A outer s0 H E hr=>by
  have hu:=hr.units
  have hu1:=Nat.lt_of_le_of_lt (Nat.add_le_add_left (show 1<=64 by decide) _) hu
  exact (C6 (G5 (af2 (C8 D_is_whole (by decide) hr rfl (r_cons (r_var (L2.pv 0)) r_nil)) (z0 (ab4 L2.bi5 bj7 (r_var (L2.pv 0)) r_int (L2.G6 _))))))
theorem sc_Plan_init:L2.D5 ["self","web","leaders","limits","kept","passing"] ["self","web","leaders","limits"] (L2.B9 (L2.E6 (top 19) 0)):=⟨rfl,rfl,rfl,by decide +kernel,rfl,by decide +kernel,by decide +kernel⟩
set_option maxHeartbeats 4000000 in
theorem at0 {fa:Addr} {fd:FuncData} (B:P7 K mg cm) (D_are_leaders:Def P w K mg base cm "are_leaders" 3 ["web","leaders"] I9 2) (D_is_limit:Def P w K mg base cm "is_limit" 2 ["value"] Q5 1) (F:L2.Fun K "__init__" "Plan.__init__" (L2.E6 (top 19) 0) fa fd):L2.FnOk P w K mg base L2.CX0 (4) fa fd ["self","web","leaders","limits"] (SpF K cm K2 4):=
 K5 F sc_Plan_init λcdv A outer s0 H E hr=>by
  have hu:=hr.units
  have hu1:=Nat.lt_of_le_of_lt (Nat.add_le_add_left (show 1<=64 by decide) _) hu
  exact (C1 (T1 (N4 (N3 (C8 D_are_leaders (by decide) hr rfl (r_cons (r_var (L2.pv 1)) (r_cons (r_var (L2.pv 2)) r_nil)))))
 (C6 S0)
 J3)
 (C1 (G9 (i:=4) sc_Plan_init.nd rfl (.inl rfl) aC5)
 (C1 (d7 PassesOwn.never rfl (j9 (U2 (r_var (L2.pv 1)) (i:=1) rfl (by decide) B.cls (λc=>B.na c 1 (by decide)))) (g_name (L2.pg_name (i:=5) sc_Plan_init.nd rfl (.inl rfl)))
 (C1 (T1 (N4 (N3 (C8 D_is_limit (by decide) hr rfl (r_cons (a34 hu1 (r_var (L2.pv 3)) (r_var (L2.pv 5))) r_nil))))
 (C6 S0)
 J3)
 (C6 (aC4 hu1 (r_var (L2.pv 4)) (r_var (L2.pv 5)) (as0 hu1 (r_var (L2.pv 3)) (r_var (L2.pv 5)) (λ_ _=>rfl))))))
 (C1 (af5 (r_var (L2.pv 0)) (r_var (L2.pv 1)) (i:=3) rfl (by decide) B.cls (λc=>B.na c 3 (by decide)))
 (C1 (af5 (r_var (L2.pv 0)) (af4 (r_var (L2.pv 2)) rfl B.b_list PyProof.Rows.boot_list) (i:=4) rfl (by decide) B.cls (λc=>B.na c 4 (by decide)))
 (C1 (af5 (r_var (L2.pv 0)) (aH4 (r_var (L2.pv 4)) rfl B.b_dict) (i:=5) rfl (by decide) B.cls (λc=>B.na c 5 (by decide)))
 (C1 (af5 (r_var (L2.pv 0)) (aL5 (r_var (L2.pv 2)) rfl B.b_tuple PyProof.Rows.boot_tuple) (i:=9) rfl (by decide) B.cls (λc=>B.na c 9 (by decide)))
 (C6 (af5 (r_var (L2.pv 0)) (r_var (L2.pv 4)) (i:=10) rfl (by decide) B.cls (λc=>B.na c 10 (by decide)))))))))))
theorem sc_Web_init:L2.D5 ["self","number","passings","wrong"] ["self","number","passings"] (L2.B9 (L2.E6 (top 14) 0)):=⟨rfl,rfl,rfl,by decide +kernel,rfl,by decide +kernel,by decide +kernel⟩
set_option maxHeartbeats 4000000 in
theorem az3 {fa:Addr} {fd:FuncData} (B:P7 K mg cm) (D_is_number_of_hands:Def P w K mg base cm "is_number_of_hands" 2 ["value"] D7 1) (D_first_wrong_passing:Def P w K mg base cm "first_wrong_passing" 4 ["number","passings"] E8 2) (F:L2.Fun K "__init__" "Web.__init__" (L2.E6 (top 14) 0) fa fd):L2.FnOk P w K mg base L2.CX0 (5) fa fd ["self","number","passings"] (SpF K cm H8 3):=
 K5 F sc_Web_init λcdv A outer s0 H E hr=>by
  have hu:=hr.units
  have hu1:=Nat.lt_of_le_of_lt (Nat.add_le_add_left (show 1<=64 by decide) _) hu
  exact (C1 (T1 (N4 (N3 (C8 D_is_number_of_hands (by decide) hr rfl (r_cons (r_var (L2.pv 1)) r_nil))))
 (C6 S0)
 J3)
 (C1 (G9 (i:=3) sc_Web_init.nd rfl (.inl rfl) (C8 D_first_wrong_passing (by decide) hr rfl (r_cons (r_var (L2.pv 1)) (r_cons (r_var (L2.pv 2)) r_nil))))
 (C1 (T1 (aZ7 (r_var (L2.pv 3)))
 (C6 S0)
 J3)
 (C1 (af5 (r_var (L2.pv 0)) (r_var (L2.pv 1)) (i:=0) rfl (by decide) B.cls (λc=>B.na c 0 (by decide)))
 (C6 (af5 (r_var (L2.pv 0)) (u7 hu (r_var (L2.pv 2)) rfl B.b_sorted) (i:=1) rfl (by decide) B.cls (λc=>B.na c 1 (by decide))))))))
theorem aj9:L2.D5 ["self","passing"] ["self","passing"] (L2.B9 (L2.E6 (top 19) 1)):=⟨rfl,rfl,rfl,by decide +kernel,rfl,by decide +kernel,by decide +kernel⟩
set_option maxHeartbeats 4000000 in
theorem ak0 {fa:Addr} {fd:FuncData} (B:P7 K mg cm) (F:L2.Fun K "limit" "Plan.limit" (L2.E6 (top 19) 1) fa fd):L2.FnOk P w K mg base L2.CX0 (1) fa fd ["self","passing"] (SpF K cm H9 2):=
 K5 F aj9 λcdv A outer s0 H E hr=>by
  have hu:=hr.units
  have hu1:=Nat.lt_of_le_of_lt (Nat.add_le_add_left (show 1<=64 by decide) _) hu
  exact (C6 (G5 (as0 hu1 (U2 (r_var (L2.pv 0)) (i:=10) rfl (by decide) B.cls (λc=>B.na c 10 (by decide))) (r_var (L2.pv 1)) (λ_ _=>rfl))))
theorem az4:L2.D5 ["word","numbers"] ["word","numbers"] (L2.B9 (top 26)):=⟨rfl,rfl,rfl,by decide +kernel,rfl,by decide +kernel,by decide +kernel⟩
set_option maxHeartbeats 4000000 in
theorem az5 {fa:Addr} {fd:FuncData} (B:P7 K mg cm) (BS:mg "str" = none) (F:L2.Fun K "in_words" "in_words" (top 26) fa fd):L2.FnOk P w K mg base L2.CX0 (1) fa fd ["word","numbers"] (SpF K cm J4 2):=
 K5 F az4 λcdv A outer s0 H E hr=>by
  have hu:=hr.units
  have hu1:=Nat.lt_of_le_of_lt (Nat.add_le_add_left (show 1<=64 by decide) _) hu
  exact (C6 (G5 (as1 W6 (E7 L5 P6 (V5 (r_cons (r_var (L2.pv 0)) r_nil)) (Y3 (N:=["number"]) [none] rfl (⟨rfl,rfl,by decide +kernel,by decide +kernel,J9,(C9 (λh=>nomatch h) (C9 (λh=>nomatch h) (C9 (λh=>nomatch h) J9)))⟩) (.own .nil) (j9 (r_var (L2.pv 1))) (λ_ _ _ _=>(g_name (L2.pg_name (i:=0) (show List.Nodup (["number"]:List Str) from by decide +kernel) rfl (by first | exact Or.inl rfl | exact Or.inr rfl)))) (λ_ _ _ _=>Y2) (λ_ _ _ _=>(aa2 (r_var (L2.pv 0)) rfl BS)))))))
theorem sc_written_plan:L2.D5 ["plan","rows","passing"] ["plan"] (L2.B9 (top 27)):=⟨rfl,rfl,rfl,by decide +kernel,rfl,by decide +kernel,by decide +kernel⟩
set_option maxHeartbeats 4000000 in
theorem ac4 {fa:Addr} {fd:FuncData} (B:P7 K mg cm) (GL:aD8 mg) (D_in_words:Def P w K mg base cm "in_words" 1 ["word","numbers"] J4 2) (D_Plan_limit:a04 P w K mg base cm 1 "limit" 1 ["self","passing"] H9 2) (F:L2.Fun K "written_plan" "written_plan" (top 27) fa fd):L2.FnOk P w K mg base L2.CX0 (2) fa fd ["plan"] (SpF K cm J5 1):=
 K5 F sc_written_plan λcdv A outer s0 H E hr=>by
  have hu:=hr.units
  have hu1:=Nat.lt_of_le_of_lt (Nat.add_le_add_left (show 1<=64 by decide) _) hu
  exact (C1 (G9 (i:=1) sc_written_plan.nd rfl (.inl rfl) (V5 (r_cons (C8 D_in_words (by decide) hr rfl (r_cons (Y6 rfl GL.g_HANDS) (r_cons (V5 (r_cons (U2 (U2 (r_var (L2.pv 0)) (i:=3) rfl (by decide) B.cls (λc=>B.na c 3 (by decide))) (i:=0) rfl (by decide) B.cls (λc=>B.na c 0 (by decide))) r_nil)) r_nil))) (r_cons (C8 D_in_words (by decide) hr rfl (r_cons (Y6 rfl GL.g_LEADERS) (r_cons (U2 (r_var (L2.pv 0)) (i:=9) rfl (by decide) B.cls (λc=>B.na c 9 (by decide))) r_nil))) r_nil))))
 (C1 (d7 PassesOwn.never rfl (j9 (U2 (U2 (r_var (L2.pv 0)) (i:=3) rfl (by decide) B.cls (λc=>B.na c 3 (by decide))) (i:=1) rfl (by decide) B.cls (λc=>B.na c 1 (by decide)))) (g_name (L2.pg_name (i:=2) sc_written_plan.nd rfl (.inl rfl)))
 (C6 (z5 (V6 (r_var (L2.pv 1)) (C8 D_in_words (by decide) hr rfl (r_cons (Y6 rfl GL.g_PASS) (r_cons (E7 L5 P6 (r_var (L2.pv 2)) (t7 (r_cons (aG0 D_Plan_limit (by decide) hr (B.cls _ (by decide)) (r_var (L2.pv 0)) (r_cons (r_var (L2.pv 2)) r_nil) (by decide +kernel)) r_nil))) r_nil)))))))
 (C6 (G5 (as1 W6 (r_var (L2.pv 1)))))))
theorem at1:L2.D5 ["word"] ["word"] (L2.B9 (top 28)):=⟨rfl,rfl,rfl,by decide +kernel,rfl,by decide +kernel,by decide +kernel⟩
set_option maxHeartbeats 4000000 in
theorem at2 {fa:Addr} {fd:FuncData} (B:P7 K mg cm) (GL:aD8 mg) (F:L2.Fun K "is_number" "is_number" (top 28) fa fd):L2.FnOk P w K mg base L2.CX0 (1) fa fd ["word"] (SpF K cm N7 1):=
 K5 F at1 λcdv A outer s0 H E hr=>by
  have hu:=hr.units
  have hu1:=Nat.lt_of_le_of_lt (Nat.add_le_add_left (show 1<=64 by decide) _) hu
  exact (C1 (T1 (L2.PW.pt (U1 (N4 (aR0 L2.au0 av6 L2.au0 av6 r_int (bf0 (r_var (L2.pv 0)) rfl B.b_len) (aB9 rfl GL.g_MOST_FIGURES))) (R5 (N4 (N3 (aH2 rfl (Y3 (N:=["sign"]) [none] rfl (⟨rfl,rfl,by decide +kernel,by decide +kernel,J9,(C9 (λh=>nomatch h) (C9 (λh=>nomatch h) (C9 (λh=>nomatch h) J9)))⟩) (.own .nil) (bl2 (r_var (L2.pv 0))) (λ_ _ _ _=>(g_name (L2.pg_name (i:=0) (show List.Nodup (["sign"]:List Str) from by decide +kernel) rfl (by first | exact Or.inl rfl | exact Or.inr rfl)))) (λ_ _ _ _=>Y2) (λ_ _ _ _=>(ab4 L2.aJ4 be8 (r_var (L2.pv 0)) (Y6 rfl GL.g_FIGURES) (by rfl)))) rfl B.b_all))))))
 (C6 (G5 aB5))
 J3)
 (C6 (G5 (bn6 (ab4 (d9 hu) ab5 (r_var (L2.pv 0)) W6 (L2.G6 _)) (bk0 (ab4 (R6 hu) Z6 (bl1 (r_var (L2.pv 0)) r_int (λ_ _=>rfl)) W6 (L2.G6 _)))))))
theorem ac5:L2.D5 ["words"] ["words"] (L2.B9 (top 29)):=⟨rfl,rfl,rfl,by decide +kernel,rfl,by decide +kernel,by decide +kernel⟩
set_option maxHeartbeats 4000000 in
theorem ac6 {fa:Addr} {fd:FuncData} (B:P7 K mg cm) (D_is_number:Def P w K mg base cm "is_number" 1 ["word"] N7 1) (F:L2.Fun K "read_numbers" "read_numbers" (top 29) fa fd):L2.FnOk P w K mg base L2.CX0 (2) fa fd ["words"] (SpF K cm K6 1):=
 K5 F ac5 λcdv A outer s0 H E hr=>by
  have hu:=hr.units
  have hu1:=Nat.lt_of_le_of_lt (Nat.add_le_add_left (show 1<=64 by decide) _) hu
  exact (C1 (T1 (N4 (N3 (aH2 rfl (Y3 (N:=["word"]) [none] rfl (⟨rfl,rfl,by decide +kernel,by decide +kernel,J9,(C9 (λh=>nomatch h) (C9 (λh=>nomatch h) (C9 (λh=>nomatch h) J9)))⟩) (.own .nil) (j9 (r_var (L2.pv 0))) (λ_ _ _ _=>(g_name (L2.pg_name (i:=0) (show List.Nodup (["word"]:List Str) from by decide +kernel) rfl (by first | exact Or.inl rfl | exact Or.inr rfl)))) (λ_ _ _ _=>Y2) (λ_ _ _ _=>(C8 D_is_number (by decide) hr rfl (r_cons (r_var (L2.pv 0)) r_nil)))) rfl B.b_all)))
 (C6 (G5 r_non))
 J3)
 (C6 (G5 (Y3 (N:=["word"]) [none] rfl (⟨rfl,rfl,by decide +kernel,by decide +kernel,J9,(C9 (λh=>nomatch h) (C9 (λh=>nomatch h) (C9 (λh=>nomatch h) J9)))⟩) (.own .nil) (j9 (r_var (L2.pv 0))) (λ_ _ _ _=>(g_name (L2.pg_name (i:=0) (show List.Nodup (["word"]:List Str) from by decide +kernel) rfl (by first | exact Or.inl rfl | exact Or.inr rfl)))) (λ_ _ _ _=>Y2) (λ_ _ _ _=>(bf1 (r_var (L2.pv 0)) rfl B.b_int))))))
theorem sc_numbers_behind:L2.D5 ["first","row","words"] ["first","row"] (L2.B9 (top 30)):=⟨rfl,rfl,rfl,by decide +kernel,rfl,by decide +kernel,by decide +kernel⟩
set_option maxHeartbeats 4000000 in
theorem w5 {fa:Addr} {fd:FuncData} (B:P7 K mg cm) (D_read_numbers:Def P w K mg base cm "read_numbers" 2 ["words"] K6 1) (F:L2.Fun K "numbers_behind" "numbers_behind" (top 30) fa fd):L2.FnOk P w K mg base L2.CX0 (3) fa fd ["first","row"] (SpF K cm E1 2):=
 K5 F sc_numbers_behind λcdv A outer s0 H E hr=>by
  have hu:=hr.units
  have hu1:=Nat.lt_of_le_of_lt (Nat.add_le_add_left (show 1<=64 by decide) _) hu
  exact (C1 (G9 (i:=2) sc_numbers_behind.nd rfl (.inl rfl) (aH6 (r_var (L2.pv 1)) W6))
 (C6 (G5 (bn7 (J8 (d9 hu) ab5 (N9 (r_var (L2.pv 2)) r_int (λ_ _=>rfl)) (r_var (L2.pv 0)) (L2.G6 _)) (C8 D_read_numbers (by decide) hr rfl (r_cons (r_cut (r_var (L2.pv 2)) (r_lat r_int) r_lno) r_nil)) r_non))))
theorem sc_read_hands:L2.D5 ["row","numbers"] ["row"] (L2.B9 (top 32)):=⟨rfl,rfl,rfl,by decide +kernel,rfl,by decide +kernel,by decide +kernel⟩
set_option maxHeartbeats 4000000 in
theorem ak1 {fa:Addr} {fd:FuncData} (B:P7 K mg cm) (GL:aD8 mg) (D_numbers_behind:Def P w K mg base cm "numbers_behind" 3 ["first","row"] E1 2) (D_is_number_of_hands:Def P w K mg base cm "is_number_of_hands" 2 ["value"] D7 1) (F:L2.Fun K "read_hands" "read_hands" (top 32) fa fd):L2.FnOk P w K mg base L2.CX0 (4) fa fd ["row"] (SpF K cm M0 1):=
 K5 F sc_read_hands λcdv A outer s0 H E hr=>by
  have hu:=hr.units
  have hu1:=Nat.lt_of_le_of_lt (Nat.add_le_add_left (show 1<=64 by decide) _) hu
  exact (C1 (G9 (i:=1) sc_read_hands.nd rfl (.inl rfl) (C8 D_numbers_behind (by decide) hr rfl (r_cons (Y6 rfl GL.g_HANDS) (r_cons (r_var (L2.pv 0)) r_nil))))
 (C1 (T1 (L2.PW.pt (U1 (aB6 (r_var (L2.pv 1))) (U1 (J8 (R6 hu) Z6 (af3 (r_var (L2.pv 1)) rfl B.b_len) r_int (L2.G6 _)) (R5 (N4 (N3 (C8 D_is_number_of_hands (by decide) hr rfl (r_cons (N9 (r_var (L2.pv 1)) r_int (λ_ _=>rfl)) r_nil))))))))
 (C6 S0)
 J3)
 (C6 (G5 (N9 (r_var (L2.pv 1)) r_int (λ_ _=>rfl))))))
theorem sc_read_leaders:L2.D5 ["number","row","leaders"] ["number","row"] (L2.B9 (top 33)):=⟨rfl,rfl,rfl,by decide +kernel,rfl,by decide +kernel,by decide +kernel⟩
set_option maxHeartbeats 4000000 in
theorem ac7 {fa:Addr} {fd:FuncData} (B:P7 K mg cm) (GL:aD8 mg) (D_numbers_behind:Def P w K mg base cm "numbers_behind" 3 ["first","row"] E1 2) (D_are_leaders:Def P w K mg base cm "are_leaders" 3 ["web","leaders"] I9 2) (D_Web_init:aw1 P w K mg base cm 0 "Web" 5 ["self","number","passings"] H8 3) (F:L2.Fun K "read_leaders" "read_leaders" (top 33) fa fd):L2.FnOk P w K mg base L2.CX0 (7) fa fd ["number","row"] (SpF K cm K7 2):=
 K5 F sc_read_leaders λcdv A outer s0 H E hr=>by
  have hu:=hr.units
  have hu1:=Nat.lt_of_le_of_lt (Nat.add_le_add_left (show 1<=64 by decide) _) hu
  exact (C1 (G9 (i:=2) sc_read_leaders.nd rfl (.inl rfl) (C8 D_numbers_behind (by decide) hr rfl (r_cons (Y6 rfl GL.g_LEADERS) (r_cons (r_var (L2.pv 1)) r_nil))))
 (C1 (T1 (L2.PW.pt (U1 (aB6 (r_var (L2.pv 2))) (R5 (N4 (N3 (C8 D_are_leaders (by decide) hr rfl (r_cons (u0 D_Web_init (by decide) hr rfl (r_cons (r_var (L2.pv 0)) (r_cons (V5 r_nil) r_nil))) (r_cons (r_var (L2.pv 2)) r_nil))))))))
 (C6 S0)
 J3)
 (C6 (G5 (r_var (L2.pv 2))))))
theorem sc_read_limits:L2.D5 ["number","rows","limits","last","at","row","numbers","passing"] ["number","rows"] (L2.B9 (top 34)):=⟨rfl,rfl,rfl,by decide +kernel,rfl,by decide +kernel,by decide +kernel⟩
set_option maxHeartbeats 4000000 in
theorem aj0 {fa:Addr} {fd:FuncData} (B:P7 K mg cm) (GL:aD8 mg) (D_numbers_behind:Def P w K mg base cm "numbers_behind" 3 ["first","row"] E1 2) (D_is_passing:Def P w K mg base cm "is_passing" 3 ["number","value"] K1 2) (F:L2.Fun K "read_limits" "read_limits" (top 34) fa fd):L2.FnOk P w K mg base L2.CX0 (4) fa fd ["number","rows"] (SpF K cm L3 2):=
 K5 F sc_read_limits λcdv A outer s0 H E hr=>by
  have hu:=hr.units
  have hu1:=Nat.lt_of_le_of_lt (Nat.add_le_add_left (show 1<=64 by decide) _) hu
  exact (C1 (G9 (i:=2) sc_read_limits.nd rfl (.inl rfl) aC5)
 (C1 (G9 (i:=3) sc_read_limits.nd rfl (.inl rfl) (t7 r_nil))
 (C1 (d7 PassesOwn.never rfl (bl3 (k:=3) (by decide) rfl B.b_enumerate (r_var (L2.pv 1)) r_int) (g_tup rfl (g_cons (g_name (L2.pg_name (i:=4) sc_read_limits.nd rfl (.inl rfl))) (g_cons (g_name (L2.pg_name (i:=5) sc_read_limits.nd rfl (.inl rfl))) am0)))
 (C1 (G9 (i:=6) sc_read_limits.nd rfl (.inl rfl) (C8 D_numbers_behind (by decide) hr rfl (r_cons (Y6 rfl GL.g_PASS) (r_cons (r_var (L2.pv 5)) r_nil))))
 (C1 (T1 (L2.PW.pt (U1 (aB6 (r_var (L2.pv 6))) (R5 (J8 (R6 hu) Z6 (af3 (r_var (L2.pv 6)) rfl B.b_len) r_int (L2.G6 _)))))
 (C6 S0)
 J3)
 (C1 (G9 (i:=7) sc_read_limits.nd rfl (.inl rfl) (t7 (r_cons (N9 (r_var (L2.pv 6)) r_int (λ_ _=>rfl)) (r_cons (N9 (r_var (L2.pv 6)) r_int (λ_ _=>rfl)) r_nil))))
 (C1 (T1 (L2.PW.pt (U1 (N4 (N3 (C8 D_is_passing (by decide) hr rfl (r_cons (r_var (L2.pv 0)) (r_cons (r_var (L2.pv 7)) r_nil))))) (R5 (J8 (bf4 hu) bf5 (r_var (L2.pv 7)) (r_var (L2.pv 3)) (L2.G6 _)))))
 (C6 S0)
 J3)
 (C1 (aC4 hu1 (r_var (L2.pv 2)) (r_var (L2.pv 7)) (N9 (r_var (L2.pv 6)) r_int (λ_ _=>rfl)))
 (C6 (G9 (i:=3) sc_read_limits.nd rfl (.inl rfl) (r_var (L2.pv 7))))))))))
 (C6 (G5 (r_var (L2.pv 2)))))))
theorem sc_read_plan:L2.D5 ["text","rows","number","leaders","limits"] ["text"] (L2.B9 (top 31)):=⟨rfl,rfl,rfl,by decide +kernel,rfl,by decide +kernel,by decide +kernel⟩
set_option maxHeartbeats 4000000 in
theorem at3 {fa:Addr} {fd:FuncData} (B:P7 K mg cm) (D_read_hands:Def P w K mg base cm "read_hands" 4 ["row"] M0 1) (D_read_leaders:Def P w K mg base cm "read_leaders" 7 ["number","row"] K7 2) (D_read_limits:Def P w K mg base cm "read_limits" 4 ["number","rows"] L3 2) (D_Plan_init:aw1 P w K mg base cm 1 "Plan" 4 ["self","web","leaders","limits"] K2 4) (D_Web_init:aw1 P w K mg base cm 0 "Web" 5 ["self","number","passings"] H8 3) (F:L2.Fun K "read_plan" "read_plan" (top 31) fa fd):L2.FnOk P w K mg base L2.CX0 (8) fa fd ["text"] (SpF K cm L6 1):=
 K5 F sc_read_plan λcdv A outer s0 H E hr=>by
  have hu:=hr.units
  have hu1:=Nat.lt_of_le_of_lt (Nat.add_le_add_left (show 1<=64 by decide) _) hu
  exact (C1 (G9 (i:=1) sc_read_plan.nd rfl (.inl rfl) (aH6 (r_var (L2.pv 0)) W6))
 (C1 (G9 (i:=2) sc_read_plan.nd rfl (.inl rfl) (C8 D_read_hands (by decide) hr rfl (r_cons (N9 (r_var (L2.pv 1)) r_int (λ_ _=>rfl)) r_nil)))
 (C1 (T1 (J8 (d9 hu) ab5 (af3 (r_var (L2.pv 1)) rfl B.b_len) r_int (L2.G6 _))
 (C6 S0)
 J3)
 (C1 (G9 (i:=3) sc_read_plan.nd rfl (.inl rfl) (C8 D_read_leaders (by decide) hr rfl (r_cons (r_var (L2.pv 2)) (r_cons (N9 (r_var (L2.pv 1)) r_int (λ_ _=>rfl)) r_nil))))
 (C1 (G9 (i:=4) sc_read_plan.nd rfl (.inl rfl) (C8 D_read_limits (by decide) hr rfl (r_cons (r_var (L2.pv 2)) (r_cons (r_cut (r_var (L2.pv 1)) (r_lat r_int) r_lno) r_nil))))
 (C6 (G5 (u0 D_Plan_init (by decide) hr rfl (r_cons (u0 D_Web_init (by decide) hr rfl (r_cons (r_var (L2.pv 2)) (r_cons (a43 rfl (r_var (L2.pv 4)) rfl B.b_list) r_nil))) (r_cons (r_var (L2.pv 3)) (r_cons (r_var (L2.pv 4)) r_nil)))))))))))
theorem aj1:L2.D5 ["_law_script","_law_k"] ["_law_script","_law_k"] (L2.B9 (top 36)):=⟨rfl,rfl,rfl,by decide +kernel,rfl,by decide +kernel,by decide +kernel⟩
set_option maxHeartbeats 4000000 in
theorem aj2 {fa:Addr} {fd:FuncData} (B:P7 K mg cm) (F:L2.Fun K "_law_cell_at" "_law_cell_at" (top 36) fa fd):L2.FnOk P w K mg base L2.CX0 (1) fa fd ["_law_script","_law_k"] (SpF K cm G8 2):=
 K5 F aj1 λcdv A outer s0 H E hr=>by
  have hu:=hr.units
  have hu1:=Nat.lt_of_le_of_lt (Nat.add_le_add_left (show 1<=64 by decide) _) hu
  exact (C1 (T1 (J8 L2.aE4 aF3 (r_var (L2.pv 1)) (af3 (r_var (L2.pv 0)) rfl B.b_len) (L2.G6 _))
 (C6 (G5 (N9 (r_var (L2.pv 0)) (r_var (L2.pv 1)) (λ_ _=>rfl))))
 J3)
 (C6 (G5 r_int)))
theorem sc_law_stream:L2.D5 ["_law_cell","_law_size","_law_found","_law_digits","_law_k","_law_number"] ["_law_cell","_law_size"] (L2.B9 (top 37)):=⟨rfl,rfl,rfl,by decide +kernel,rfl,by decide +kernel,by decide +kernel⟩
set_option maxHeartbeats 4000000 in
theorem ak2 {fa:Addr} {fd:FuncData} (B:P7 K mg cm) (F:L2.Fun K "_law_stream" "_law_stream" (top 37) fa fd):L2.FnOk P w K mg base L2.CX0 (1) fa fd ["_law_cell","_law_size"] (SpF K cm G3 2):=
 K5 F sc_law_stream λcdv A outer s0 H E hr=>by
  have hu:=hr.units
  have hu1:=Nat.lt_of_le_of_lt (Nat.add_le_add_left (show 1<=64 by decide) _) hu
  exact (C1 (G9 (i:=2) sc_law_stream.nd rfl (.inl rfl) (V5 r_nil))
 (C1 (T1 (J8 (d9 hu) ab5 (E7 L2.M3 M5 (r_var (L2.pv 0)) r_int) r_int (L2.G6 _))
 (C1 (G9 (i:=3) sc_law_stream.nd rfl (.inl rfl) (E7 L2.ap2 ar2 (r_var (L2.pv 0)) r_int))
 (C1 (d7 PassesOwn.never rfl (d8 rfl B.b_range (r_var (L2.pv 1))) (g_name (L2.pg_name (i:=4) sc_law_stream.nd rfl (.inl rfl)))
 (C1 (z5 (V6 (r_var (L2.pv 2)) (E7 L2.M3 M5 (r_var (L2.pv 3)) r_int)))
 (C6 (G9 (i:=3) sc_law_stream.nd rfl (.inl rfl) (E7 L2.ap2 ar2 (r_var (L2.pv 3)) r_int)))))
 (C6 (G5 (r_var (L2.pv 2))))))
 J3)
 (C1 (G9 (i:=5) sc_law_stream.nd rfl (.inl rfl) (E7 L2.M3 M5 (E7 L5 P6 (E7 L2.ap1 ar3 (r_var (L2.pv 0)) r_int) r_int) r_int))
 (C1 (d7 PassesOwn.never rfl (d8 rfl B.b_range (r_var (L2.pv 1))) (g_name (L2.pg_name (i:=4) sc_law_stream.nd rfl (.inl rfl)))
 (C1 (G9 (i:=5) sc_law_stream.nd rfl (.inl rfl) (E7 L2.M3 M5 (E7 L5 P6 (E7 L5 P6 (E7 L2.ap1 ar3 (r_var (L2.pv 5)) (E7 L5 P6 (E7 L2.ap2 ar2 (r_var (L2.pv 5)) r_int) r_int)) (r_var (L2.pv 4))) r_int) r_int))
 (C6 (z5 (V6 (r_var (L2.pv 2)) (r_var (L2.pv 5)))))))
 (C6 (G5 (r_var (L2.pv 2))))))))
theorem sc_law_web:L2.D5 ["_law_cell","_law_xs","_law_number","_law_order","_law_found","_law_k","_law_giver","_law_taker","_law_drawn","_law_cut"] ["_law_cell"] (L2.B9 (top 38)):=⟨rfl,rfl,rfl,by decide +kernel,rfl,by decide +kernel,by decide +kernel⟩
set_option maxHeartbeats 4000000 in
theorem aE1 {fa:Addr} {fd:FuncData} (B:P7 K mg cm) (D_law_stream:Def P w K mg base cm "_law_stream" 1 ["_law_cell","_law_size"] G3 2) (F:L2.Fun K "_law_web" "_law_web" (top 38) fa fd):L2.FnOk P w K mg base L2.CX0 (2) fa fd ["_law_cell"] (SpF K cm S6 1):=
 K5 F sc_law_web λcdv A outer s0 H E hr=>by
  have hu:=hr.units
  have hu1:=Nat.lt_of_le_of_lt (Nat.add_le_add_left (show 1<=64 by decide) _) hu
  exact (C1 (G9 (i:=1) sc_law_web.nd rfl (.inr rfl) (C8 D_law_stream (by decide) hr rfl (r_cons (r_var (L2.pv 0)) (r_cons r_int r_nil))))
 (C1 (G9 (i:=2) sc_law_web.nd rfl (.inl rfl) (E7 L5 P6 r_int (E7 L2.M3 M5 (N9 (r_var (L2.pv 1)) r_int (λ_ _=>rfl)) r_int)))
 (C1 (aS0 (N:=["_law_draw","_law_k"]) [none,none] rfl (⟨rfl,rfl,by decide +kernel,by decide +kernel,J9,(C9 (λh=>nomatch h) (C9 (λh=>nomatch h) (C9 (λh=>nomatch h) J9)))⟩) (.own (.own .nil)) (j9 (u7 hu (Y3 (N:=["_law_k","_law_xs"]) [none,some 1] rfl (⟨rfl,rfl,by decide +kernel,by decide +kernel,(C9 rfl J9),(C9 (λh=>nomatch h) (C9 (λh=>nomatch h) (C9 (λ_=>rfl) J9)))⟩) (.own (.free rfl (by first | exact Or.inl rfl | exact Or.inr rfl) (by first | exact Or.inl rfl | exact Or.inr (Or.inl rfl) | exact Or.inr (Or.inr rfl)) rfl (by first | exact Or.inl rfl | exact Or.inr rfl) .nil)) (d8 rfl B.b_range (r_var (L2.pv 2))) (λ_ _ _ _=>(g_name (L2.pg_name (i:=0) (show List.Nodup (["_law_k","_law_xs"]:List Str) from by decide +kernel) rfl (by first | exact Or.inl rfl | exact Or.inr rfl)))) (λ_ _ _ _=>Y2) (λ_ _ _ _=>(t7 (r_cons (N9 (r_var (L2.pv 1)) (E7 L5 P6 r_int (r_var (L2.pv 0))) (λ_ _=>rfl)) (r_cons (r_var (L2.pv 0)) r_nil))))) rfl B.b_sorted)) (λ_ _ _ _=>(g_tup rfl (g_cons (g_name (L2.pg_name (i:=0) (show List.Nodup (["_law_draw","_law_k"]:List Str) from by decide +kernel) rfl (by first | exact Or.inl rfl | exact Or.inr rfl))) (g_cons (g_name (L2.pg_name (i:=1) (show List.Nodup (["_law_draw","_law_k"]:List Str) from by decide +kernel) rfl (by first | exact Or.inl rfl | exact Or.inr rfl))) am0)))) (λ_ _ _ _=>Y2) (λ_ _ _ _=>(r_var (L2.pv 1))) (i:=3) sc_law_web.nd rfl (.inl rfl))
 (C1 (G9 (i:=4) sc_law_web.nd rfl (.inl rfl) (V5 r_nil))
 (C1 (T1 (J8 L2.bi4 bj6 (E7 L2.M3 M5 (N9 (r_var (L2.pv 1)) r_int (λ_ _=>rfl)) r_int) r_int (L2.G6 _))
 (C6 (d7 PassesOwn.never rfl (d8 rfl B.b_range (r_var (L2.pv 2))) (g_name (L2.pg_name (i:=5) sc_law_web.nd rfl (.inl rfl)))
 (C6 (z5 (V6 (r_var (L2.pv 4)) (t7 (r_cons (N9 (r_var (L2.pv 3)) (E7 L2.a98 bd2 (r_var (L2.pv 5)) r_int) (λ_ _=>rfl)) (r_cons (N9 (r_var (L2.pv 3)) (r_var (L2.pv 5)) (λ_ _=>rfl)) r_nil))))))))
 J3)
 (C1 (d7 PassesOwn.never rfl (d8 rfl B.b_range (r_var (L2.pv 2))) (g_name (L2.pg_name (i:=6) sc_law_web.nd rfl (.inl rfl)))
 (C6 (d7 PassesOwn.never rfl (d8 rfl B.b_range (r_var (L2.pv 2))) (g_name (L2.pg_name (i:=7) sc_law_web.nd rfl (.inl rfl)))
 (C1 (G9 (i:=8) sc_law_web.nd rfl (.inl rfl) (ab4 (d9 hu) ab5 (E7 L2.M3 M5 (N9 (r_var (L2.pv 1)) (E7 L5 P6 (E7 L2.ap1 ar3 r_int (r_var (L2.pv 6))) (r_var (L2.pv 7))) (λ_ _=>rfl)) (E7 L5 P6 r_int (E7 L2.M3 M5 (N9 (r_var (L2.pv 1)) r_int (λ_ _=>rfl)) r_int))) r_int (L2.G6 _)))
 (C6 (T1 (L2.PW.pt (aR1 (J8 (R6 hu) Z6 (r_var (L2.pv 6)) (r_var (L2.pv 7)) (L2.G6 _)) (aR1 (N3 (r_var (L2.pv 8))) (aZ8 (J8 (aK7 hu) aR6 (t7 (r_cons (r_var (L2.pv 6)) (r_cons (r_var (L2.pv 7)) r_nil))) (r_var (L2.pv 4)) (by rfl))))))
 (C6 (z5 (V6 (r_var (L2.pv 4)) (t7 (r_cons (r_var (L2.pv 6)) (r_cons (r_var (L2.pv 7)) r_nil))))))
 J3))))))
 (C1 (G9 (i:=9) sc_law_web.nd rfl (.inl rfl) (E7 L2.M3 M5 (N9 (r_var (L2.pv 1)) r_int (λ_ _=>rfl)) (E7 L5 P6 (af3 (r_var (L2.pv 4)) rfl B.b_len) r_int)))
 (C6 (G5 (t7 (r_cons (r_var (L2.pv 2)) (r_cons (E7 L5 P6 (r_cut (r_var (L2.pv 4)) (r_lat (r_var (L2.pv 9))) r_lno) (r_cut (r_var (L2.pv 4)) r_lno (r_lat (r_var (L2.pv 9))))) r_nil))))))))))))
theorem sc_law_leaders:L2.D5 ["_law_cell","_law_number","_law_xs","_law_found"] ["_law_cell","_law_number"] (L2.B9 (top 39)):=⟨rfl,rfl,rfl,by decide +kernel,rfl,by decide +kernel,by decide +kernel⟩
set_option maxHeartbeats 4000000 in
theorem aj3 {fa:Addr} {fd:FuncData} (B:P7 K mg cm) (D_law_stream:Def P w K mg base cm "_law_stream" 1 ["_law_cell","_law_size"] G3 2) (F:L2.Fun K "_law_leaders" "_law_leaders" (top 39) fa fd):L2.FnOk P w K mg base L2.CX0 (2) fa fd ["_law_cell","_law_number"] (SpF K cm L4 2):=
 K5 F sc_law_leaders λcdv A outer s0 H E hr=>by
  have hu:=hr.units
  have hu1:=Nat.lt_of_le_of_lt (Nat.add_le_add_left (show 1<=64 by decide) _) hu
  exact (C1 (G9 (i:=2) sc_law_leaders.nd rfl (.inr rfl) (C8 D_law_stream (by decide) hr rfl (r_cons (r_var (L2.pv 0)) (r_cons r_int r_nil))))
 (C1 (aS0 (N:=["_law_hand","_law_xs"]) [none,some 2] rfl (⟨rfl,rfl,by decide +kernel,by decide +kernel,(C9 rfl J9),(C9 (λh=>nomatch h) (C9 (λh=>nomatch h) (C9 (λ_=>rfl) J9)))⟩) (.own (.free rfl (by first | exact Or.inl rfl | exact Or.inr rfl) (by first | exact Or.inl rfl | exact Or.inr (Or.inl rfl) | exact Or.inr (Or.inr rfl)) rfl (by first | exact Or.inl rfl | exact Or.inr rfl) .nil)) (d8 rfl B.b_range (r_var (L2.pv 1))) (λ_ _ _ _=>(g_name (L2.pg_name (i:=0) (show List.Nodup (["_law_hand","_law_xs"]:List Str) from by decide +kernel) rfl (by first | exact Or.inl rfl | exact Or.inr rfl)))) (λ_ _ _ _=>(aR9 (J8 L2.aE4 aF3 (E7 L2.M3 M5 (N9 (r_var (L2.pv 1)) (r_var (L2.pv 0)) (λ_ _=>rfl)) r_int) (E7 L5 P6 r_int (E7 L2.M3 M5 (N9 (r_var (L2.pv 1)) r_int (λ_ _=>rfl)) r_int)) (L2.G6 _)))) (λ_ _ _ _=>(r_var (L2.pv 0))) (i:=3) sc_law_leaders.nd rfl (.inl rfl))
 (C1 (T1 (J8 (d9 hu) ab5 (r_var (L2.pv 3)) (V5 r_nil) (L2.G6 _))
 (C6 (G9 (i:=3) sc_law_leaders.nd rfl (.inl rfl) (V5 (r_cons (E7 L2.M3 M5 (N9 (r_var (L2.pv 2)) r_int (λ_ _=>rfl)) (r_var (L2.pv 1))) r_nil))))
 J3)
 (C6 (G5 (r_var (L2.pv 3)))))))
theorem sc_law_limits:L2.D5 ["_law_cell","_law_passings","_law_xs","_law_limits_here","_law_k"] ["_law_cell","_law_passings"] (L2.B9 (top 40)):=⟨rfl,rfl,rfl,by decide +kernel,rfl,by decide +kernel,by decide +kernel⟩
set_option maxHeartbeats 4000000 in
theorem ak3 {fa:Addr} {fd:FuncData} (B:P7 K mg cm) (D_law_stream:Def P w K mg base cm "_law_stream" 1 ["_law_cell","_law_size"] G3 2) (F:L2.Fun K "_law_limits" "_law_limits" (top 40) fa fd):L2.FnOk P w K mg base L2.CX0 (2) fa fd ["_law_cell","_law_passings"] (SpF K cm M2 2):=
 K5 F sc_law_limits λcdv A outer s0 H E hr=>by
  have hu:=hr.units
  have hu1:=Nat.lt_of_le_of_lt (Nat.add_le_add_left (show 1<=64 by decide) _) hu
  exact (C1 (G9 (i:=2) sc_law_limits.nd rfl (.inl rfl) (C8 D_law_stream (by decide) hr rfl (r_cons (r_var (L2.pv 0)) (r_cons r_int r_nil))))
 (C1 (G9 (i:=3) sc_law_limits.nd rfl (.inl rfl) aC5)
 (C1 (d7 PassesOwn.never rfl (d8 rfl B.b_range (af3 (r_var (L2.pv 1)) rfl B.b_len)) (g_name (L2.pg_name (i:=4) sc_law_limits.nd rfl (.inl rfl)))
 (C6 (aC4 hu1 (r_var (L2.pv 3)) (N9 (r_var (L2.pv 1)) (r_var (L2.pv 4)) (λ_ _=>rfl)) (N9 (V5 (r_cons (E7 L2.M3 M5 (N9 (r_var (L2.pv 2)) (r_var (L2.pv 4)) (λ_ _=>rfl)) r_int) (r_cons (E7 L2.M3 M5 (N9 (r_var (L2.pv 2)) (r_var (L2.pv 4)) (λ_ _=>rfl)) r_int) (r_cons (E7 L2.M3 M5 (E7 L2.ap1 ar3 (N9 (r_var (L2.pv 2)) (r_var (L2.pv 4)) (λ_ _=>rfl)) r_int) (E7 L2.a99 be5 r_int r_int)) r_nil)))) (E7 L2.M3 M5 (N9 (r_var (L2.pv 2)) r_int (λ_ _=>rfl)) r_int) (λ_ _=>rfl)))))
 (C6 (G5 (r_var (L2.pv 3)))))))
theorem sc_law_text:L2.D5 ["_law_number","_law_passings","_law_leaders_here","_law_limits_here","_law_rows","_law_giver","_law_taker"] ["_law_number","_law_passings","_law_leaders_here","_law_limits_here"] (L2.B9 (top 41)):=⟨rfl,rfl,rfl,by decide +kernel,rfl,by decide +kernel,by decide +kernel⟩
set_option maxHeartbeats 4000000 in
theorem az6 {fa:Addr} {fd:FuncData} (B:P7 K mg cm) (BS:mg "str" = none) (F:L2.Fun K "_law_text" "_law_text" (top 41) fa fd):L2.FnOk P w K mg base L2.CX0 (1) fa fd ["_law_number","_law_passings","_law_leaders_here","_law_limits_here"] (SpF K cm Q6 4):=
 K5 F sc_law_text λcdv A outer s0 H E hr=>by
  have hu:=hr.units
  have hu1:=Nat.lt_of_le_of_lt (Nat.add_le_add_left (show 1<=64 by decide) _) hu
  exact (C1 (G9 (i:=4) sc_law_text.nd rfl (.inl rfl) (V5 (r_cons (E7 L2.Q3 i8 W6 (aa2 (r_var (L2.pv 0)) rfl BS)) (r_cons (as1 W6 (E7 L5 P6 (V5 (r_cons W6 r_nil)) (Y3 (N:=["_law_hand"]) [none] rfl (⟨rfl,rfl,by decide +kernel,by decide +kernel,J9,(C9 (λh=>nomatch h) (C9 (λh=>nomatch h) (C9 (λh=>nomatch h) J9)))⟩) (.own .nil) (j9 (r_var (L2.pv 2))) (λ_ _ _ _=>(g_name (L2.pg_name (i:=0) (show List.Nodup (["_law_hand"]:List Str) from by decide +kernel) rfl (by first | exact Or.inl rfl | exact Or.inr rfl)))) (λ_ _ _ _=>Y2) (λ_ _ _ _=>(aa2 (r_var (L2.pv 0)) rfl BS))))) r_nil))))
 (C1 (d7 PassesOwn.never rfl (j9 (u7 hu (r_var (L2.pv 1)) rfl B.b_sorted)) (g_tup rfl (g_cons (g_name (L2.pg_name (i:=5) sc_law_text.nd rfl (.inl rfl))) (g_cons (g_name (L2.pg_name (i:=6) sc_law_text.nd rfl (.inl rfl))) am0)))
 (C6 (z5 (V6 (r_var (L2.pv 4)) (E7 L2.Q3 i8 (E7 L2.Q3 i8 (E7 L2.Q3 i8 (E7 L2.Q3 i8 (E7 L2.Q3 i8 W6 (aa2 (r_var (L2.pv 5)) rfl BS)) W6) (aa2 (r_var (L2.pv 6)) rfl BS)) W6) (aa2 (as0 hu1 (r_var (L2.pv 3)) (t7 (r_cons (r_var (L2.pv 5)) (r_cons (r_var (L2.pv 6)) r_nil))) (λ_ _=>rfl)) rfl BS))))))
 (C6 (G5 (as1 W6 (r_var (L2.pv 4)))))))
theorem at4:L2.D5 ["_law_plan","_law_number","_law_passings","_law_leaders_here","_law_limits_here"] ["_law_plan","_law_number","_law_passings","_law_leaders_here","_law_limits_here"] (L2.B9 (top 42)):=⟨rfl,rfl,rfl,by decide +kernel,rfl,by decide +kernel,by decide +kernel⟩
set_option maxHeartbeats 4000000 in
theorem at5 {fa:Addr} {fd:FuncData} (B:P7 K mg cm) (IG:be7 K cm [1]) (CN_Plan:mg "Plan" = some (.ref (cm 1))) (D_Plan_limit:a04 P w K mg base cm 1 "limit" 1 ["self","passing"] H9 2) (F:L2.Fun K "_law_right" "_law_right" (top 42) fa fd):L2.FnOk P w K mg base L2.CX0 (2) fa fd ["_law_plan","_law_number","_law_passings","_law_leaders_here","_law_limits_here"] (SpF K cm L7 5):=
 K5 F at4 λcdv A outer s0 H E hr=>by
  have hu:=hr.units
  have hu1:=Nat.lt_of_le_of_lt (Nat.add_le_add_left (show 1<=64 by decide) _) hu
  exact (C1 (T1 (L2.PW.pt (U1 (N4 (N3 (bl0 IG B.cls (by decide) (r_var (L2.pv 0)) rfl B.b_isinstance rfl CN_Plan))) (U1 (J8 (R6 hu) Z6 (U2 (U2 (r_var (L2.pv 0)) (i:=3) rfl (by decide) B.cls (λc=>B.na c 3 (by decide))) (i:=0) rfl (by decide) B.cls (λc=>B.na c 0 (by decide))) (r_var (L2.pv 1)) (L2.G6 _)) (R5 (J8 (R6 hu) Z6 (U2 (U2 (r_var (L2.pv 0)) (i:=3) rfl (by decide) B.cls (λc=>B.na c 3 (by decide))) (i:=1) rfl (by decide) B.cls (λc=>B.na c 1 (by decide))) (u7 hu (r_var (L2.pv 2)) rfl B.b_sorted) (L2.G6 _))))))
 (C6 (G5 aB5))
 J3)
 (C1 (T1 (L2.PW.pt (U1 (J8 (R6 hu) Z6 (U2 (r_var (L2.pv 0)) (i:=4) rfl (by decide) B.cls (λc=>B.na c 4 (by decide))) (r_var (L2.pv 3)) (L2.G6 _)) (R5 (J8 (bf2 hu) bf3 (U2 (r_var (L2.pv 0)) (i:=5) rfl (by decide) B.cls (λc=>B.na c 5 (by decide))) (r_var (L2.pv 4)) (L2.G6 _)))))
 (C6 (G5 aB5))
 J3)
 (C6 (G5 (ab4 (d9 hu) ab5 (Y3 (N:=["_law_pair","_law_plan","_law_limits_here"]) [none,some 0,some 4] rfl (⟨rfl,rfl,by decide +kernel,by decide +kernel,(C9 rfl (C9 rfl J9)),(C9 (λh=>nomatch h) (C9 (λh=>nomatch h) (C9 (λ_=>rfl) (C9 (λ_=>rfl) J9))))⟩) (.own (.free rfl (by first | exact Or.inl rfl | exact Or.inr rfl) (by first | exact Or.inl rfl | exact Or.inr (Or.inl rfl) | exact Or.inr (Or.inr rfl)) rfl (by first | exact Or.inl rfl | exact Or.inr rfl) (.free rfl (by first | exact Or.inl rfl | exact Or.inr rfl) (by first | exact Or.inl rfl | exact Or.inr (Or.inl rfl) | exact Or.inr (Or.inr rfl)) rfl (by first | exact Or.inl rfl | exact Or.inr rfl) .nil))) (j9 (r_var (L2.pv 2))) (λ_ _ _ _=>(g_name (L2.pg_name (i:=0) (show List.Nodup (["_law_pair","_law_plan","_law_limits_here"]:List Str) from by decide +kernel) rfl (by first | exact Or.inl rfl | exact Or.inr rfl)))) (λ_ _ _ _=>(aR9 (J8 (R6 hu) Z6 (aG0 D_Plan_limit (by decide) hr (B.cls _ (by decide)) (r_var (L2.pv 1)) (r_cons (r_var (L2.pv 0)) r_nil) (by decide +kernel)) (as0 hu1 (r_var (L2.pv 2)) (r_var (L2.pv 0)) (λ_ _=>rfl)) (L2.G6 _)))) (λ_ _ _ _=>(r_var (L2.pv 0)))) (V5 r_nil) (L2.G6 _))))))
theorem sc_law:L2.D5 ["_law_script","_law_number","_law_passings","_law_leaders_here","_law_limits_here","_law_plan","_law_text_here","_law_found"] ["_law_script"] (L2.B9 (top 43)):=⟨rfl,rfl,rfl,by decide +kernel,rfl,by decide +kernel,by decide +kernel⟩
set_option maxHeartbeats 4000000 in
theorem bg6 {fa:Addr} {fd:FuncData} (B:P7 K mg cm) (BS:mg "str" = none) (D_law_web:Def P w K mg base cm "_law_web" 2 ["_law_cell"] S6 1) (D_law_cell_at:Def P w K mg base cm "_law_cell_at" 1 ["_law_script","_law_k"] G8 2) (D_law_leaders:Def P w K mg base cm "_law_leaders" 2 ["_law_cell","_law_number"] L4 2) (D_law_limits:Def P w K mg base cm "_law_limits" 2 ["_law_cell","_law_passings"] M2 2) (D_Plan_init:aw1 P w K mg base cm 1 "Plan" 4 ["self","web","leaders","limits"] K2 4) (D_Web_init:aw1 P w K mg base cm 0 "Web" 5 ["self","number","passings"] H8 3) (D_written_plan:Def P w K mg base cm "written_plan" 2 ["plan"] J5 1) (D_law_text:Def P w K mg base cm "_law_text" 1 ["_law_number","_law_passings","_law_leaders_here","_law_limits_here"] Q6 4) (D_read_plan:Def P w K mg base cm "read_plan" 8 ["text"] L6 1) (D_law_right:Def P w K mg base cm "_law_right" 2 ["_law_plan","_law_number","_law_passings","_law_leaders_here","_law_limits_here"] L7 5) (F:L2.Fun K "law" "law" (top 43) fa fd):L2.FnOk P w K mg base L2.CX0 (9) fa fd ["_law_script"] (SpF K cm ay3 1):=
 K5 F sc_law λcdv A outer s0 H E hr=>by
  have hu:=hr.units
  have hu1:=Nat.lt_of_le_of_lt (Nat.add_le_add_left (show 1<=64 by decide) _) hu
  exact (C1 (bk2 (C8 D_law_web (by decide) hr rfl (r_cons (C8 D_law_cell_at (by decide) hr rfl (r_cons (r_var (L2.pv 0)) (r_cons r_int r_nil))) r_nil)) (g_tup rfl (g_cons (g_name (L2.pg_name (i:=1) sc_law.nd rfl (.inl rfl))) (g_cons (g_name (L2.pg_name (i:=2) sc_law.nd rfl (.inl rfl))) am0))))
 (C1 (G9 (i:=3) sc_law.nd rfl (.inl rfl) (C8 D_law_leaders (by decide) hr rfl (r_cons (C8 D_law_cell_at (by decide) hr rfl (r_cons (r_var (L2.pv 0)) (r_cons r_int r_nil))) (r_cons (r_var (L2.pv 1)) r_nil))))
 (C1 (G9 (i:=4) sc_law.nd rfl (.inl rfl) (C8 D_law_limits (by decide) hr rfl (r_cons (C8 D_law_cell_at (by decide) hr rfl (r_cons (r_var (L2.pv 0)) (r_cons r_int r_nil))) (r_cons (r_var (L2.pv 2)) r_nil))))
 (C1 (G9 (i:=5) sc_law.nd rfl (.inl rfl) (u0 D_Plan_init (by decide) hr rfl (r_cons (u0 D_Web_init (by decide) hr rfl (r_cons (r_var (L2.pv 1)) (r_cons (af4 (r_var (L2.pv 2)) rfl B.b_list PyProof.Rows.boot_list) r_nil))) (r_cons (af4 (r_var (L2.pv 3)) rfl B.b_list PyProof.Rows.boot_list) (r_cons (aH4 (r_var (L2.pv 4)) rfl B.b_dict) r_nil)))))
 (C1 (G9 (i:=6) sc_law.nd rfl (.inl rfl) (C8 D_written_plan (by decide) hr rfl (r_cons (r_var (L2.pv 5)) r_nil)))
 (C1 (T1 (L2.PW.pt (U1 (N4 (N3 (a39 (r_var (L2.pv 6)) rfl B.b_isinstance rfl BS))) (R5 (J8 (R6 hu) Z6 (r_var (L2.pv 6)) (C8 D_law_text (by decide) hr rfl (r_cons (r_var (L2.pv 1)) (r_cons (r_var (L2.pv 2)) (r_cons (r_var (L2.pv 3)) (r_cons (r_var (L2.pv 4)) r_nil))))) (L2.G6 _)))))
 (C6 (G5 aB5))
 J3)
 (C1 (G9 (i:=7) sc_law.nd rfl (.inl rfl) (C8 D_read_plan (by decide) hr rfl (r_cons (r_var (L2.pv 6)) r_nil)))
 (C1 (T1 (L2.PW.pt (U1 (N4 (N3 (C8 D_law_right (by decide) hr rfl (r_cons (r_var (L2.pv 7)) (r_cons (r_var (L2.pv 1)) (r_cons (r_var (L2.pv 2)) (r_cons (r_var (L2.pv 3)) (r_cons (r_var (L2.pv 4)) r_nil)))))))) (R5 (J8 (R6 hu) Z6 (C8 D_written_plan (by decide) hr rfl (r_cons (r_var (L2.pv 7)) r_nil)) (r_var (L2.pv 6)) (L2.G6 _)))))
 (C6 (G5 aB5))
 J3)
 (C6 (G5 (C8 D_law_right (by decide) hr rfl (r_cons (C8 D_read_plan (by decide) hr rfl (r_cons (r_var (L2.pv 6)) r_nil)) (r_cons (r_var (L2.pv 1)) (r_cons (r_var (L2.pv 2)) (r_cons (r_var (L2.pv 3)) (r_cons (r_var (L2.pv 4)) r_nil))))))))))))))))
end
theorem at6 {vs:List PV} {A A':PHp} {v:PV} (h:H8 vs A=.ok v A'):v=.non:=aS5 (M9 (ar8 i6 u8) (M9 aG7 (M9 (ar8 i6 u8) (M9 Y5 Y5)))) h
theorem ak4 {vs:List PV} {A A':PHp} {v:PV} (h:K2 vs A=.ok v A'):v=.non:=aS5 (M9 (ar8 i6 u8) (M9 aG7 (M9 (a40 (M9 (ar8 i6 u8) aT9)) (M9 Y5 (M9 Y5 (M9 Y5 (M9 Y5 Y5))))))) h
theorem bg7 {l:PySem.W.OpenLaw} {w:World} {K:PySem.W.Frag} {h:Heap} {mg:Str->Option Value} {fa:Addr} (X:K.In h) (G:h.Ns mainGlobals mg) (hfa:mg "law" = some (.ref fa))
 {C_Web:Addr}
 {C_Plan:Addr}
 {f0:Addr} {od0 an0:Option Addr} {sl0:Array (Option Value)} {oc0 kV0 dc0 pm0 cd0 ct0:Value}
 {f1:Addr} {od1 an1:Option Addr} {sl1:Array (Option Value)} {oc1 kV1 dc1 pm1 cd1 ct1:Value}
 {f2:Addr} {od2 an2:Option Addr} {sl2:Array (Option Value)} {oc2 kV2 dc2 pm2 cd2 ct2:Value}
 {f3:Addr} {od3 an3:Option Addr} {sl3:Array (Option Value)} {oc3 kV3 dc3 pm3 cd3 ct3:Value}
 {f4:Addr} {od4 an4:Option Addr} {sl4:Array (Option Value)} {oc4 kV4 dc4 pm4 cd4 ct4:Value}
 {f5:Addr} {od5 an5:Option Addr} {sl5:Array (Option Value)} {oc5 kV5 dc5 pm5 cd5 ct5:Value}
 {f6:Addr} {od6 an6:Option Addr} {sl6:Array (Option Value)} {oc6 kV6 dc6 pm6 cd6 ct6:Value}
 {f7:Addr} {od7 an7:Option Addr} {sl7:Array (Option Value)} {oc7 kV7 dc7 pm7 cd7 ct7:Value}
 {f8:Addr} {od8 an8:Option Addr} {sl8:Array (Option Value)} {oc8 kV8 dc8 pm8 cd8 ct8:Value}
 {f9:Addr} {od9 an9:Option Addr} {sl9:Array (Option Value)} {oc9 kV9 dc9 pm9 cd9 ct9:Value}
 {f10:Addr} {od10 an10:Option Addr} {sl10:Array (Option Value)} {oc10 kV10 dc10 pm10 cd10 ct10:Value}
 {f11:Addr} {od11 an11:Option Addr} {sl11:Array (Option Value)} {oc11 kV11 dc11 pm11 cd11 ct11:Value}
 {f12:Addr} {od12 an12:Option Addr} {sl12:Array (Option Value)} {oc12 kV12 dc12 pm12 cd12 ct12:Value}
 {f13:Addr} {od13 an13:Option Addr} {sl13:Array (Option Value)} {oc13 kV13 dc13 pm13 cd13 ct13:Value}
 {f14:Addr} {od14 an14:Option Addr} {sl14:Array (Option Value)} {oc14 kV14 dc14 pm14 cd14 ct14:Value}
 {f15:Addr} {od15 an15:Option Addr} {sl15:Array (Option Value)} {oc15 kV15 dc15 pm15 cd15 ct15:Value}
 {f16:Addr} {od16 an16:Option Addr} {sl16:Array (Option Value)} {oc16 kV16 dc16 pm16 cd16 ct16:Value}
 {f17:Addr} {od17 an17:Option Addr} {sl17:Array (Option Value)} {oc17 kV17 dc17 pm17 cd17 ct17:Value}
 {f18:Addr} {od18 an18:Option Addr} {sl18:Array (Option Value)} {oc18 kV18 dc18 pm18 cd18 ct18:Value}
 {f19:Addr} {od19 an19:Option Addr} {sl19:Array (Option Value)} {oc19 kV19 dc19 pm19 cd19 ct19:Value}
 {f20:Addr} {od20 an20:Option Addr} {sl20:Array (Option Value)} {oc20 kV20 dc20 pm20 cd20 ct20:Value}
 {f21:Addr} {od21 an21:Option Addr} {sl21:Array (Option Value)} {oc21 kV21 dc21 pm21 cd21 ct21:Value}
 {f22:Addr} {od22 an22:Option Addr} {sl22:Array (Option Value)} {oc22 kV22 dc22 pm22 cd22 ct22:Value}
 {f23:Addr} {od23 an23:Option Addr} {sl23:Array (Option Value)} {oc23 kV23 dc23 pm23 cd23 ct23:Value}
 {f24:Addr} {od24 an24:Option Addr} {sl24:Array (Option Value)} {oc24 kV24 dc24 pm24 cd24 ct24:Value}
 {f25:Addr} {od25 an25:Option Addr} {sl25:Array (Option Value)} {oc25 kV25 dc25 pm25 cd25 ct25:Value}
 {f26:Addr} {od26 an26:Option Addr} {sl26:Array (Option Value)} {oc26 kV26 dc26 pm26 cd26 ct26:Value}
 {f27:Addr} {od27 an27:Option Addr} {sl27:Array (Option Value)} {oc27 kV27 dc27 pm27 cd27 ct27:Value}
 {t_FEWEST_HANDS:Tok}
 {t_MOST_HANDS:Tok}
 {t_HANDS:Tok}
 {t_LEADERS:Tok}
 {t_PASS:Tok}
 {t_FIGURES:Tok}
 {t_MOST_FIGURES:Tok}
 (aC_Web:PySem.W.nsIn K mainGlobals "Web" = some (some (.ref C_Web)))
 (aC_Plan:PySem.W.nsIn K mainGlobals "Plan" = some (some (.ref C_Plan)))
 (a0:PySem.W.nsIn K mainGlobals "_law_stream" = some (some (.ref f0)))
 (l0:K.lookup f0=some ⟨oc0,od0,.func (PySem.W.fnOf "_law_stream" "_law_stream" (L2.C4 (top 37)) (L2.C2 (top 37)) (L2.B9 (top 37)) .none kV0 dc0 pm0 an0 cd0 ct0),sl0⟩)
 (c0:PySem.W.codeIn K cd0 "_law_stream" = true)
 (k0:PySem.W.keepIn K (.ref f0)=true)
 (a1:PySem.W.nsIn K mainGlobals "_law_web" = some (some (.ref f1)))
 (l1:K.lookup f1=some ⟨oc1,od1,.func (PySem.W.fnOf "_law_web" "_law_web" (L2.C4 (top 38)) (L2.C2 (top 38)) (L2.B9 (top 38)) .none kV1 dc1 pm1 an1 cd1 ct1),sl1⟩)
 (c1:PySem.W.codeIn K cd1 "_law_web" = true)
 (k1:PySem.W.keepIn K (.ref f1)=true)
 (a2:PySem.W.nsIn K mainGlobals "_law_cell_at" = some (some (.ref f2)))
 (l2:K.lookup f2=some ⟨oc2,od2,.func (PySem.W.fnOf "_law_cell_at" "_law_cell_at" (L2.C4 (top 36)) (L2.C2 (top 36)) (L2.B9 (top 36)) .none kV2 dc2 pm2 an2 cd2 ct2),sl2⟩)
 (c2:PySem.W.codeIn K cd2 "_law_cell_at" = true)
 (k2:PySem.W.keepIn K (.ref f2)=true)
 (a3:PySem.W.nsIn K mainGlobals "_law_leaders" = some (some (.ref f3)))
 (l3:K.lookup f3=some ⟨oc3,od3,.func (PySem.W.fnOf "_law_leaders" "_law_leaders" (L2.C4 (top 39)) (L2.C2 (top 39)) (L2.B9 (top 39)) .none kV3 dc3 pm3 an3 cd3 ct3),sl3⟩)
 (c3:PySem.W.codeIn K cd3 "_law_leaders" = true)
 (k3:PySem.W.keepIn K (.ref f3)=true)
 (a4:PySem.W.nsIn K mainGlobals "_law_limits" = some (some (.ref f4)))
 (l4:K.lookup f4=some ⟨oc4,od4,.func (PySem.W.fnOf "_law_limits" "_law_limits" (L2.C4 (top 40)) (L2.C2 (top 40)) (L2.B9 (top 40)) .none kV4 dc4 pm4 an4 cd4 ct4),sl4⟩)
 (c4:PySem.W.codeIn K cd4 "_law_limits" = true)
 (k4:PySem.W.keepIn K (.ref f4)=true)
 (a5:PySem.W.nsIn K mainGlobals "is_rising" = some (some (.ref f5)))
 (l5:K.lookup f5=some ⟨oc5,od5,.func (PySem.W.fnOf "is_rising" "is_rising" (L2.C4 (top 16)) (L2.C2 (top 16)) (L2.B9 (top 16)) .none kV5 dc5 pm5 an5 cd5 ct5),sl5⟩)
 (c5:PySem.W.codeIn K cd5 "is_rising" = true)
 (k5:PySem.W.keepIn K (.ref f5)=true)
 (a6:PySem.W.nsIn K mainGlobals "is_whole" = some (some (.ref f6)))
 (l6:K.lookup f6=some ⟨oc6,od6,.func (PySem.W.fnOf "is_whole" "is_whole" (L2.C4 (top 9)) (L2.C2 (top 9)) (L2.B9 (top 9)) .none kV6 dc6 pm6 an6 cd6 ct6),sl6⟩)
 (c6:PySem.W.codeIn K cd6 "is_whole" = true)
 (k6:PySem.W.keepIn K (.ref f6)=true)
 (a7:PySem.W.nsIn K mainGlobals "is_hand" = some (some (.ref f7)))
 (l7:K.lookup f7=some ⟨oc7,od7,.func (PySem.W.fnOf "is_hand" "is_hand" (L2.C4 (top 10)) (L2.C2 (top 10)) (L2.B9 (top 10)) .none kV7 dc7 pm7 an7 cd7 ct7),sl7⟩)
 (c7:PySem.W.codeIn K cd7 "is_hand" = true)
 (k7:PySem.W.keepIn K (.ref f7)=true)
 (a8:PySem.W.nsIn K mainGlobals "are_leaders" = some (some (.ref f8)))
 (l8:K.lookup f8=some ⟨oc8,od8,.func (PySem.W.fnOf "are_leaders" "are_leaders" (L2.C4 (top 17)) (L2.C2 (top 17)) (L2.B9 (top 17)) .none kV8 dc8 pm8 an8 cd8 ct8),sl8⟩)
 (c8:PySem.W.codeIn K cd8 "are_leaders" = true)
 (k8:PySem.W.keepIn K (.ref f8)=true)
 (a9:PySem.W.nsIn K mainGlobals "is_limit" = some (some (.ref f9)))
 (l9:K.lookup f9=some ⟨oc9,od9,.func (PySem.W.fnOf "is_limit" "is_limit" (L2.C4 (top 18)) (L2.C2 (top 18)) (L2.B9 (top 18)) .none kV9 dc9 pm9 an9 cd9 ct9),sl9⟩)
 (c9:PySem.W.codeIn K cd9 "is_limit" = true)
 (k9:PySem.W.keepIn K (.ref f9)=true)
 (a10:PySem.W.findIn K (.ref C_Plan) "__init__" = some (some (.ref f10)))
 (i10:PySem.W.isFn K (.ref f10)=true)
 (l10:K.lookup f10=some ⟨oc10,od10,.func (PySem.W.fnOf "__init__" "Plan.__init__" (L2.C4 (L2.E6 (top 19) 0)) (L2.C2 (L2.E6 (top 19) 0)) (L2.B9 (L2.E6 (top 19) 0)) .none kV10 dc10 pm10 an10 cd10 ct10),sl10⟩)
 (c10:PySem.W.codeIn K cd10 "Plan.__init__" = true)
 (k10:PySem.W.keepIn K (.ref f10)=true)
 (a11:PySem.W.nsIn K mainGlobals "is_number_of_hands" = some (some (.ref f11)))
 (l11:K.lookup f11=some ⟨oc11,od11,.func (PySem.W.fnOf "is_number_of_hands" "is_number_of_hands" (L2.C4 (top 11)) (L2.C2 (top 11)) (L2.B9 (top 11)) .none kV11 dc11 pm11 an11 cd11 ct11),sl11⟩)
 (c11:PySem.W.codeIn K cd11 "is_number_of_hands" = true)
 (k11:PySem.W.keepIn K (.ref f11)=true)
 (a12:PySem.W.nsIn K mainGlobals "is_passing" = some (some (.ref f12)))
 (l12:K.lookup f12=some ⟨oc12,od12,.func (PySem.W.fnOf "is_passing" "is_passing" (L2.C4 (top 12)) (L2.C2 (top 12)) (L2.B9 (top 12)) .none kV12 dc12 pm12 an12 cd12 ct12),sl12⟩)
 (c12:PySem.W.codeIn K cd12 "is_passing" = true)
 (k12:PySem.W.keepIn K (.ref f12)=true)
 (a13:PySem.W.nsIn K mainGlobals "first_wrong_passing" = some (some (.ref f13)))
 (l13:K.lookup f13=some ⟨oc13,od13,.func (PySem.W.fnOf "first_wrong_passing" "first_wrong_passing" (L2.C4 (top 13)) (L2.C2 (top 13)) (L2.B9 (top 13)) .none kV13 dc13 pm13 an13 cd13 ct13),sl13⟩)
 (c13:PySem.W.codeIn K cd13 "first_wrong_passing" = true)
 (k13:PySem.W.keepIn K (.ref f13)=true)
 (a14:PySem.W.findIn K (.ref C_Web) "__init__" = some (some (.ref f14)))
 (i14:PySem.W.isFn K (.ref f14)=true)
 (l14:K.lookup f14=some ⟨oc14,od14,.func (PySem.W.fnOf "__init__" "Web.__init__" (L2.C4 (L2.E6 (top 14) 0)) (L2.C2 (L2.E6 (top 14) 0)) (L2.B9 (L2.E6 (top 14) 0)) .none kV14 dc14 pm14 an14 cd14 ct14),sl14⟩)
 (c14:PySem.W.codeIn K cd14 "Web.__init__" = true)
 (k14:PySem.W.keepIn K (.ref f14)=true)
 (a15:PySem.W.nsIn K mainGlobals "in_words" = some (some (.ref f15)))
 (l15:K.lookup f15=some ⟨oc15,od15,.func (PySem.W.fnOf "in_words" "in_words" (L2.C4 (top 26)) (L2.C2 (top 26)) (L2.B9 (top 26)) .none kV15 dc15 pm15 an15 cd15 ct15),sl15⟩)
 (c15:PySem.W.codeIn K cd15 "in_words" = true)
 (k15:PySem.W.keepIn K (.ref f15)=true)
 (a16:PySem.W.findIn K (.ref C_Plan) "limit" = some (some (.ref f16)))
 (i16:PySem.W.isFn K (.ref f16)=true)
 (l16:K.lookup f16=some ⟨oc16,od16,.func (PySem.W.fnOf "limit" "Plan.limit" (L2.C4 (L2.E6 (top 19) 1)) (L2.C2 (L2.E6 (top 19) 1)) (L2.B9 (L2.E6 (top 19) 1)) .none kV16 dc16 pm16 an16 cd16 ct16),sl16⟩)
 (c16:PySem.W.codeIn K cd16 "Plan.limit" = true)
 (k16:PySem.W.keepIn K (.ref f16)=true)
 (a17:PySem.W.nsIn K mainGlobals "written_plan" = some (some (.ref f17)))
 (l17:K.lookup f17=some ⟨oc17,od17,.func (PySem.W.fnOf "written_plan" "written_plan" (L2.C4 (top 27)) (L2.C2 (top 27)) (L2.B9 (top 27)) .none kV17 dc17 pm17 an17 cd17 ct17),sl17⟩)
 (c17:PySem.W.codeIn K cd17 "written_plan" = true)
 (k17:PySem.W.keepIn K (.ref f17)=true)
 (a18:PySem.W.nsIn K mainGlobals "_law_text" = some (some (.ref f18)))
 (l18:K.lookup f18=some ⟨oc18,od18,.func (PySem.W.fnOf "_law_text" "_law_text" (L2.C4 (top 41)) (L2.C2 (top 41)) (L2.B9 (top 41)) .none kV18 dc18 pm18 an18 cd18 ct18),sl18⟩)
 (c18:PySem.W.codeIn K cd18 "_law_text" = true)
 (k18:PySem.W.keepIn K (.ref f18)=true)
 (a19:PySem.W.nsIn K mainGlobals "is_number" = some (some (.ref f19)))
 (l19:K.lookup f19=some ⟨oc19,od19,.func (PySem.W.fnOf "is_number" "is_number" (L2.C4 (top 28)) (L2.C2 (top 28)) (L2.B9 (top 28)) .none kV19 dc19 pm19 an19 cd19 ct19),sl19⟩)
 (c19:PySem.W.codeIn K cd19 "is_number" = true)
 (k19:PySem.W.keepIn K (.ref f19)=true)
 (a20:PySem.W.nsIn K mainGlobals "read_numbers" = some (some (.ref f20)))
 (l20:K.lookup f20=some ⟨oc20,od20,.func (PySem.W.fnOf "read_numbers" "read_numbers" (L2.C4 (top 29)) (L2.C2 (top 29)) (L2.B9 (top 29)) .none kV20 dc20 pm20 an20 cd20 ct20),sl20⟩)
 (c20:PySem.W.codeIn K cd20 "read_numbers" = true)
 (k20:PySem.W.keepIn K (.ref f20)=true)
 (a21:PySem.W.nsIn K mainGlobals "numbers_behind" = some (some (.ref f21)))
 (l21:K.lookup f21=some ⟨oc21,od21,.func (PySem.W.fnOf "numbers_behind" "numbers_behind" (L2.C4 (top 30)) (L2.C2 (top 30)) (L2.B9 (top 30)) .none kV21 dc21 pm21 an21 cd21 ct21),sl21⟩)
 (c21:PySem.W.codeIn K cd21 "numbers_behind" = true)
 (k21:PySem.W.keepIn K (.ref f21)=true)
 (a22:PySem.W.nsIn K mainGlobals "read_hands" = some (some (.ref f22)))
 (l22:K.lookup f22=some ⟨oc22,od22,.func (PySem.W.fnOf "read_hands" "read_hands" (L2.C4 (top 32)) (L2.C2 (top 32)) (L2.B9 (top 32)) .none kV22 dc22 pm22 an22 cd22 ct22),sl22⟩)
 (c22:PySem.W.codeIn K cd22 "read_hands" = true)
 (k22:PySem.W.keepIn K (.ref f22)=true)
 (a23:PySem.W.nsIn K mainGlobals "read_leaders" = some (some (.ref f23)))
 (l23:K.lookup f23=some ⟨oc23,od23,.func (PySem.W.fnOf "read_leaders" "read_leaders" (L2.C4 (top 33)) (L2.C2 (top 33)) (L2.B9 (top 33)) .none kV23 dc23 pm23 an23 cd23 ct23),sl23⟩)
 (c23:PySem.W.codeIn K cd23 "read_leaders" = true)
 (k23:PySem.W.keepIn K (.ref f23)=true)
 (a24:PySem.W.nsIn K mainGlobals "read_limits" = some (some (.ref f24)))
 (l24:K.lookup f24=some ⟨oc24,od24,.func (PySem.W.fnOf "read_limits" "read_limits" (L2.C4 (top 34)) (L2.C2 (top 34)) (L2.B9 (top 34)) .none kV24 dc24 pm24 an24 cd24 ct24),sl24⟩)
 (c24:PySem.W.codeIn K cd24 "read_limits" = true)
 (k24:PySem.W.keepIn K (.ref f24)=true)
 (a25:PySem.W.nsIn K mainGlobals "read_plan" = some (some (.ref f25)))
 (l25:K.lookup f25=some ⟨oc25,od25,.func (PySem.W.fnOf "read_plan" "read_plan" (L2.C4 (top 31)) (L2.C2 (top 31)) (L2.B9 (top 31)) .none kV25 dc25 pm25 an25 cd25 ct25),sl25⟩)
 (c25:PySem.W.codeIn K cd25 "read_plan" = true)
 (k25:PySem.W.keepIn K (.ref f25)=true)
 (a26:PySem.W.nsIn K mainGlobals "_law_right" = some (some (.ref f26)))
 (l26:K.lookup f26=some ⟨oc26,od26,.func (PySem.W.fnOf "_law_right" "_law_right" (L2.C4 (top 42)) (L2.C2 (top 42)) (L2.B9 (top 42)) .none kV26 dc26 pm26 an26 cd26 ct26),sl26⟩)
 (c26:PySem.W.codeIn K cd26 "_law_right" = true)
 (k26:PySem.W.keepIn K (.ref f26)=true)
 (a27:PySem.W.nsIn K mainGlobals "law" = some (some (.ref f27)))
 (l27:K.lookup f27=some ⟨oc27,od27,.func (PySem.W.fnOf "law" "law" (L2.C4 (top 43)) (L2.C2 (top 43)) (L2.B9 (top 43)) .none kV27 dc27 pm27 an27 cd27 ct27),sl27⟩)
 (c27:PySem.W.codeIn K cd27 "law" = true)
 (k27:PySem.W.keepIn K (.ref f27)=true)
 (pg_Web:PySem.W.plainGet K C_Web Str.empty=true)
 (hd_Web:PySem.W.hasDictIn K C_Web=true)
 (po_Web:PySem.W.plainOver K C_Web=true)
 (sa_Web:PySem.W.findIn K (.ref C_Web) "__setattr__" = some (some (.builtin "object.__setattr__")))
 (mk_Web:PySem.W.makesIn K C_Web=true)
 (kc_Web:PySem.W.keepIn K (.ref C_Web)=true)
 (n0_Web:PySem.W.findIn K (.ref C_Web) "number" = some none)
 (n1_Web:PySem.W.findIn K (.ref C_Web) "passings" = some none)
 (n2_Web:PySem.W.findIn K (.ref C_Web) "at" = some none)
 (n3_Web:PySem.W.findIn K (.ref C_Web) "web" = some none)
 (n4_Web:PySem.W.findIn K (.ref C_Web) "leaders" = some none)
 (n5_Web:PySem.W.findIn K (.ref C_Web) "limits" = some none)
 (n6_Web:PySem.W.findIn K (.ref C_Web) "plan" = some none)
 (n7_Web:PySem.W.findIn K (.ref C_Web) "free" = some none)
 (n8_Web:PySem.W.findIn K (.ref C_Web) "ledger" = some none)
 (n9_Web:PySem.W.findIn K (.ref C_Web) "kept_leaders" = some none)
 (n10_Web:PySem.W.findIn K (.ref C_Web) "kept_limits" = some none)
 (n11_Web:PySem.W.findIn K (.ref C_Web) "kept_free" = some none)
 (n12_Web:PySem.W.findIn K (.ref C_Web) "now" = some none)
 (n13_Web:PySem.W.findIn K (.ref C_Web) "turns_of_lays" = some none)
 (n14_Web:PySem.W.findIn K (.ref C_Web) "sayings" = some none)
 (n15_Web:PySem.W.findIn K (.ref C_Web) "first_turns" = some none)
 (n16_Web:PySem.W.findIn K (.ref C_Web) "does" = some none)
 (n17_Web:PySem.W.findIn K (.ref C_Web) "me" = some none)
 (n18_Web:PySem.W.findIn K (.ref C_Web) "open_boxes" = some none)
 (pg_Plan:PySem.W.plainGet K C_Plan Str.empty=true)
 (hd_Plan:PySem.W.hasDictIn K C_Plan=true)
 (po_Plan:PySem.W.plainOver K C_Plan=true)
 (sa_Plan:PySem.W.findIn K (.ref C_Plan) "__setattr__" = some (some (.builtin "object.__setattr__")))
 (mk_Plan:PySem.W.makesIn K C_Plan=true)
 (kc_Plan:PySem.W.keepIn K (.ref C_Plan)=true)
 (n0_Plan:PySem.W.findIn K (.ref C_Plan) "number" = some none)
 (n1_Plan:PySem.W.findIn K (.ref C_Plan) "passings" = some none)
 (n2_Plan:PySem.W.findIn K (.ref C_Plan) "at" = some none)
 (n3_Plan:PySem.W.findIn K (.ref C_Plan) "web" = some none)
 (n4_Plan:PySem.W.findIn K (.ref C_Plan) "leaders" = some none)
 (n5_Plan:PySem.W.findIn K (.ref C_Plan) "limits" = some none)
 (n6_Plan:PySem.W.findIn K (.ref C_Plan) "plan" = some none)
 (n7_Plan:PySem.W.findIn K (.ref C_Plan) "free" = some none)
 (n8_Plan:PySem.W.findIn K (.ref C_Plan) "ledger" = some none)
 (n9_Plan:PySem.W.findIn K (.ref C_Plan) "kept_leaders" = some none)
 (n10_Plan:PySem.W.findIn K (.ref C_Plan) "kept_limits" = some none)
 (n11_Plan:PySem.W.findIn K (.ref C_Plan) "kept_free" = some none)
 (n12_Plan:PySem.W.findIn K (.ref C_Plan) "now" = some none)
 (n13_Plan:PySem.W.findIn K (.ref C_Plan) "turns_of_lays" = some none)
 (n14_Plan:PySem.W.findIn K (.ref C_Plan) "sayings" = some none)
 (n15_Plan:PySem.W.findIn K (.ref C_Plan) "first_turns" = some none)
 (n16_Plan:PySem.W.findIn K (.ref C_Plan) "does" = some none)
 (n17_Plan:PySem.W.findIn K (.ref C_Plan) "me" = some none)
 (n18_Plan:PySem.W.findIn K (.ref C_Plan) "open_boxes" = some none)
 (xcg:PySem.W.specialIn K (.builtin "object.__class__") "__get__" = some (some (.builtin "getset_descriptor.__get__")))
 (xct:PySem.W.takesIn K (.builtin "object.__class__")=some true)
 (ci_Plan:PySem.W.findIn K (.ref C_Plan) "__class__" = some (some (.builtin "object.__class__")))
 (mi_Plan:PySem.W.mroIn K C_Plan (.type "object")=some true)
 (kt_Plan_Plan:PySem.W.kitOne K (.ref C_Plan) (.ref C_Plan)=some true)
 (g_FEWEST_HANDS:PySem.W.nsIn K mainGlobals "FEWEST_HANDS" = some (some (.int 2 t_FEWEST_HANDS)))
 (g_MOST_HANDS:PySem.W.nsIn K mainGlobals "MOST_HANDS" = some (some (.int 6 t_MOST_HANDS)))
 (g_HANDS:PySem.W.nsIn K mainGlobals "HANDS" = some (some (.str "hands" t_HANDS)))
 (g_LEADERS:PySem.W.nsIn K mainGlobals "LEADERS" = some (some (.str "leaders" t_LEADERS)))
 (g_PASS:PySem.W.nsIn K mainGlobals "PASS" = some (some (.str "pass" t_PASS)))
 (g_FIGURES:PySem.W.nsIn K mainGlobals "FIGURES" = some (some (.str "0123456789" t_FIGURES)))
 (g_MOST_FIGURES:PySem.W.nsIn K mainGlobals "MOST_FIGURES" = some (some (.int 9 t_MOST_FIGURES)))
 (z_str:PySem.W.nsIn K mainGlobals "str" = some none)
 (z_len:PySem.W.nsIn K mainGlobals "len" = some none)
 (z_range:PySem.W.nsIn K mainGlobals "range" = some none)
 (z_list:PySem.W.nsIn K mainGlobals "list" = some none)
 (z_sorted:PySem.W.nsIn K mainGlobals "sorted" = some none)
 (z_isinstance:PySem.W.nsIn K mainGlobals "isinstance" = some none)
 (z_int:PySem.W.nsIn K mainGlobals "int" = some none)
 (z_bool:PySem.W.nsIn K mainGlobals "bool" = some none)
 (z_tuple:PySem.W.nsIn K mainGlobals "tuple" = some none)
 (z_enumerate:PySem.W.nsIn K mainGlobals "enumerate" = some none)
 (z_reversed:PySem.W.nsIn K mainGlobals "reversed" = some none)
 (z_max:PySem.W.nsIn K mainGlobals "max" = some none)
 (z_min:PySem.W.nsIn K mainGlobals "min" = some none)
 (z_all:PySem.W.nsIn K mainGlobals "all" = some none)
 (z_any:PySem.W.nsIn K mainGlobals "any" = some none)
 (z_set:PySem.W.nsIn K mainGlobals "set" = some none)
 (z_zip:PySem.W.nsIn K mainGlobals "zip" = some none)
 (z_dict:PySem.W.nsIn K mainGlobals "dict" = some none) :
 ∃fd:FuncData,(∀(s:Shared) (v:Value),BindsTo s fd ⟨[v],[]⟩ [("_law_script",v)])/\∀base:Heap,K.In base->base.Ns mainGlobals mg->L2.FnOk l.prog w K mg base L2.CX0 9 fa fd ["_law_script"] (aG8 K):=by
 have e:=hfa.symm.trans (PySem.W.mg_of X G a27)
 cases e
 have B:P7 K mg (λi=>if i=1 then C_Plan else C_Web):=by
  refine⟨a07 K,λc h7=>?_,λc i hi h7=>?_,PySem.W.mg_none_of X G z_len,PySem.W.mg_none_of X G z_range,PySem.W.mg_none_of X G z_list,PySem.W.mg_none_of X G z_sorted,PySem.W.mg_none_of X G z_isinstance,PySem.W.mg_none_of X G z_int,PySem.W.mg_none_of X G z_bool,PySem.W.mg_none_of X G z_tuple,PySem.W.mg_none_of X G z_enumerate,PySem.W.mg_none_of X G z_reversed,PySem.W.mg_none_of X G z_max,PySem.W.mg_none_of X G z_min,PySem.W.mg_none_of X G z_all,PySem.W.mg_none_of X G z_any,PySem.W.mg_none_of X G z_set,PySem.W.mg_none_of X G z_zip,PySem.W.mg_none_of X G z_dict⟩
  ·by_cases h0:c=1;· subst h0;exact⟨pg_Plan,hd_Plan,po_Plan,sa_Plan⟩
   simp only [h0,if_false];exact⟨pg_Web,hd_Web,po_Web,sa_Web⟩
  ·by_cases h0:c=1;· subst h0;exact (match i,hi with | 0,_=>n0_Plan | 1,_=>n1_Plan | 2,_=>n2_Plan | 3,_=>n3_Plan | 4,_=>n4_Plan | 5,_=>n5_Plan | 6,_=>n6_Plan | 7,_=>n7_Plan | 8,_=>n8_Plan | 9,_=>n9_Plan | 10,_=>n10_Plan | 11,_=>n11_Plan | 12,_=>n12_Plan | 13,_=>n13_Plan | 14,_=>n14_Plan | 15,_=>n15_Plan | 16,_=>n16_Plan | 17,_=>n17_Plan | 18,_=>n18_Plan | i+19,hi=>absurd hi (by omega))
   simp only [h0,if_false];exact (match i,hi with | 0,_=>n0_Web | 1,_=>n1_Web | 2,_=>n2_Web | 3,_=>n3_Web | 4,_=>n4_Web | 5,_=>n5_Web | 6,_=>n6_Web | 7,_=>n7_Web | 8,_=>n8_Web | 9,_=>n9_Web | 10,_=>n10_Web | 11,_=>n11_Web | 12,_=>n12_Web | 13,_=>n13_Web | 14,_=>n14_Web | 15,_=>n15_Web | 16,_=>n16_Web | 17,_=>n17_Web | 18,_=>n18_Web | i+19,hi=>absurd hi (by omega))
 have GL:aD8 mg:=⟨⟨_,PySem.W.mg_of X G g_FEWEST_HANDS⟩,⟨_,PySem.W.mg_of X G g_MOST_HANDS⟩,⟨_,PySem.W.mg_of X G g_HANDS⟩,⟨_,PySem.W.mg_of X G g_LEADERS⟩,⟨_,PySem.W.mg_of X G g_PASS⟩,⟨_,PySem.W.mg_of X G g_FIGURES⟩,⟨_,PySem.W.mg_of X G g_MOST_FIGURES⟩⟩
 have F0:=L2.G4 (st:=(top 37)) l0 c0 k0
 have b0:=F0.binds (ps:=["_law_cell","_law_size"]) λ_ _ _ _ _ _ us hl=>match us,hl with | [_,_],_=>rfl
 have F1:=L2.G4 (st:=(top 38)) l1 c1 k1
 have b1:=F1.binds (ps:=["_law_cell"]) λ_ _ _ _ _ _ us hl=>match us,hl with | [_],_=>rfl
 have F2:=L2.G4 (st:=(top 36)) l2 c2 k2
 have b2:=F2.binds (ps:=["_law_script","_law_k"]) λ_ _ _ _ _ _ us hl=>match us,hl with | [_,_],_=>rfl
 have F3:=L2.G4 (st:=(top 39)) l3 c3 k3
 have b3:=F3.binds (ps:=["_law_cell","_law_number"]) λ_ _ _ _ _ _ us hl=>match us,hl with | [_,_],_=>rfl
 have F4:=L2.G4 (st:=(top 40)) l4 c4 k4
 have b4:=F4.binds (ps:=["_law_cell","_law_passings"]) λ_ _ _ _ _ _ us hl=>match us,hl with | [_,_],_=>rfl
 have F5:=L2.G4 (st:=(top 16)) l5 c5 k5
 have b5:=F5.binds (ps:=["numbers"]) λ_ _ _ _ _ _ us hl=>match us,hl with | [_],_=>rfl
 have F6:=L2.G4 (st:=(top 9)) l6 c6 k6
 have b6:=F6.binds (ps:=["value"]) λ_ _ _ _ _ _ us hl=>match us,hl with | [_],_=>rfl
 have F7:=L2.G4 (st:=(top 10)) l7 c7 k7
 have b7:=F7.binds (ps:=["number","value"]) λ_ _ _ _ _ _ us hl=>match us,hl with | [_,_],_=>rfl
 have F8:=L2.G4 (st:=(top 17)) l8 c8 k8
 have b8:=F8.binds (ps:=["web","leaders"]) λ_ _ _ _ _ _ us hl=>match us,hl with | [_,_],_=>rfl
 have F9:=L2.G4 (st:=(top 18)) l9 c9 k9
 have b9:=F9.binds (ps:=["value"]) λ_ _ _ _ _ _ us hl=>match us,hl with | [_],_=>rfl
 have F10:=L2.G4 (st:=(L2.E6 (top 19) 0)) l10 c10 k10
 have b10:=F10.binds (ps:=["self","web","leaders","limits"]) λ_ _ _ _ _ _ us hl=>match us,hl with | [_,_,_,_],_=>rfl
 have F11:=L2.G4 (st:=(top 11)) l11 c11 k11
 have b11:=F11.binds (ps:=["value"]) λ_ _ _ _ _ _ us hl=>match us,hl with | [_],_=>rfl
 have F12:=L2.G4 (st:=(top 12)) l12 c12 k12
 have b12:=F12.binds (ps:=["number","value"]) λ_ _ _ _ _ _ us hl=>match us,hl with | [_,_],_=>rfl
 have F13:=L2.G4 (st:=(top 13)) l13 c13 k13
 have b13:=F13.binds (ps:=["number","passings"]) λ_ _ _ _ _ _ us hl=>match us,hl with | [_,_],_=>rfl
 have F14:=L2.G4 (st:=(L2.E6 (top 14) 0)) l14 c14 k14
 have b14:=F14.binds (ps:=["self","number","passings"]) λ_ _ _ _ _ _ us hl=>match us,hl with | [_,_,_],_=>rfl
 have F15:=L2.G4 (st:=(top 26)) l15 c15 k15
 have b15:=F15.binds (ps:=["word","numbers"]) λ_ _ _ _ _ _ us hl=>match us,hl with | [_,_],_=>rfl
 have F16:=L2.G4 (st:=(L2.E6 (top 19) 1)) l16 c16 k16
 have b16:=F16.binds (ps:=["self","passing"]) λ_ _ _ _ _ _ us hl=>match us,hl with | [_,_],_=>rfl
 have F17:=L2.G4 (st:=(top 27)) l17 c17 k17
 have b17:=F17.binds (ps:=["plan"]) λ_ _ _ _ _ _ us hl=>match us,hl with | [_],_=>rfl
 have F18:=L2.G4 (st:=(top 41)) l18 c18 k18
 have b18:=F18.binds (ps:=["_law_number","_law_passings","_law_leaders_here","_law_limits_here"]) λ_ _ _ _ _ _ us hl=>match us,hl with | [_,_,_,_],_=>rfl
 have F19:=L2.G4 (st:=(top 28)) l19 c19 k19
 have b19:=F19.binds (ps:=["word"]) λ_ _ _ _ _ _ us hl=>match us,hl with | [_],_=>rfl
 have F20:=L2.G4 (st:=(top 29)) l20 c20 k20
 have b20:=F20.binds (ps:=["words"]) λ_ _ _ _ _ _ us hl=>match us,hl with | [_],_=>rfl
 have F21:=L2.G4 (st:=(top 30)) l21 c21 k21
 have b21:=F21.binds (ps:=["first","row"]) λ_ _ _ _ _ _ us hl=>match us,hl with | [_,_],_=>rfl
 have F22:=L2.G4 (st:=(top 32)) l22 c22 k22
 have b22:=F22.binds (ps:=["row"]) λ_ _ _ _ _ _ us hl=>match us,hl with | [_],_=>rfl
 have F23:=L2.G4 (st:=(top 33)) l23 c23 k23
 have b23:=F23.binds (ps:=["number","row"]) λ_ _ _ _ _ _ us hl=>match us,hl with | [_,_],_=>rfl
 have F24:=L2.G4 (st:=(top 34)) l24 c24 k24
 have b24:=F24.binds (ps:=["number","rows"]) λ_ _ _ _ _ _ us hl=>match us,hl with | [_,_],_=>rfl
 have F25:=L2.G4 (st:=(top 31)) l25 c25 k25
 have b25:=F25.binds (ps:=["text"]) λ_ _ _ _ _ _ us hl=>match us,hl with | [_],_=>rfl
 have F26:=L2.G4 (st:=(top 42)) l26 c26 k26
 have b26:=F26.binds (ps:=["_law_plan","_law_number","_law_passings","_law_leaders_here","_law_limits_here"]) λ_ _ _ _ _ _ us hl=>match us,hl with | [_,_,_,_,_],_=>rfl
 have F27:=L2.G4 (st:=(top 43)) l27 c27 k27
 refine⟨PySem.W.fnOf "law" "law" (L2.C4 (top 43)) (L2.C2 (top 43)) (L2.B9 (top 43)) .none kV27 dc27 pm27 an27 cd27 ct27,λs v=>.of_eq rfl,λbase _ _=>?_⟩
 have IG:be7 K (λi=>if i=1 then C_Plan else C_Web) [1]:=by
  refine⟨λc hc=>?_,xcg,xct,λc hc=>?_,λc hc k hk=>?_⟩
  ·simp only [List.mem_cons,List.not_mem_nil,or_false] at hc;rcases hc with rfl
   ·exact ci_Plan
  ·simp only [List.mem_cons,List.not_mem_nil,or_false] at hc;rcases hc with rfl
   ·exact mi_Plan
  ·simp only [List.mem_cons,List.not_mem_nil,or_false] at hc;rcases hc with rfl
   ·simp only [List.mem_cons,List.not_mem_nil,or_false] at hk;rcases hk with rfl
    ·exact kt_Plan_Plan
 have CN_Plan:mg "Plan" = some (.ref ((λi=>if i=1 then C_Plan else C_Web) 1)):=PySem.W.mg_of X G aC_Plan
 have BS:=PySem.W.mg_none_of X G z_str
 have O0:=ak2 (P:=l.prog) (w:=w) (base:=base) B F0
 have D_law_stream:Def l.prog w K mg base (λi=>if i=1 then C_Plan else C_Web) "_law_stream" 1 ["_law_cell","_law_size"] G3 2:=⟨⟨_,_,O0,PySem.W.mg_of X G a0,k0,b0⟩,λvs A v A' h=>G7 h⟩
 have O1:=aE1 (P:=l.prog) (w:=w) (base:=base) B D_law_stream F1
 have D_law_web:Def l.prog w K mg base (λi=>if i=1 then C_Plan else C_Web) "_law_web" 2 ["_law_cell"] S6 1:=⟨⟨_,_,O1,PySem.W.mg_of X G a1,k1,b1⟩,λvs A v A' h=>G7 h⟩
 have O2:=aj2 (P:=l.prog) (w:=w) (base:=base) B F2
 have D_law_cell_at:Def l.prog w K mg base (λi=>if i=1 then C_Plan else C_Web) "_law_cell_at" 1 ["_law_script","_law_k"] G8 2:=⟨⟨_,_,O2,PySem.W.mg_of X G a2,k2,b2⟩,λvs A v A' h=>G7 h⟩
 have O3:=aj3 (P:=l.prog) (w:=w) (base:=base) B D_law_stream F3
 have D_law_leaders:Def l.prog w K mg base (λi=>if i=1 then C_Plan else C_Web) "_law_leaders" 2 ["_law_cell","_law_number"] L4 2:=⟨⟨_,_,O3,PySem.W.mg_of X G a3,k3,b3⟩,λvs A v A' h=>G7 h⟩
 have O4:=ak3 (P:=l.prog) (w:=w) (base:=base) B D_law_stream F4
 have D_law_limits:Def l.prog w K mg base (λi=>if i=1 then C_Plan else C_Web) "_law_limits" 2 ["_law_cell","_law_passings"] M2 2:=⟨⟨_,_,O4,PySem.W.mg_of X G a4,k4,b4⟩,λvs A v A' h=>G7 h⟩
 have O5:=as9 (P:=l.prog) (w:=w) (base:=base) B F5
 have D_is_rising:Def l.prog w K mg base (λi=>if i=1 then C_Plan else C_Web) "is_rising" 1 ["numbers"] N6 1:=⟨⟨_,_,O5,PySem.W.mg_of X G a5,k5,b5⟩,λvs A v A' h=>G7 h⟩
 have O6:=az0 (P:=l.prog) (w:=w) (base:=base) B F6
 have D_is_whole:Def l.prog w K mg base (λi=>if i=1 then C_Plan else C_Web) "is_whole" 1 ["value"] K3 1:=⟨⟨_,_,O6,PySem.W.mg_of X G a6,k6,b6⟩,λvs A v A' h=>G7 h⟩
 have O7:=aE0 (P:=l.prog) (w:=w) (base:=base) B D_is_whole F7
 have D_is_hand:Def l.prog w K mg base (λi=>if i=1 then C_Plan else C_Web) "is_hand" 2 ["number","value"] L9 2:=⟨⟨_,_,O7,PySem.W.mg_of X G a7,k7,b7⟩,λvs A v A' h=>G7 h⟩
 have O8:=ai9 (P:=l.prog) (w:=w) (base:=base) B D_is_rising D_is_hand F8
 have D_are_leaders:Def l.prog w K mg base (λi=>if i=1 then C_Plan else C_Web) "are_leaders" 3 ["web","leaders"] I9 2:=⟨⟨_,_,O8,PySem.W.mg_of X G a8,k8,b8⟩,λvs A v A' h=>G7 h⟩
 have O9:=az2 (P:=l.prog) (w:=w) (base:=base) B D_is_whole F9
 have D_is_limit:Def l.prog w K mg base (λi=>if i=1 then C_Plan else C_Web) "is_limit" 2 ["value"] Q5 1:=⟨⟨_,_,O9,PySem.W.mg_of X G a9,k9,b9⟩,λvs A v A' h=>G7 h⟩
 have O10:=at0 (P:=l.prog) (w:=w) (base:=base) B D_are_leaders D_is_limit F10
 have D_Plan_init:aw1 l.prog w K mg base (λi=>if i=1 then C_Plan else C_Web) 1 "Plan" 4 ["self","web","leaders","limits"] K2 4:=⟨⟨_,_,O10,⟨mk_Plan,a10,i10,kc_Plan⟩,PySem.W.mg_of X G aC_Plan,b10⟩,λvs A v A' h=>⟨G7 h,ak4 h⟩⟩
 have O11:=d3 (P:=l.prog) (w:=w) (base:=base) B GL D_is_whole F11
 have D_is_number_of_hands:Def l.prog w K mg base (λi=>if i=1 then C_Plan else C_Web) "is_number_of_hands" 2 ["value"] D7 1:=⟨⟨_,_,O11,PySem.W.mg_of X G a11,k11,b11⟩,λvs A v A' h=>G7 h⟩
 have O12:=aj8 (P:=l.prog) (w:=w) (base:=base) B D_is_hand F12
 have D_is_passing:Def l.prog w K mg base (λi=>if i=1 then C_Plan else C_Web) "is_passing" 3 ["number","value"] K1 2:=⟨⟨_,_,O12,PySem.W.mg_of X G a12,k12,b12⟩,λvs A v A' h=>G7 h⟩
 have O13:=Z4 (P:=l.prog) (w:=w) (base:=base) B D_is_passing F13
 have D_first_wrong_passing:Def l.prog w K mg base (λi=>if i=1 then C_Plan else C_Web) "first_wrong_passing" 4 ["number","passings"] E8 2:=⟨⟨_,_,O13,PySem.W.mg_of X G a13,k13,b13⟩,λvs A v A' h=>G7 h⟩
 have O14:=az3 (P:=l.prog) (w:=w) (base:=base) B D_is_number_of_hands D_first_wrong_passing F14
 have D_Web_init:aw1 l.prog w K mg base (λi=>if i=1 then C_Plan else C_Web) 0 "Web" 5 ["self","number","passings"] H8 3:=⟨⟨_,_,O14,⟨mk_Web,a14,i14,kc_Web⟩,PySem.W.mg_of X G aC_Web,b14⟩,λvs A v A' h=>⟨G7 h,at6 h⟩⟩
 have O15:=az5 (P:=l.prog) (w:=w) (base:=base) B BS F15
 have D_in_words:Def l.prog w K mg base (λi=>if i=1 then C_Plan else C_Web) "in_words" 1 ["word","numbers"] J4 2:=⟨⟨_,_,O15,PySem.W.mg_of X G a15,k15,b15⟩,λvs A v A' h=>G7 h⟩
 have O16:=ak0 (P:=l.prog) (w:=w) (base:=base) B F16
 have D_Plan_limit:a04 l.prog w K mg base (λi=>if i=1 then C_Plan else C_Web) 1 "limit" 1 ["self","passing"] H9 2:=⟨⟨_,_,O16,⟨a16,i16,k16⟩,b16⟩,λvs A v A' h=>G7 h⟩
 have O17:=ac4 (P:=l.prog) (w:=w) (base:=base) B GL D_in_words D_Plan_limit F17
 have D_written_plan:Def l.prog w K mg base (λi=>if i=1 then C_Plan else C_Web) "written_plan" 2 ["plan"] J5 1:=⟨⟨_,_,O17,PySem.W.mg_of X G a17,k17,b17⟩,λvs A v A' h=>G7 h⟩
 have O18:=az6 (P:=l.prog) (w:=w) (base:=base) B BS F18
 have D_law_text:Def l.prog w K mg base (λi=>if i=1 then C_Plan else C_Web) "_law_text" 1 ["_law_number","_law_passings","_law_leaders_here","_law_limits_here"] Q6 4:=⟨⟨_,_,O18,PySem.W.mg_of X G a18,k18,b18⟩,λvs A v A' h=>G7 h⟩
 have O19:=at2 (P:=l.prog) (w:=w) (base:=base) B GL F19
 have D_is_number:Def l.prog w K mg base (λi=>if i=1 then C_Plan else C_Web) "is_number" 1 ["word"] N7 1:=⟨⟨_,_,O19,PySem.W.mg_of X G a19,k19,b19⟩,λvs A v A' h=>G7 h⟩
 have O20:=ac6 (P:=l.prog) (w:=w) (base:=base) B D_is_number F20
 have D_read_numbers:Def l.prog w K mg base (λi=>if i=1 then C_Plan else C_Web) "read_numbers" 2 ["words"] K6 1:=⟨⟨_,_,O20,PySem.W.mg_of X G a20,k20,b20⟩,λvs A v A' h=>G7 h⟩
 have O21:=w5 (P:=l.prog) (w:=w) (base:=base) B D_read_numbers F21
 have D_numbers_behind:Def l.prog w K mg base (λi=>if i=1 then C_Plan else C_Web) "numbers_behind" 3 ["first","row"] E1 2:=⟨⟨_,_,O21,PySem.W.mg_of X G a21,k21,b21⟩,λvs A v A' h=>G7 h⟩
 have O22:=ak1 (P:=l.prog) (w:=w) (base:=base) B GL D_numbers_behind D_is_number_of_hands F22
 have D_read_hands:Def l.prog w K mg base (λi=>if i=1 then C_Plan else C_Web) "read_hands" 4 ["row"] M0 1:=⟨⟨_,_,O22,PySem.W.mg_of X G a22,k22,b22⟩,λvs A v A' h=>G7 h⟩
 have O23:=ac7 (P:=l.prog) (w:=w) (base:=base) B GL D_numbers_behind D_are_leaders D_Web_init F23
 have D_read_leaders:Def l.prog w K mg base (λi=>if i=1 then C_Plan else C_Web) "read_leaders" 7 ["number","row"] K7 2:=⟨⟨_,_,O23,PySem.W.mg_of X G a23,k23,b23⟩,λvs A v A' h=>G7 h⟩
 have O24:=aj0 (P:=l.prog) (w:=w) (base:=base) B GL D_numbers_behind D_is_passing F24
 have D_read_limits:Def l.prog w K mg base (λi=>if i=1 then C_Plan else C_Web) "read_limits" 4 ["number","rows"] L3 2:=⟨⟨_,_,O24,PySem.W.mg_of X G a24,k24,b24⟩,λvs A v A' h=>G7 h⟩
 have O25:=at3 (P:=l.prog) (w:=w) (base:=base) B D_read_hands D_read_leaders D_read_limits D_Plan_init D_Web_init F25
 have D_read_plan:Def l.prog w K mg base (λi=>if i=1 then C_Plan else C_Web) "read_plan" 8 ["text"] L6 1:=⟨⟨_,_,O25,PySem.W.mg_of X G a25,k25,b25⟩,λvs A v A' h=>G7 h⟩
 have O26:=at5 (P:=l.prog) (w:=w) (base:=base) B IG CN_Plan D_Plan_limit F26
 have D_law_right:Def l.prog w K mg base (λi=>if i=1 then C_Plan else C_Web) "_law_right" 2 ["_law_plan","_law_number","_law_passings","_law_leaders_here","_law_limits_here"] L7 5:=⟨⟨_,_,O26,PySem.W.mg_of X G a26,k26,b26⟩,λvs A v A' h=>G7 h⟩
 have O27:=bg6 (P:=l.prog) (w:=w) (base:=base) B BS D_law_web D_law_cell_at D_law_leaders D_law_limits D_Plan_init D_Web_init D_written_plan D_law_text D_read_plan D_law_right F27
 exact O27.imp λvs H Q E q=>be2 law_pure vs H Q E q
end Ws
lay_quick PySem.Challenge.pw_wordswap_k71_plans_written
namespace Ws
open PySem PySem.W
set_option Elab.async false
set_option maxHeartbeats 0
noncomputable abbrev kps:List Nat:=[0,2,3,4,5,7,8,9,10,11,12,13,14,16,17,18,19,21,22,23,24,25,26,27,28,29,30,31,32,33,34,36,37,38,39,40,41,42,43]
noncomputable abbrev lse:List Str:=[]
noncomputable abbrev xt (p:Program) (s:Shared):Bool:=xlAt (view p kps) [] s&&recOk (RowW.records PySem.Challenge.rw_wordswap_k71_plans_written.row.toRowW) s
noncomputable def D3 (p:Program) (i:Nat):Stmt:=p.main.body.getD i (.Pass ⟨0,0,0,0⟩)
noncomputable abbrev ob0 (K:Frag):=(PySem.W.nsIn K mainGlobals "Web",PySem.W.nsIn K mainGlobals "Plan",PySem.W.nsIn K mainGlobals "_law_stream",K.lookup 313,PySem.W.codeIn K (.ref 312) "_law_stream",PySem.W.keepIn K (.ref 313),PySem.W.nsIn K mainGlobals "_law_web",K.lookup 318,PySem.W.codeIn K (.ref 317) "_law_web",PySem.W.keepIn K (.ref 318),PySem.W.nsIn K mainGlobals "_law_cell_at",K.lookup 306,PySem.W.codeIn K (.ref 305) "_law_cell_at",PySem.W.keepIn K (.ref 306),PySem.W.nsIn K mainGlobals "_law_leaders",K.lookup 323)
noncomputable abbrev va0 (p:Program):=((some (some (.ref 179)):Option (Option Value)),(some (some (.ref 238)):Option (Option Value)),(some (some (.ref 313)):Option (Option Value)),(some ⟨(.type "function"),none,.func (PySem.W.fnOf "_law_stream" "_law_stream" (L2.C4 (D3 p 37)) (L2.C2 (D3 p 37)) (L2.B9 (D3 p 37)) .none .none .none (.str "law_wordswap_k71_plans_written" 576) none (.ref 312) .none),#[]⟩:Option Obj),(true:Bool),(true:Bool),(some (some (.ref 318)):Option (Option Value)),(some ⟨(.type "function"),none,.func (PySem.W.fnOf "_law_web" "_law_web" (L2.C4 (D3 p 38)) (L2.C2 (D3 p 38)) (L2.B9 (D3 p 38)) .none .none .none (.str "law_wordswap_k71_plans_written" 576) none (.ref 317) .none),#[]⟩:Option Obj),(true:Bool),(true:Bool),(some (some (.ref 306)):Option (Option Value)),(some ⟨(.type "function"),none,.func (PySem.W.fnOf "_law_cell_at" "_law_cell_at" (L2.C4 (D3 p 36)) (L2.C2 (D3 p 36)) (L2.B9 (D3 p 36)) .none .none .none (.str "law_wordswap_k71_plans_written" 576) none (.ref 305) .none),#[]⟩:Option Obj),(true:Bool),(true:Bool),(some (some (.ref 323)):Option (Option Value)),(some ⟨(.type "function"),none,.func (PySem.W.fnOf "_law_leaders" "_law_leaders" (L2.C4 (D3 p 39)) (L2.C2 (D3 p 39)) (L2.B9 (D3 p 39)) .none .none .none (.str "law_wordswap_k71_plans_written" 576) none (.ref 322) .none),#[]⟩:Option Obj))
noncomputable abbrev ob1 (K:Frag):=(PySem.W.codeIn K (.ref 322) "_law_leaders",PySem.W.keepIn K (.ref 323),PySem.W.nsIn K mainGlobals "_law_limits",K.lookup 330,PySem.W.codeIn K (.ref 329) "_law_limits",PySem.W.keepIn K (.ref 330),PySem.W.nsIn K mainGlobals "is_rising",K.lookup 188,PySem.W.codeIn K (.ref 187) "is_rising",PySem.W.keepIn K (.ref 188),PySem.W.nsIn K mainGlobals "is_whole",K.lookup 84,PySem.W.codeIn K (.ref 83) "is_whole",PySem.W.keepIn K (.ref 84),PySem.W.nsIn K mainGlobals "is_hand",K.lookup 91)
noncomputable abbrev va1 (p:Program):=((true:Bool),(true:Bool),(some (some (.ref 330)):Option (Option Value)),(some ⟨(.type "function"),none,.func (PySem.W.fnOf "_law_limits" "_law_limits" (L2.C4 (D3 p 40)) (L2.C2 (D3 p 40)) (L2.B9 (D3 p 40)) .none .none .none (.str "law_wordswap_k71_plans_written" 576) none (.ref 329) .none),#[]⟩:Option Obj),(true:Bool),(true:Bool),(some (some (.ref 188)):Option (Option Value)),(some ⟨(.type "function"),none,.func (PySem.W.fnOf "is_rising" "is_rising" (L2.C4 (D3 p 16)) (L2.C2 (D3 p 16)) (L2.B9 (D3 p 16)) .none .none .none (.str "wordswap.plans" 405) none (.ref 187) .none),#[]⟩:Option Obj),(true:Bool),(true:Bool),(some (some (.ref 84)):Option (Option Value)),(some ⟨(.type "function"),none,.func (PySem.W.fnOf "is_whole" "is_whole" (L2.C4 (D3 p 9)) (L2.C2 (D3 p 9)) (L2.B9 (D3 p 9)) .none .none .none (.str "wordswap.webs" 271) none (.ref 83) .none),#[]⟩:Option Obj),(true:Bool),(true:Bool),(some (some (.ref 91)):Option (Option Value)),(some ⟨(.type "function"),none,.func (PySem.W.fnOf "is_hand" "is_hand" (L2.C4 (D3 p 10)) (L2.C2 (D3 p 10)) (L2.B9 (D3 p 10)) .none .none .none (.str "wordswap.webs" 271) none (.ref 90) .none),#[]⟩:Option Obj))
noncomputable abbrev ob2 (K:Frag):=(PySem.W.codeIn K (.ref 90) "is_hand",PySem.W.keepIn K (.ref 91),PySem.W.nsIn K mainGlobals "are_leaders",K.lookup 193,PySem.W.codeIn K (.ref 192) "are_leaders",PySem.W.keepIn K (.ref 193),PySem.W.nsIn K mainGlobals "is_limit",K.lookup 200,PySem.W.codeIn K (.ref 199) "is_limit",PySem.W.keepIn K (.ref 200),PySem.W.findIn K (.ref 238) "__init__",PySem.W.isFn K (.ref 214),K.lookup 214,PySem.W.codeIn K (.ref 213) "Plan.__init__",PySem.W.keepIn K (.ref 214),PySem.W.nsIn K mainGlobals "is_number_of_hands")
noncomputable abbrev va2 (p:Program):=((true:Bool),(true:Bool),(some (some (.ref 193)):Option (Option Value)),(some ⟨(.type "function"),none,.func (PySem.W.fnOf "are_leaders" "are_leaders" (L2.C4 (D3 p 17)) (L2.C2 (D3 p 17)) (L2.B9 (D3 p 17)) .none .none .none (.str "wordswap.plans" 405) none (.ref 192) .none),#[]⟩:Option Obj),(true:Bool),(true:Bool),(some (some (.ref 200)):Option (Option Value)),(some ⟨(.type "function"),none,.func (PySem.W.fnOf "is_limit" "is_limit" (L2.C4 (D3 p 18)) (L2.C2 (D3 p 18)) (L2.B9 (D3 p 18)) .none .none .none (.str "wordswap.plans" 405) none (.ref 199) .none),#[]⟩:Option Obj),(true:Bool),(true:Bool),(some (some (.ref 214)):Option (Option Value)),(true:Bool),(some ⟨(.type "function"),none,.func (PySem.W.fnOf "__init__" "Plan.__init__" (L2.C4 (L2.E6 (D3 p 19) 0)) (L2.C2 (L2.E6 (D3 p 19) 0)) (L2.B9 (L2.E6 (D3 p 19) 0)) .none .none .none (.str "wordswap.plans" 405) none (.ref 213) .none),#[]⟩:Option Obj),(true:Bool),(true:Bool),(some (some (.ref 98)):Option (Option Value)))
noncomputable abbrev ob3 (K:Frag):=(K.lookup 98,PySem.W.codeIn K (.ref 97) "is_number_of_hands",PySem.W.keepIn K (.ref 98),PySem.W.nsIn K mainGlobals "is_passing",K.lookup 105,PySem.W.codeIn K (.ref 104) "is_passing",PySem.W.keepIn K (.ref 105),PySem.W.nsIn K mainGlobals "first_wrong_passing",K.lookup 112,PySem.W.codeIn K (.ref 111) "first_wrong_passing",PySem.W.keepIn K (.ref 112),PySem.W.findIn K (.ref 179) "__init__",PySem.W.isFn K (.ref 126),K.lookup 126,PySem.W.codeIn K (.ref 125) "Web.__init__",PySem.W.keepIn K (.ref 126))
noncomputable abbrev va3 (p:Program):=((some ⟨(.type "function"),none,.func (PySem.W.fnOf "is_number_of_hands" "is_number_of_hands" (L2.C4 (D3 p 11)) (L2.C2 (D3 p 11)) (L2.B9 (D3 p 11)) .none .none .none (.str "wordswap.webs" 271) none (.ref 97) .none),#[]⟩:Option Obj),(true:Bool),(true:Bool),(some (some (.ref 105)):Option (Option Value)),(some ⟨(.type "function"),none,.func (PySem.W.fnOf "is_passing" "is_passing" (L2.C4 (D3 p 12)) (L2.C2 (D3 p 12)) (L2.B9 (D3 p 12)) .none .none .none (.str "wordswap.webs" 271) none (.ref 104) .none),#[]⟩:Option Obj),(true:Bool),(true:Bool),(some (some (.ref 112)):Option (Option Value)),(some ⟨(.type "function"),none,.func (PySem.W.fnOf "first_wrong_passing" "first_wrong_passing" (L2.C4 (D3 p 13)) (L2.C2 (D3 p 13)) (L2.B9 (D3 p 13)) .none .none .none (.str "wordswap.webs" 271) none (.ref 111) .none),#[]⟩:Option Obj),(true:Bool),(true:Bool),(some (some (.ref 126)):Option (Option Value)),(true:Bool),(some ⟨(.type "function"),none,.func (PySem.W.fnOf "__init__" "Web.__init__" (L2.C4 (L2.E6 (D3 p 14) 0)) (L2.C2 (L2.E6 (D3 p 14) 0)) (L2.B9 (L2.E6 (D3 p 14) 0)) .none .none .none (.str "wordswap.webs" 271) none (.ref 125) .none),#[]⟩:Option Obj),(true:Bool),(true:Bool))
noncomputable abbrev ob4 (K:Frag):=(PySem.W.nsIn K mainGlobals "in_words",K.lookup 247,PySem.W.codeIn K (.ref 246) "in_words",PySem.W.keepIn K (.ref 247),PySem.W.findIn K (.ref 238) "limit",PySem.W.isFn K (.ref 221),K.lookup 221,PySem.W.codeIn K (.ref 220) "Plan.limit",PySem.W.keepIn K (.ref 221),PySem.W.nsIn K mainGlobals "written_plan",K.lookup 254,PySem.W.codeIn K (.ref 253) "written_plan",PySem.W.keepIn K (.ref 254),PySem.W.nsIn K mainGlobals "_law_text",K.lookup 335,PySem.W.codeIn K (.ref 334) "_law_text")
noncomputable abbrev va4 (p:Program):=((some (some (.ref 247)):Option (Option Value)),(some ⟨(.type "function"),none,.func (PySem.W.fnOf "in_words" "in_words" (L2.C4 (D3 p 26)) (L2.C2 (D3 p 26)) (L2.B9 (D3 p 26)) .none .none .none (.str "wordswap.texts" 486) none (.ref 246) .none),#[]⟩:Option Obj),(true:Bool),(true:Bool),(some (some (.ref 221)):Option (Option Value)),(true:Bool),(some ⟨(.type "function"),none,.func (PySem.W.fnOf "limit" "Plan.limit" (L2.C4 (L2.E6 (D3 p 19) 1)) (L2.C2 (L2.E6 (D3 p 19) 1)) (L2.B9 (L2.E6 (D3 p 19) 1)) .none .none .none (.str "wordswap.plans" 405) none (.ref 220) .none),#[]⟩:Option Obj),(true:Bool),(true:Bool),(some (some (.ref 254)):Option (Option Value)),(some ⟨(.type "function"),none,.func (PySem.W.fnOf "written_plan" "written_plan" (L2.C4 (D3 p 27)) (L2.C2 (D3 p 27)) (L2.B9 (D3 p 27)) .none .none .none (.str "wordswap.texts" 486) none (.ref 253) .none),#[]⟩:Option Obj),(true:Bool),(true:Bool),(some (some (.ref 335)):Option (Option Value)),(some ⟨(.type "function"),none,.func (PySem.W.fnOf "_law_text" "_law_text" (L2.C4 (D3 p 41)) (L2.C2 (D3 p 41)) (L2.B9 (D3 p 41)) .none .none .none (.str "law_wordswap_k71_plans_written" 576) none (.ref 334) .none),#[]⟩:Option Obj),(true:Bool))
noncomputable abbrev ob5 (K:Frag):=(PySem.W.keepIn K (.ref 335),PySem.W.nsIn K mainGlobals "is_number",K.lookup 259,PySem.W.codeIn K (.ref 258) "is_number",PySem.W.keepIn K (.ref 259),PySem.W.nsIn K mainGlobals "read_numbers",K.lookup 264,PySem.W.codeIn K (.ref 263) "read_numbers",PySem.W.keepIn K (.ref 264),PySem.W.nsIn K mainGlobals "numbers_behind",K.lookup 271,PySem.W.codeIn K (.ref 270) "numbers_behind",PySem.W.keepIn K (.ref 271),PySem.W.nsIn K mainGlobals "read_hands",K.lookup 285,PySem.W.codeIn K (.ref 284) "read_hands")
noncomputable abbrev va5 (p:Program):=((true:Bool),(some (some (.ref 259)):Option (Option Value)),(some ⟨(.type "function"),none,.func (PySem.W.fnOf "is_number" "is_number" (L2.C4 (D3 p 28)) (L2.C2 (D3 p 28)) (L2.B9 (D3 p 28)) .none .none .none (.str "wordswap.texts" 486) none (.ref 258) .none),#[]⟩:Option Obj),(true:Bool),(true:Bool),(some (some (.ref 264)):Option (Option Value)),(some ⟨(.type "function"),none,.func (PySem.W.fnOf "read_numbers" "read_numbers" (L2.C4 (D3 p 29)) (L2.C2 (D3 p 29)) (L2.B9 (D3 p 29)) .none .none .none (.str "wordswap.texts" 486) none (.ref 263) .none),#[]⟩:Option Obj),(true:Bool),(true:Bool),(some (some (.ref 271)):Option (Option Value)),(some ⟨(.type "function"),none,.func (PySem.W.fnOf "numbers_behind" "numbers_behind" (L2.C4 (D3 p 30)) (L2.C2 (D3 p 30)) (L2.B9 (D3 p 30)) .none .none .none (.str "wordswap.texts" 486) none (.ref 270) .none),#[]⟩:Option Obj),(true:Bool),(true:Bool),(some (some (.ref 285)):Option (Option Value)),(some ⟨(.type "function"),none,.func (PySem.W.fnOf "read_hands" "read_hands" (L2.C4 (D3 p 32)) (L2.C2 (D3 p 32)) (L2.B9 (D3 p 32)) .none .none .none (.str "wordswap.texts" 486) none (.ref 284) .none),#[]⟩:Option Obj),(true:Bool))
noncomputable abbrev ob6 (K:Frag):=(PySem.W.keepIn K (.ref 285),PySem.W.nsIn K mainGlobals "read_leaders",K.lookup 292,PySem.W.codeIn K (.ref 291) "read_leaders",PySem.W.keepIn K (.ref 292),PySem.W.nsIn K mainGlobals "read_limits",K.lookup 299,PySem.W.codeIn K (.ref 298) "read_limits",PySem.W.keepIn K (.ref 299),PySem.W.nsIn K mainGlobals "read_plan",K.lookup 278,PySem.W.codeIn K (.ref 277) "read_plan",PySem.W.keepIn K (.ref 278),PySem.W.nsIn K mainGlobals "_law_right",K.lookup 340,PySem.W.codeIn K (.ref 339) "_law_right")
noncomputable abbrev va6 (p:Program):=((true:Bool),(some (some (.ref 292)):Option (Option Value)),(some ⟨(.type "function"),none,.func (PySem.W.fnOf "read_leaders" "read_leaders" (L2.C4 (D3 p 33)) (L2.C2 (D3 p 33)) (L2.B9 (D3 p 33)) .none .none .none (.str "wordswap.texts" 486) none (.ref 291) .none),#[]⟩:Option Obj),(true:Bool),(true:Bool),(some (some (.ref 299)):Option (Option Value)),(some ⟨(.type "function"),none,.func (PySem.W.fnOf "read_limits" "read_limits" (L2.C4 (D3 p 34)) (L2.C2 (D3 p 34)) (L2.B9 (D3 p 34)) .none .none .none (.str "wordswap.texts" 486) none (.ref 298) .none),#[]⟩:Option Obj),(true:Bool),(true:Bool),(some (some (.ref 278)):Option (Option Value)),(some ⟨(.type "function"),none,.func (PySem.W.fnOf "read_plan" "read_plan" (L2.C4 (D3 p 31)) (L2.C2 (D3 p 31)) (L2.B9 (D3 p 31)) .none .none .none (.str "wordswap.texts" 486) none (.ref 277) .none),#[]⟩:Option Obj),(true:Bool),(true:Bool),(some (some (.ref 340)):Option (Option Value)),(some ⟨(.type "function"),none,.func (PySem.W.fnOf "_law_right" "_law_right" (L2.C4 (D3 p 42)) (L2.C2 (D3 p 42)) (L2.B9 (D3 p 42)) .none .none .none (.str "law_wordswap_k71_plans_written" 576) none (.ref 339) .none),#[]⟩:Option Obj),(true:Bool))
noncomputable abbrev ob7 (K:Frag):=(PySem.W.keepIn K (.ref 340),PySem.W.nsIn K mainGlobals "law",K.lookup 347,PySem.W.codeIn K (.ref 346) "law",PySem.W.keepIn K (.ref 347),PySem.W.plainGet K 179 Str.empty,PySem.W.hasDictIn K 179,PySem.W.plainOver K 179,PySem.W.findIn K (.ref 179) "__setattr__",PySem.W.makesIn K 179,PySem.W.keepIn K (.ref 179),PySem.W.findIn K (.ref 179) "number",PySem.W.findIn K (.ref 179) "passings",PySem.W.findIn K (.ref 179) "at",PySem.W.findIn K (.ref 179) "web",PySem.W.findIn K (.ref 179) "leaders")
noncomputable abbrev va7 (p:Program):=((true:Bool),(some (some (.ref 347)):Option (Option Value)),(some ⟨(.type "function"),none,.func (PySem.W.fnOf "law" "law" (L2.C4 (D3 p 43)) (L2.C2 (D3 p 43)) (L2.B9 (D3 p 43)) .none .none .none (.str "law_wordswap_k71_plans_written" 576) none (.ref 346) .none),#[]⟩:Option Obj),(true:Bool),(true:Bool),(true:Bool),(true:Bool),(true:Bool),(some (some (.builtin "object.__setattr__")):Option (Option Value)),(true:Bool),(true:Bool),(some none:Option (Option Value)),(some none:Option (Option Value)),(some none:Option (Option Value)),(some none:Option (Option Value)),(some none:Option (Option Value)))
noncomputable abbrev ob8 (K:Frag):=(PySem.W.findIn K (.ref 179) "limits",PySem.W.findIn K (.ref 179) "plan",PySem.W.findIn K (.ref 179) "free",PySem.W.findIn K (.ref 179) "ledger",PySem.W.findIn K (.ref 179) "kept_leaders",PySem.W.findIn K (.ref 179) "kept_limits",PySem.W.findIn K (.ref 179) "kept_free",PySem.W.findIn K (.ref 179) "now",PySem.W.findIn K (.ref 179) "turns_of_lays",PySem.W.findIn K (.ref 179) "sayings",PySem.W.findIn K (.ref 179) "first_turns",PySem.W.findIn K (.ref 179) "does",PySem.W.findIn K (.ref 179) "me",PySem.W.findIn K (.ref 179) "open_boxes",PySem.W.plainGet K 238 Str.empty,PySem.W.hasDictIn K 238)
noncomputable abbrev va8 (p:Program):=((some none:Option (Option Value)),(some none:Option (Option Value)),(some none:Option (Option Value)),(some none:Option (Option Value)),(some none:Option (Option Value)),(some none:Option (Option Value)),(some none:Option (Option Value)),(some none:Option (Option Value)),(some none:Option (Option Value)),(some none:Option (Option Value)),(some none:Option (Option Value)),(some none:Option (Option Value)),(some none:Option (Option Value)),(some none:Option (Option Value)),(true:Bool),(true:Bool))
noncomputable abbrev ob9 (K:Frag):=(PySem.W.plainOver K 238,PySem.W.findIn K (.ref 238) "__setattr__",PySem.W.makesIn K 238,PySem.W.keepIn K (.ref 238),PySem.W.findIn K (.ref 238) "number",PySem.W.findIn K (.ref 238) "passings",PySem.W.findIn K (.ref 238) "at",PySem.W.findIn K (.ref 238) "web",PySem.W.findIn K (.ref 238) "leaders",PySem.W.findIn K (.ref 238) "limits",PySem.W.findIn K (.ref 238) "plan",PySem.W.findIn K (.ref 238) "free",PySem.W.findIn K (.ref 238) "ledger",PySem.W.findIn K (.ref 238) "kept_leaders",PySem.W.findIn K (.ref 238) "kept_limits",PySem.W.findIn K (.ref 238) "kept_free")
noncomputable abbrev va9 (p:Program):=((true:Bool),(some (some (.builtin "object.__setattr__")):Option (Option Value)),(true:Bool),(true:Bool),(some none:Option (Option Value)),(some none:Option (Option Value)),(some none:Option (Option Value)),(some none:Option (Option Value)),(some none:Option (Option Value)),(some none:Option (Option Value)),(some none:Option (Option Value)),(some none:Option (Option Value)),(some none:Option (Option Value)),(some none:Option (Option Value)),(some none:Option (Option Value)),(some none:Option (Option Value)))
noncomputable abbrev bo2 (K:Frag):=(PySem.W.findIn K (.ref 238) "now",PySem.W.findIn K (.ref 238) "turns_of_lays",PySem.W.findIn K (.ref 238) "sayings",PySem.W.findIn K (.ref 238) "first_turns",PySem.W.findIn K (.ref 238) "does",PySem.W.findIn K (.ref 238) "me",PySem.W.findIn K (.ref 238) "open_boxes",PySem.W.specialIn K (.builtin "object.__class__") "__get__",PySem.W.takesIn K (.builtin "object.__class__"),PySem.W.findIn K (.ref 238) "__class__",PySem.W.mroIn K 238 (.type "object"),PySem.W.kitOne K (.ref 238) (.ref 238),PySem.W.nsIn K mainGlobals "FEWEST_HANDS",PySem.W.nsIn K mainGlobals "MOST_HANDS",PySem.W.nsIn K mainGlobals "HANDS",PySem.W.nsIn K mainGlobals "LEADERS")
noncomputable abbrev bo3 (p:Program):=((some none:Option (Option Value)),(some none:Option (Option Value)),(some none:Option (Option Value)),(some none:Option (Option Value)),(some none:Option (Option Value)),(some none:Option (Option Value)),(some none:Option (Option Value)),(some (some (.builtin "getset_descriptor.__get__")):Option (Option Value)),(some true:Option Bool),(some (some (.builtin "object.__class__")):Option (Option Value)),(some true:Option Bool),(some true:Option Bool),(some (some (.int 2 273)):Option (Option Value)),(some (some (.int 6 275)):Option (Option Value)),(some (some (.str "hands" 488)):Option (Option Value)),(some (some (.str "leaders" 490)):Option (Option Value)))
noncomputable abbrev bo4 (K:Frag):=(PySem.W.nsIn K mainGlobals "PASS",PySem.W.nsIn K mainGlobals "FIGURES",PySem.W.nsIn K mainGlobals "MOST_FIGURES",PySem.W.nsIn K mainGlobals "str",PySem.W.nsIn K mainGlobals "len",PySem.W.nsIn K mainGlobals "range",PySem.W.nsIn K mainGlobals "list",PySem.W.nsIn K mainGlobals "sorted",PySem.W.nsIn K mainGlobals "isinstance",PySem.W.nsIn K mainGlobals "int",PySem.W.nsIn K mainGlobals "bool",PySem.W.nsIn K mainGlobals "tuple",PySem.W.nsIn K mainGlobals "enumerate",PySem.W.nsIn K mainGlobals "reversed",PySem.W.nsIn K mainGlobals "max",PySem.W.nsIn K mainGlobals "min")
noncomputable abbrev bo5 (p:Program):=((some (some (.str "pass" 492)):Option (Option Value)),(some (some (.str "0123456789" 494)):Option (Option Value)),(some (some (.int 9 496)):Option (Option Value)),(some none:Option (Option Value)),(some none:Option (Option Value)),(some none:Option (Option Value)),(some none:Option (Option Value)),(some none:Option (Option Value)),(some none:Option (Option Value)),(some none:Option (Option Value)),(some none:Option (Option Value)),(some none:Option (Option Value)),(some none:Option (Option Value)),(some none:Option (Option Value)),(some none:Option (Option Value)),(some none:Option (Option Value)))
noncomputable abbrev bo6 (K:Frag):=(PySem.W.nsIn K mainGlobals "all",PySem.W.nsIn K mainGlobals "any",PySem.W.nsIn K mainGlobals "set",PySem.W.nsIn K mainGlobals "zip",PySem.W.nsIn K mainGlobals "dict")
noncomputable abbrev bo7 (p:Program):=((some none:Option (Option Value)),(some none:Option (Option Value)),(some none:Option (Option Value)),(some none:Option (Option Value)),(some none:Option (Option Value)))
noncomputable abbrev ob (K:Frag):=(ob0 K,ob1 K,ob2 K,ob3 K,ob4 K,ob5 K,ob6 K,ob7 K,ob8 K,ob9 K,bo2 K,bo4 K,bo6 K)
noncomputable abbrev va (p:Program):=(va0 p,va1 p,va2 p,va3 p,va4 p,va5 p,va6 p,va7 p,va8 p,va9 p,bo3 p,bo5 p,bo7 p)
theorem hop:∀w:World,(fencedOpening treeTable PySem.Challenge.pw_wordswap_k71_plans_written w 5140).map (λs=>(s.heap,s.gens,s.drawn,s.toks))=some (boot_heap w.params,#[],boot_drawn,boot_toks):=boot_open (by kernel_rfl) (by kernel_rfl) (λs=>by kernel_rfl)
theorem hck:∀(w:World) (os:OsState),(a08 (PySem.W.Fast.tw6613529449190102663 11 (some (.ref 6))) (PySem.W.Fast.tw10156331382660048174 (PySem.W.Fast.tw11892475500146522536 PySem.W.Fast.tw14364793385576792824) PySem.W.Fast.tw4354587543997198373 w) 5140 (aS7 w os) (topStub PySem.W.Fast.tw4354587543997198373)).map (λS=>(lk PySem.W.Fast.tw4187177175401517315 PySem.W.Fast.tw4354587543997198373 (view PySem.W.Fast.tw4354587543997198373 kps) lse (xt PySem.W.Fast.tw4354587543997198373) w S.abs,ob (aG9 S)))=some ((true,openGood (view PySem.W.Fast.tw4354587543997198373 kps) lse),va PySem.W.Fast.tw4354587543997198373):=λw os=>by kernel_rfl
theorem hdl:LeftO PySem.Challenge.pw_wordswap_k71_plans_written (view PySem.Challenge.pw_wordswap_k71_plans_written kps) lse (xt PySem.Challenge.pw_wordswap_k71_plans_written) (λs=>aw6 s.heap) (Kw PySem.Challenge.pw_wordswap_k71_plans_written 5140) 5140/\∀w,ob (Kw PySem.Challenge.pw_wordswap_k71_plans_written 5140 w)=va PySem.Challenge.pw_wordswap_k71_plans_written:=a30 (q:=λp=>view p kps) (Xt:=xt) (va:=va) PySem.W.Fast.te4354587543997198373 PySem.W.Fast.te6613529449190102663 PySem.W.Fast.te10156331382660048174 PySem.W.Fast.te11892475500146522536 PySem.W.Fast.te14364793385576792824 PySem.W.Fast.te4187177175401517315 hop hck
theorem bo8 {w:World} {h:Heap} {mg:Str->Option Value} {fa:Addr} (X:(Kw PySem.Challenge.pw_wordswap_k71_plans_written 5140 w).In h) (G:h.Ns mainGlobals mg) (hfa:mg "law" = some (.ref fa)):∃fd:FuncData,(∀(s:Shared) (v:Value),BindsTo s fd ⟨[v],[]⟩ [("_law_script",v)])/\∀base:Heap,(Kw PySem.Challenge.pw_wordswap_k71_plans_written 5140 w).In base->base.Ns mainGlobals mg->L2.FnOk PySem.Challenge.rw_wordswap_k71_plans_written.prog w (Kw PySem.Challenge.pw_wordswap_k71_plans_written 5140 w) mg base L2.CX0 9 fa fd ["_law_script"] (aG8 (Kw PySem.Challenge.pw_wordswap_k71_plans_written 5140 w)):=
 have e:=hdl.2 w
 bg7 X G hfa (p1 (p1 e)) (p1 (p2 (p1 e))) (p1 (s2 (p1 e))) (p1 (p2 (s2 (p1 e)))) (p1 (s4 (p1 e))) (p1 (p2 (s4 (p1 e)))) (p1 (s2 (s4 (p1 e)))) (p1 (p2 (s2 (s4 (p1 e))))) (p1 (s4 (s4 (p1 e)))) (p1 (p2 (s4 (s4 (p1 e))))) (p1 (s2 (s4 (s4 (p1 e))))) (p1 (p2 (s2 (s4 (s4 (p1 e)))))) (p1 (s4 (s4 (s4 (p1 e))))) (p1 (p2 (s4 (s4 (s4 (p1 e)))))) (p1 (s2 (s4 (s4 (s4 (p1 e)))))) (p2 (s2 (s4 (s4 (s4 (p1 e)))))) (p1 (p1 (p2 e))) (p1 (p2 (p1 (p2 e)))) (p1 (s2 (p1 (p2 e)))) (p1 (p2 (s2 (p1 (p2 e))))) (p1 (s4 (p1 (p2 e)))) (p1 (p2 (s4 (p1 (p2 e))))) (p1 (s2 (s4 (p1 (p2 e))))) (p1 (p2 (s2 (s4 (p1 (p2 e)))))) (p1 (s4 (s4 (p1 (p2 e))))) (p1 (p2 (s4 (s4 (p1 (p2 e)))))) (p1 (s2 (s4 (s4 (p1 (p2 e)))))) (p1 (p2 (s2 (s4 (s4 (p1 (p2 e))))))) (p1 (s4 (s4 (s4 (p1 (p2 e)))))) (p1 (p2 (s4 (s4 (s4 (p1 (p2 e))))))) (p1 (s2 (s4 (s4 (s4 (p1 (p2 e))))))) (p2 (s2 (s4 (s4 (s4 (p1 (p2 e))))))) (p1 (p1 (s2 e))) (p1 (p2 (p1 (s2 e)))) (p1 (s2 (p1 (s2 e)))) (p1 (p2 (s2 (p1 (s2 e))))) (p1 (s4 (p1 (s2 e)))) (p1 (p2 (s4 (p1 (s2 e))))) (p1 (s2 (s4 (p1 (s2 e))))) (p1 (p2 (s2 (s4 (p1 (s2 e)))))) (p1 (s4 (s4 (p1 (s2 e))))) (p1 (p2 (s4 (s4 (p1 (s2 e)))))) (p1 (s2 (s4 (s4 (p1 (s2 e)))))) (p1 (p2 (s2 (s4 (s4 (p1 (s2 e))))))) (p1 (s4 (s4 (s4 (p1 (s2 e)))))) (p1 (p2 (s4 (s4 (s4 (p1 (s2 e))))))) (p1 (s2 (s4 (s4 (s4 (p1 (s2 e))))))) (p2 (s2 (s4 (s4 (s4 (p1 (s2 e))))))) (p1 (p1 (p2 (s2 e)))) (p1 (p2 (p1 (p2 (s2 e))))) (p1 (s2 (p1 (p2 (s2 e))))) (p1 (p2 (s2 (p1 (p2 (s2 e)))))) (p1 (s4 (p1 (p2 (s2 e))))) (p1 (p2 (s4 (p1 (p2 (s2 e)))))) (p1 (s2 (s4 (p1 (p2 (s2 e)))))) (p1 (p2 (s2 (s4 (p1 (p2 (s2 e))))))) (p1 (s4 (s4 (p1 (p2 (s2 e)))))) (p1 (p2 (s4 (s4 (p1 (p2 (s2 e))))))) (p1 (s2 (s4 (s4 (p1 (p2 (s2 e))))))) (p1 (p2 (s2 (s4 (s4 (p1 (p2 (s2 e)))))))) (p1 (s4 (s4 (s4 (p1 (p2 (s2 e))))))) (p1 (p2 (s4 (s4 (s4 (p1 (p2 (s2 e)))))))) (p1 (s2 (s4 (s4 (s4 (p1 (p2 (s2 e)))))))) (p2 (s2 (s4 (s4 (s4 (p1 (p2 (s2 e)))))))) (p1 (p1 (s4 e))) (p1 (p2 (p1 (s4 e)))) (p1 (s2 (p1 (s4 e)))) (p1 (p2 (s2 (p1 (s4 e))))) (p1 (s4 (p1 (s4 e)))) (p1 (p2 (s4 (p1 (s4 e))))) (p1 (s2 (s4 (p1 (s4 e))))) (p1 (p2 (s2 (s4 (p1 (s4 e)))))) (p1 (s4 (s4 (p1 (s4 e))))) (p1 (p2 (s4 (s4 (p1 (s4 e)))))) (p1 (s2 (s4 (s4 (p1 (s4 e)))))) (p1 (p2 (s2 (s4 (s4 (p1 (s4 e))))))) (p1 (s4 (s4 (s4 (p1 (s4 e)))))) (p1 (p2 (s4 (s4 (s4 (p1 (s4 e))))))) (p1 (s2 (s4 (s4 (s4 (p1 (s4 e))))))) (p2 (s2 (s4 (s4 (s4 (p1 (s4 e))))))) (p1 (p1 (p2 (s4 e)))) (p1 (p2 (p1 (p2 (s4 e))))) (p1 (s2 (p1 (p2 (s4 e))))) (p1 (p2 (s2 (p1 (p2 (s4 e)))))) (p1 (s4 (p1 (p2 (s4 e))))) (p1 (p2 (s4 (p1 (p2 (s4 e)))))) (p1 (s2 (s4 (p1 (p2 (s4 e)))))) (p1 (p2 (s2 (s4 (p1 (p2 (s4 e))))))) (p1 (s4 (s4 (p1 (p2 (s4 e)))))) (p1 (p2 (s4 (s4 (p1 (p2 (s4 e))))))) (p1 (s2 (s4 (s4 (p1 (p2 (s4 e))))))) (p1 (p2 (s2 (s4 (s4 (p1 (p2 (s4 e)))))))) (p1 (s4 (s4 (s4 (p1 (p2 (s4 e))))))) (p1 (p2 (s4 (s4 (s4 (p1 (p2 (s4 e)))))))) (p1 (s2 (s4 (s4 (s4 (p1 (p2 (s4 e)))))))) (p2 (s2 (s4 (s4 (s4 (p1 (p2 (s4 e)))))))) (p1 (p1 (s2 (s4 e)))) (p1 (p2 (p1 (s2 (s4 e))))) (p1 (s2 (p1 (s2 (s4 e))))) (p1 (p2 (s2 (p1 (s2 (s4 e)))))) (p1 (s4 (p1 (s2 (s4 e))))) (p1 (p2 (s4 (p1 (s2 (s4 e)))))) (p1 (s2 (s4 (p1 (s2 (s4 e)))))) (p1 (p2 (s2 (s4 (p1 (s2 (s4 e))))))) (p1 (s4 (s4 (p1 (s2 (s4 e)))))) (p1 (p2 (s4 (s4 (p1 (s2 (s4 e))))))) (p1 (s2 (s4 (s4 (p1 (s2 (s4 e))))))) (p1 (p2 (s2 (s4 (s4 (p1 (s2 (s4 e)))))))) (p1 (s4 (s4 (s4 (p1 (s2 (s4 e))))))) (p1 (p2 (s4 (s4 (s4 (p1 (s2 (s4 e)))))))) (p1 (s2 (s4 (s4 (s4 (p1 (s2 (s4 e)))))))) (p2 (s2 (s4 (s4 (s4 (p1 (s2 (s4 e)))))))) (p1 (p1 (p2 (s2 (s4 e))))) (p1 (p2 (p1 (p2 (s2 (s4 e)))))) (p1 (s2 (p1 (p2 (s2 (s4 e)))))) (p1 (p2 (s2 (p1 (p2 (s2 (s4 e))))))) (p1 (s4 (p1 (p2 (s2 (s4 e)))))) (p1 (p2 (s4 (p1 (p2 (s2 (s4 e))))))) (p1 (s2 (s4 (p1 (p2 (s2 (s4 e))))))) (p1 (p2 (s2 (s4 (p1 (p2 (s2 (s4 e)))))))) (p1 (s4 (s4 (p1 (p2 (s2 (s4 e))))))) (p1 (p2 (s4 (s4 (p1 (p2 (s2 (s4 e)))))))) (p1 (s2 (s4 (s4 (p1 (p2 (s2 (s4 e)))))))) (p1 (p2 (s2 (s4 (s4 (p1 (p2 (s2 (s4 e))))))))) (p1 (s4 (s4 (s4 (p1 (p2 (s2 (s4 e)))))))) (p1 (p2 (s4 (s4 (s4 (p1 (p2 (s2 (s4 e))))))))) (p1 (s2 (s4 (s4 (s4 (p1 (p2 (s2 (s4 e))))))))) (p2 (s2 (s4 (s4 (s4 (p1 (p2 (s2 (s4 e))))))))) (p1 (p1 (s4 (s4 e)))) (p1 (p2 (p1 (s4 (s4 e))))) (p1 (s2 (p1 (s4 (s4 e))))) (p1 (p2 (s2 (p1 (s4 (s4 e)))))) (p1 (s4 (p1 (s4 (s4 e))))) (p1 (p2 (s4 (p1 (s4 (s4 e)))))) (p1 (s2 (s4 (p1 (s4 (s4 e)))))) (p1 (p2 (s2 (s4 (p1 (s4 (s4 e))))))) (p1 (s4 (s4 (p1 (s4 (s4 e)))))) (p1 (p2 (s4 (s4 (p1 (s4 (s4 e))))))) (p1 (s2 (s4 (s4 (p1 (s4 (s4 e))))))) (p1 (p2 (s2 (s4 (s4 (p1 (s4 (s4 e)))))))) (p1 (s4 (s4 (s4 (p1 (s4 (s4 e))))))) (p1 (p2 (s4 (s4 (s4 (p1 (s4 (s4 e)))))))) (p1 (s2 (s4 (s4 (s4 (p1 (s4 (s4 e)))))))) (p2 (s2 (s4 (s4 (s4 (p1 (s4 (s4 e)))))))) (p1 (p1 (p2 (s4 (s4 e))))) (p1 (p2 (p1 (p2 (s4 (s4 e)))))) (p1 (s2 (p1 (p2 (s4 (s4 e)))))) (p1 (p2 (s2 (p1 (p2 (s4 (s4 e))))))) (p1 (s4 (p1 (p2 (s4 (s4 e)))))) (p1 (p2 (s4 (p1 (p2 (s4 (s4 e))))))) (p1 (s2 (s4 (p1 (p2 (s4 (s4 e))))))) (p1 (p2 (s2 (s4 (p1 (p2 (s4 (s4 e)))))))) (p1 (s4 (s4 (p1 (p2 (s4 (s4 e))))))) (p1 (p2 (s4 (s4 (p1 (p2 (s4 (s4 e)))))))) (p1 (s2 (s4 (s4 (p1 (p2 (s4 (s4 e)))))))) (p1 (p2 (s2 (s4 (s4 (p1 (p2 (s4 (s4 e))))))))) (p1 (s4 (s4 (s4 (p1 (p2 (s4 (s4 e)))))))) (p1 (p2 (s4 (s4 (s4 (p1 (p2 (s4 (s4 e))))))))) (p1 (s2 (s4 (s4 (s4 (p1 (p2 (s4 (s4 e))))))))) (p2 (s2 (s4 (s4 (s4 (p1 (p2 (s4 (s4 e))))))))) (p1 (p1 (s2 (s4 (s4 e))))) (p1 (p2 (p1 (s2 (s4 (s4 e)))))) (p1 (s2 (p1 (s2 (s4 (s4 e)))))) (p1 (p2 (s2 (p1 (s2 (s4 (s4 e))))))) (p1 (s4 (p1 (s2 (s4 (s4 e)))))) (p1 (p2 (s4 (p1 (s2 (s4 (s4 e))))))) (p1 (s2 (s4 (p1 (s2 (s4 (s4 e))))))) (p1 (p2 (s2 (s4 (p1 (s2 (s4 (s4 e)))))))) (p1 (s4 (s4 (p1 (s2 (s4 (s4 e))))))) (p1 (p2 (s4 (s4 (p1 (s2 (s4 (s4 e)))))))) (p1 (s2 (s4 (s4 (p1 (s2 (s4 (s4 e)))))))) (p1 (p2 (s2 (s4 (s4 (p1 (s2 (s4 (s4 e))))))))) (p1 (s4 (s4 (s4 (p1 (s2 (s4 (s4 e)))))))) (p1 (p2 (s4 (s4 (s4 (p1 (s2 (s4 (s4 e))))))))) (p1 (s2 (s4 (s4 (s4 (p1 (s2 (s4 (s4 e))))))))) (p2 (s2 (s4 (s4 (s4 (p1 (s2 (s4 (s4 e))))))))) (p1 (p1 (p2 (s2 (s4 (s4 e)))))) (p1 (p2 (p1 (p2 (s2 (s4 (s4 e))))))) (p1 (s2 (p1 (p2 (s2 (s4 (s4 e))))))) (p1 (p2 (s2 (p1 (p2 (s2 (s4 (s4 e)))))))) (p1 (s4 (p1 (p2 (s2 (s4 (s4 e))))))) (p1 (p2 (s4 (p1 (p2 (s2 (s4 (s4 e)))))))) (p1 (s2 (s4 (p1 (p2 (s2 (s4 (s4 e)))))))) (p1 (p2 (s2 (s4 (p1 (p2 (s2 (s4 (s4 e))))))))) (p1 (s4 (s4 (p1 (p2 (s2 (s4 (s4 e)))))))) (p1 (p2 (s4 (s4 (p1 (p2 (s2 (s4 (s4 e))))))))) (p1 (s2 (s4 (s4 (p1 (p2 (s2 (s4 (s4 e))))))))) (p1 (p2 (s2 (s4 (s4 (p1 (p2 (s2 (s4 (s4 e)))))))))) (p1 (s4 (s4 (s4 (p1 (p2 (s2 (s4 (s4 e))))))))) (p1 (p2 (s4 (s4 (s4 (p1 (p2 (s2 (s4 (s4 e)))))))))) (p1 (s2 (s4 (s4 (s4 (p1 (p2 (s2 (s4 (s4 e)))))))))) (p2 (s2 (s4 (s4 (s4 (p1 (p2 (s2 (s4 (s4 e)))))))))) (p1 (s4 (s4 (s4 e)))) (p1 (p2 (s4 (s4 (s4 e))))) (p1 (s2 (s4 (s4 (s4 e))))) (p1 (p2 (s2 (s4 (s4 (s4 e)))))) (s4 (s4 (s4 (s4 e))))
end Ws
open PySem PySem.W PyProof.Rows
set_option Elab.async false
set_option maxRecDepth 100000 in
set_option maxHeartbeats 0 in
theorem PySem.Challenge.cw_wordswap_k71_plans_written_holds : PySem.Challenge.rw_wordswap_k71_plans_written.Holds := by
 w_on;o_law
 refine Ws.aT0 (l:=PySem.Challenge.rw_wordswap_k71_plans_written) (d:=⟨"law",L2.C4 (Ws.top 43),L2.C2 (Ws.top 43),L2.B9 (Ws.top 43),Ws.bk8 (Ws.top 43)⟩) Ws.hdl.1 (by kernel_rfl) (by kernel_rfl) (by kernel_rfl) (by first | rfl | kernel_rfl) (by assumption) (by decide +kernel) ⟨rfl,rfl,rfl,rfl,rfl,by decide +kernel⟩ ?hw ?hc
 case hw=>w_witness2
 case hc=>exact Ws.aL2 (l:=PySem.Challenge.rw_wordswap_k71_plans_written) (k:=9) (x:="_law_script") rfl (by kernel_rfl) ⟨rfl,by decide,by decide⟩ (λw h Y=>Y) λw mg fa h KX G hmg=>Ws.bo8 KX G hmg
