import PyProof.Rows.All
import Wide.All
import OpenK.AllK
import Wide.FinOn
import Lean
import PyProof.EqAt
import PyProof.EqKinds
import PyProof.TupleCall
import PySem.Challenge.RW_wordswap_k31_hands_and_rows
import PyProof.ExcBaseAll.ValueError
import PyProof.NsDelKeeps
import PyProof.ExcArgs
import KE.KIntText
import PyProof.StrLawsChain
import PyProof.StrWalks
import PyProof.Draws
import PyProof.EnumMake
import PyProof.Rows.CallKwBuiltin
import PyProof.AttrMissHeap
set_option compiler.extract_closed false
set_option Elab.async false
set_option linter.all false
set_option maxRecDepth 100000
namespace L2
open PySem PySem.Spec PyProof.Rows
noncomputable abbrev Key:=Sum Int Str
noncomputable def ab1:Key->Value->Bool
 | .inl k,v=>Value.isInt k v
 | .inr x,v=>Value.isStrOf x v
noncomputable def aX0 (w:World):Key->Int
 | .inl k=>hashInt k
 | .inr x=>hashStr w x
theorem keyIs_shape:∀{k:Key} {v:Value},ab1 k v=true->(∃i t,k=Sum.inl i/\v=Value.int i t)\/(∃x t,k=Sum.inr x/\v=Value.str x t)
 | .inl i,v,h=>by
   obtain⟨t,e⟩:=Value.isInt_shape (k:=i) (v:=v) h
   exact .inl ⟨i,t,rfl,e⟩
 | .inr x,v,h=>by
   obtain⟨t,e⟩:=Value.isStrOf_shape (x:=x) (v:=v) h
   exact .inr ⟨x,t,rfl,e⟩
theorem au7 (i:Int) (t:Tok):ab1 (.inl i) (.int i t)=true:=by simp [ab1,Value.isInt]
theorem au8 (x:Str) (t:Tok):ab1 (.inr x) (.str x t)=true:=by simp [ab1,Value.isStrOf]
theorem aP3 (a b:Int):decide ((Sum.inl a:Key)=Sum.inl b)=(a == b):=by
 by_cases e:a=b
 ·subst e;simp
 ·have h:¬(Sum.inl a:Key)=Sum.inl b:=λq=>e (Sum.inl.inj q)
  rw [decide_eq_false h]
  exact (beq_eq_false_iff_ne.mpr e).symm
theorem aP4 (a b:Str):decide ((Sum.inr a:Key)=Sum.inr b)=decide (a=b):=by
 by_cases e:a=b
 ·subst e;simp
 ·have h:¬(Sum.inr a:Key)=Sum.inr b:=λq=>e (Sum.inr.inj q)
  rw [decide_eq_false h,decide_eq_false e]
theorem aP5 (a:Int) (b:Str):decide ((Sum.inl a:Key)=Sum.inr b)=false:=decide_eq_false (λq=>nomatch q)
theorem aP6 (a:Str) (b:Int):decide ((Sum.inr a:Key)=Sum.inl b)=false:=decide_eq_false (λq=>nomatch q)
noncomputable def G5 (prog:Program) (w:World):PySem.KeyKind prog w Key where
 is:=ab1
 hash:=aX0 w
 inj:=λv a b ha hb=>by
  rcases keyIs_shape ha with ⟨i,t,rfl,rfl⟩ | ⟨x,t,rfl,rfl⟩
  ·rcases keyIs_shape hb with ⟨j,u,rfl,e⟩ | ⟨y,u,rfl,e⟩
   ·injection e with e1 _;rw [e1]
   ·exact nomatch e
  ·rcases keyIs_shape hb with ⟨j,u,rfl,e⟩ | ⟨y,u,rfl,e⟩
   ·exact nomatch e
   ·injection e with e1 _;rw [e1]
 byValue:=λk v h=>by
  rcases keyIs_shape h with ⟨i,t,rfl,rfl⟩ | ⟨x,t,rfl,rfl⟩ <;> rfl
 pyHash:=λhv h=>by
  rcases keyIs_shape hv with ⟨i,t,rfl,rfl⟩ | ⟨x,t,rfl,rfl⟩
  ·exact wpAny_pyHash_int h
  ·exact wpAny_pyHash_str h
 eqBool:=λhu hv h=>by
  rcases keyIs_shape hu with ⟨i,t,rfl,rfl⟩ | ⟨x,t,rfl,rfl⟩
  ·rcases keyIs_shape hv with ⟨j,u,rfl,rfl⟩ | ⟨y,u,rfl,rfl⟩
   ·rw [aP3] at h;exact wpAny_eqBool_int h
   ·rw [aP5] at h;exact SeqAt.EqAt.int_str i t y u _ _ _ _ h
  ·rcases keyIs_shape hv with ⟨j,u,rfl,rfl⟩ | ⟨y,u,rfl,rfl⟩
   ·rw [aP6] at h;exact SeqAt.EqAt.str_int x t j u _ _ _ _ h
   ·rw [aP4] at h;exact wpAny_eqBool_str h
 «strs»:=λk x t v h=>by
  rcases keyIs_shape h with ⟨i,u,rfl,e⟩ | ⟨y,u,rfl,e⟩
  ·exact nomatch e
  ·injection e with e1 _
   subst e1
   cases v <;> rfl
theorem ag8 (prog:Program) (w:World) (i:Int) (t:Tok):(G5 prog w).is (.inl i) (.int i t)=true:=au7 i t
theorem ag9 (prog:Program) (w:World) (x:Str) (t:Tok):(G5 prog w).is (.inr x) (.str x t)=true:=au8 x t
end L2
namespace L2
open PySem PySem.Spec PyProof.Rows
inductive V where
 | non | bl (b:Bool) | int (i:Int) | str (x:Str) | byt (b:Array UInt8) | flt (b:UInt64) | ref (a:Addr) | ty (n:String)
 deriving DecidableEq
noncomputable def RelV:V->Value->Prop
 | .non,u=>u=Value.none
 | .bl b,u=>u=Value.bool b
 | .int i,u=>∃t,u=Value.int i t
 | .str x,u=>∃t,u=Value.str x t
 | .byt b,u=>∃t,u=Value.bytes b t
 | .flt b,u=>∃t,u=Value.float b t
 | .ref a,u=>u=Value.ref a
 | .ty n,u=>u=Value.type n
noncomputable abbrev Vals:List V->List Value->Prop:=Paired RelV
theorem Vals.length {xs:List V} {us:List Value} (r:Vals xs us):xs.length=us.length:=Paired.length r
theorem Vals.get:∀{xs:List V} {us:List Value} {i:Nat} {x:V},Vals xs us->xs[i]?=some x->∃u,us[i]?=some u/\RelV x u
 | _,_,_,_,.nil,e=>by simp at e
 | _,_,0,_,.cons r _,e=>by simp at e;subst e;exact⟨_,rfl,r⟩
 | _,_,i+1,x,.cons _ t,e=>by
   obtain⟨u,h1,h2⟩:=Vals.get (i:=i) (x:=x) t (by simpa using e)
   exact⟨u,by simpa using h1,h2⟩
theorem Vals.append:∀{xs ys:List V} {us ws:List Value},Vals xs us->Vals ys ws->Vals (xs++ys) (us++ws)
 | _,_,_,_,.nil,s=>s
 | _,_,_,_,.cons r t,s=>.cons r (Vals.append t s)
theorem Vals.take:∀{xs:List V} {us:List Value} (n:Nat),Vals xs us->Vals (xs.take n) (us.take n)
 | _,_,0,_=>.nil
 | _,_,_+1,.nil=>.nil
 | _,_,n+1,.cons r t=>.cons r (Vals.take n t)
theorem Vals.drop:∀{xs:List V} {us:List Value} (n:Nat),Vals xs us->Vals (xs.drop n) (us.drop n)
 | _,_,0,r=>r
 | _,_,_+1,.nil=>.nil
 | _,_,n+1,.cons _ t=>Vals.drop n t
noncomputable def RelO:Option V->Option Value->Prop
 | some v,some u=>RelV v u
 | none,none=>True
 | _,_=>False
noncomputable def KV {κ:Type}:List (κ×V)->List (κ×Value)->Prop:=Paired λ(p:κ×V) (q:κ×Value)=>p.1=q.1/\RelV p.2 q.2
noncomputable def kV:Key->V
 | .inl i=>.int i
 | .inr x=>.str x
inductive HO where
 | lst (xs:List V)
 | tup (xs:List V)
 | dK (kvs:List (Key×V)) | dT (kvs:List (List Key×V))
 | set (S:Int->Bool) (n:Nat)
 | ins (C dx:Addr) (fs:List (Str×V))
 | own (x:Addr)
 | xd (fs:List (Str×V))
 | met (f x:Addr)
 | rng (lo hi:Int)
 | frz (o:Obj) (u:HO)
 | tbl (ps:Array Value)
 | ext (φ:Heap->Prop)
noncomputable abbrev Hp:=Addr->Option HO
noncomputable def upd (H:Hp) (a:Addr) (o:HO):Hp:=λb=>if b=a then some o else H b
theorem C7 {H:Hp} {a:Addr} {o:HO}:upd H a o a=some o:=by unfold upd;rw [if_pos rfl]
theorem C9 {H:Hp} {a b:Addr} {o:HO} (h:b≠a):upd H a o b=H b:=by unfold upd;rw [if_neg h]
theorem aN6 {H:Hp} {a b:Addr} {o u:HO} (h:H a=some o) (h':H b=some u) (d:o≠u):a≠b:=by
 intro e;subst e;rw [h] at h';exact d (Option.some.inj h')
theorem E7 {H:Hp} {a b:Addr} {o:HO} (h:H a=some o) (h':H b=none):a≠b:=by
 intro e;subst e;rw [h] at h';cases h'
section
variable (P:Program) (w:World)
noncomputable def ObjOk (H:Hp) (h:Heap) (a:Addr):HO->Prop
 | .lst xs=>xs.length<=sizeLine/\∃(its:List Value) (n:Nat),Vals xs its/\h.get? a=some { cls:=.type "list",data:=.seq its.toArray n }
 | .tup xs=>xs.length<=sizeLine/\∃its:List Value,Vals xs its/\IsTup h a its.toArray
 | .dK kvs=>kvs.length<=sizeLine/\(a == sysModules)=false/\∃vs,KV kvs vs/\h.DictOf (G5 P w) a vs
 | .dT kvs=>kvs.length<=sizeLine/\(a == sysModules)=false/\∃xs:List (List Key×Addr×Value),
  Paired (λ(p:List Key×V) (q:List Key×Addr×Value)=>p.1=q.1/\H q.2.1=some (.tup (p.1.map kV))/\RelV p.2 q.2.2) kvs xs/\
  ∃o es ep,h.get? a=some o/\o.ExactDict/\o.data=.dict es ep/\es.toList=xs.map (entryOfKey (tupleKind (G5 P w)))/\(xs.map (·.1)).Nodup
 | .set S n=>h.SetOf (intKind P w) a S n
 | .ins C dx fs=>H dx=some (.own a)/\fs.length<=1000/\dx≠a/\h.get? a=some (PySem.W.instObj C dx)/\
  ∃mA,h.Ns1 dx mA/\(∀f,RelO (fs.lookup f) (mA f))/\PySem.Within mA (fs.map (·.1))
 | .own _=>∃o,h.get? a=some o
 | .xd fs=>∃mA,h.Ns1 a mA/\∀f,RelO (fs.lookup f) (mA f)
 | .rng lo hi=>∃t u v,h.get? a=some { cls:=.type "range",data:=.fields #[.int lo t,.int hi u,.int 1 v] }
 | .frz o u=>h.get? a=some o/\ObjOk H h a u
 | .tbl ps=>h.get? a=some { cls:=.none,data:=.fields ps }
 | .met f x=>h.get? a=some (PySem.W.methodObj (.ref f) (.ref x))
 | .ext φ=>φ h/\(∃o,h.get? a=some o)/\∀h1 h2:Heap,φ h1->(∀o,h1.get? a=some o->h2.get? a=some o)->φ h2
noncomputable def HOk (H:Hp) (h:Heap):Prop:=∀a o,H a=some o->ObjOk P w H h a o
end
section
variable {P:Program} {w:World} {H H':Hp} {h h':Heap} {a:Addr} {o:HO}
theorem ObjOk.lt (x:ObjOk P w H h a o):a<h.objs.size:=by
 cases o with
 | lst xs=>obtain⟨_,_,_,_,e⟩:=x;exact Heap.lt_size e
 | tup xs=>obtain⟨_,_,_,p⟩:=x;exact p.lt
 | dK kvs=>obtain⟨_,_,_,_,o,_,_,e,_⟩:=x;exact Heap.lt_size e
 | dT kvs=>obtain⟨_,_,_,_,o,_,_,e,_⟩:=x;exact Heap.lt_size e
 | set S n=>obtain⟨o,_,_,_,e,_⟩:=x;exact Heap.lt_size e
 | ins C dx fs=>obtain⟨_,_,_,e,_⟩:=x;exact Heap.lt_size e
 | own y=>obtain⟨_,e⟩:=x;exact Heap.lt_size e
 | xd fs=>obtain⟨_,⟨_,_,_,e,_⟩,_⟩:=x;exact Heap.lt_size e
 | rng lo hi=>obtain⟨_,_,_,e⟩:=x;exact Heap.lt_size e
 | frz ob u=>obtain⟨e,_⟩:=x;exact Heap.lt_size e
 | tbl ps=>exact Heap.lt_size (show h.get? a=some _ from x)
 | met f y=>exact Heap.lt_size (show h.get? a=some _ from x)
 | ext φ=>obtain⟨_,⟨_,e⟩,_⟩:=x;exact Heap.lt_size e
theorem Paired.mapP {α β:Type} {F G:α->β->Prop}:∀{l₁:List α} {l₂:List β},Paired F l₁ l₂->(∀a b,F a b->G a b)->Paired G l₁ l₂
 | _,_,.nil,_=>.nil
 | _,_,.cons r t,f=>.cons (f _ _ r) (Paired.mapP t f)
theorem ObjOk.stay (x:ObjOk P w H h a o) (k:∀b u,(b=a\/H b=some (.own a))->h.get? b=some u->h'.get? b=some u)
 (ho:∀b,H b=some (.own a)->H' b=some (.own a)) (ht:∀b xs,H b=some (.tup xs)->H' b=some (.tup xs)):ObjOk P w H' h' a o:=by
 induction o with
 | lst xs=>obtain⟨z,its,n,r,e⟩:=x;exact⟨z,its,n,r,k _ _ (.inl rfl) e⟩
 | tup xs=>obtain⟨z,its,r,ob,e,c⟩:=x;exact⟨z,its,r,ob,k _ _ (.inl rfl) e,c⟩
 | dK kvs=>obtain⟨z,y,vs,r,ob,es,ep,e,c⟩:=x;exact⟨z,y,vs,r,ob,es,ep,k _ _ (.inl rfl) e,c⟩
 | dT kvs=>
   obtain⟨z,y,xs,r,ob,es,ep,e,c⟩:=x
   exact⟨z,y,xs,Paired.mapP r λp q z=>⟨z.1,ht _ _ z.2.1,z.2.2⟩,ob,es,ep,k _ _ (.inl rfl) e,c⟩
 | set S n=>obtain⟨ob,es,ep,t,e,c⟩:=x;exact⟨ob,es,ep,t,k _ _ (.inl rfl) e,c⟩
 | ins C dx fs=>
   obtain⟨d,z,ne,e,mA,⟨od,es,ep,e2,c⟩,r⟩:=x
   exact⟨ho _ d,z,ne,k _ _ (.inl rfl) e,mA,⟨od,es,ep,k _ _ (.inr d) e2,c⟩,r⟩
 | own y=>obtain⟨ob,e⟩:=x;exact⟨ob,k _ _ (.inl rfl) e⟩
 | xd fs=>obtain⟨mA,⟨od,es,ep,e,c⟩,r⟩:=x;exact⟨mA,⟨od,es,ep,k _ _ (.inl rfl) e,c⟩,r⟩
 | rng lo hi=>obtain⟨t,u,v,e⟩:=x;exact⟨t,u,v,k _ _ (.inl rfl) e⟩
 | frz ob u ih=>obtain⟨e,q⟩:=x;exact⟨k _ _ (.inl rfl) e,ih q⟩
 | tbl ps=>
   have e:h.get? a=some { cls:=.none,data:=.fields ps }:=x
   show h'.get? a=some { cls:=.none,data:=.fields ps }
   exact k a _ (.inl rfl) e
 | met f y=>
   have e:h.get? a=some (PySem.W.methodObj (.ref f) (.ref y)):=x
   show h'.get? a=some (PySem.W.methodObj (.ref f) (.ref y))
   exact k a _ (.inl rfl) e
 | ext φ=>obtain⟨p,⟨o,e⟩,st⟩:=x;exact⟨st _ _ p λo q=>k _ _ (.inl rfl) q,⟨o,k _ _ (.inl rfl) e⟩,st⟩
theorem HOk.lt (x:HOk P w H h) (e:H a=some o):a<h.objs.size:=(x a o e).lt
theorem HOk.fresh (x:HOk P w H h) (e:h.objs.size<=a):H a=none:=by
 cases q:H a with
 | none=>rfl
 | some u=>exact absurd (Nat.lt_of_lt_of_le (x.lt q) e) (Nat.lt_irrefl _)
theorem HOk.kept (x:HOk P w H h) (k:∀b u,h.get? b=some u->h'.get? b=some u):HOk P w H h':=λa o e=>
 (x a o e).stay (λb u _ q=>k b u q) (λ_ q=>q) λ_ _ q=>q
theorem HOk.laid (x:HOk P w H h) (k:∀b u,h.get? b=some u->h'.get? b=some u) (hp:h.objs.size<=a) (new:ObjOk P w (upd H a o) h' a o):HOk P w (upd H a o) h':=λb u e=>by
 have hn:=x.fresh hp
 by_cases hb:b=a
 ·subst hb;rw [C7] at e;cases e;exact new
 ·rw [C9 hb] at e
  exact (x b u e).stay (λc v _ q=>k c v q) (λc q=>by rw [C9 (E7 q hn)];exact q) λc xs q=>by rw [C9 (E7 q hn)];exact q
end
noncomputable def Rd (H:Hp) (a:Addr) (u:HO):Prop:=H a=some u\/∃o,H a=some (.frz o u)
theorem Rd.ok {P:Program} {w:World} {H:Hp} {h:Heap} {a:Addr} {u:HO} (r:Rd H a u) (x:HOk P w H h):ObjOk P w H h a u:=by
 rcases r with r | ⟨o,r⟩
 ·exact x a u r
 ·obtain⟨_,q⟩:=x a _ r
  exact q
noncomputable def Mut:Option HO->Prop
 | some (.lst _)=>True
 | some (.dK _)=>True
 | some (.dT _)=>True
 | some (.set _ _)=>True
 | some (.ins _ _ _)=>True
 | some (.ext _)=>True
 | _=>False
section
variable {P:Program} {w:World} {H:Hp} {h h':Heap} {x e:Addr} {o':HO}
theorem HOk.write (ok:HOk P w H h) (mu:Mut (H x)) (he:e=x\/H e=some (.own x)) (k:∀b u,b≠e->h.get? b=some u->h'.get? b=some u) (heo:∃u,h'.get? e=some u)
 (new:ObjOk P w (upd H x o') h' x o'):HOk P w (upd H x o') h':=λb u q=>by
 have nown:∀c y,H c=some (.own y)->c≠x:=λc y r z=>by subst z;rw [r] at mu;exact mu
 have ntup:∀c xs,H c=some (.tup xs)->c≠x:=λc xs r z=>by subst z;rw [r] at mu;exact mu
 by_cases hb:b=x
 ·subst hb;rw [C7] at q;cases q;exact new
 ·rw [C9 hb] at q
  by_cases hbe:b=e
  ·have q':H b=some (.own x):=by
    rcases he with z | z
    ·exact absurd (hbe.trans z) hb
    ·rw [hbe];exact z
   rw [q] at q';cases q'
   obtain⟨v,hv⟩:=heo
   exact⟨v,by rw [hbe];exact hv⟩
  ·refine (ok b u q).stay (λc v hc r=>k c v ?_ r) (λc r=>by rw [C9 (nown c b r)];exact r) λc xs r=>by rw [C9 (ntup c xs r)];exact r
   rcases hc with rfl | hc
   ·exact hbe
   ·rintro rfl
    rcases he with z | z
    ·exact nown c b hc z
    ·rw [hc] at z;cases z;exact hb rfl
end
structure Un (fs ex:List Addr) (H H':Hp) (h h':Heap):Prop where
 keep:∀b o,h.get? b=some o->H b=none->b∉fs->b∉ex->h'.get? b=some o
 slot:∀b o,h.get? b=some o->H b=none->b∈fs->b∉ex->∃sl,h'.get? b=some { o with slots:=sl }
 free:∀b o,h.get? b=some o->H b=none->b∉ex->H' b=none
 there:∀b o,h.get? b=some o->b∉ex->∃o',h'.get? b=some o'
 tups:∀b xs,H b=some (.tup xs)->H' b=some (.tup xs)
 frzs:∀b o u,H b=some (.frz o u)->H' b=some (.frz o u)
 tbls:∀b ps,H b=some (.tbl ps)->∃more,H' b=some (.tbl (ps++more))
section
variable {fs fs' ex ex':List Addr} {H H1 H2:Hp} {h h1 h2 h':Heap} {a x e:Addr} {o:HO}
theorem Un.any (u:Un fs ex H H1 h h1) {b:Addr} {ob:Obj} (q:h.get? b=some ob) (n:H b=none) (hx:b∉ex):∃sl,h1.get? b=some { ob with slots:=sl }:=by
 by_cases hb:b∈fs
 ·exact u.slot b ob q n hb hx
 ·exact⟨ob.slots,u.keep b ob q n hb hx⟩
theorem Un.kept (k:∀b u,h.get? b=some u->h'.get? b=some u):Un fs ex H H h h':=
 ⟨λb ob q _ _ _=>k b ob q,λb ob q _ _ _=>⟨ob.slots,k b ob q⟩,λ_ _ _ n _=>n,λb ob q _=>⟨ob,k b ob q⟩,λ_ _ q=>q,λ_ _ _ q=>q,λ_ ps q=>⟨#[],by rw [q];simp⟩⟩
theorem Un.refl:Un fs ex H H h h:=Un.kept λ_ _ q=>q
theorem Un.laid (k:∀b u,h.get? b=some u->h'.get? b=some u) (hp:h.objs.size<=a) (hn:H a=none):Un fs ex H (upd H a o) h h' where
 keep:=λb u q _ _ _=>k b u q
 slot:=λb u q _ _ _=>⟨u.slots,k b u q⟩
 free:=λb u q n _=>by rw [C9 (Nat.ne_of_lt (Nat.lt_of_lt_of_le (Heap.lt_size q) hp))];exact n
 there:=λb u q _=>⟨u,k b u q⟩
 tups:=λb xs q=>by rw [C9 (E7 q hn)];exact q
 frzs:=λb u xs q=>by rw [C9 (E7 q hn)];exact q
 tbls:=λb ps q=>⟨#[],by rw [C9 (E7 q hn),q];simp⟩
theorem Un.write (mu:Mut (H x)) (he:e=x\/H e=some (.own x)) (k:∀b u,b≠e->h.get? b=some u->h'.get? b=some u) (heo:∃u,h'.get? e=some u):Un fs ex H (upd H x o) h h':=by
 have hx:∀b,H b=none->b≠x:=λb n z=>by subst z;rw [n] at mu;exact mu
 have hb:∀b,H b=none->b≠e:=λb n z=>by
  subst z
  rcases he with r | r
  ·exact hx b n r
  ·rw [n] at r;cases r
 have hm:∀b u,H b=some u->¬Mut (some u)->b≠x:=λb u q nm z=>by subst z;rw [q] at mu;exact nm mu
 refine⟨λb u q n _ _=>k b u (hb b n) q,λb u q n _ _=>⟨u.slots,k b u (hb b n) q⟩,λb u q n _=>by rw [C9 (hx b n)];exact n,λb u q _=>?_,
  λb xs q=>by rw [C9 (hm b _ q λz=>z)];exact q,λb u xs q=>by rw [C9 (hm b _ q λz=>z)];exact q,λb ps q=>⟨#[],by rw [C9 (hm b _ q λz=>z),q];simp⟩⟩
 by_cases hbe:b=e
 ·subst hbe;exact heo
 ·exact⟨u,k b u hbe q⟩
end
noncomputable def trk (h:Heap) (H:Hp):List Addr:=(List.range h.objs.size).filter λa=>(H a).isSome
noncomputable def ad3 (h:Heap) (H:Hp):Heap:=PySem.W.hideAll h (trk h H)
theorem au9 (h:Heap) (H:Hp):(ad3 h H).objs.size=h.objs.size:=PySem.W.hideAll_size _ _
theorem az2 {h:Heap} {H:Hp} {b:Addr} {o:Obj} (e:h.get? b=some o) (n:H b=none):(ad3 h H).get? b=some o:=
 PySem.W.hideAll_get _ e λhm=>by
  have q:(H b).isSome=true:=(List.mem_filter.mp hm).2
  rw [n] at q;simp at q
theorem aH8 {h:Heap} {H:Hp} {b:Addr} {o:Obj} (e:(ad3 h H).get? b=some o):h.get? b=some o/\H b=none:=by
 have e':h.get? b=some o:=PySem.W.of_hideAll (trk h H) e
 refine⟨e',?_⟩
 cases q:H b with
 | none=>rfl
 | some x=>
   have hm:b∈trk h H:=List.mem_filter.mpr ⟨List.mem_range.mpr (Heap.lt_size e'),by simp [q]⟩
   have z:(ad3 h H).get? b=none:=PySem.W.hideAll_none (trk h H) hm
   rw [z] at e;cases e
end L2
namespace L2
open PySem PySem.Spec PyProof.Rows
structure Mod (K:PySem.W.Frag) (mg:Str->Option Value) (base:Heap):Prop where
 kin:K.In base
 glob:base.Ns mainGlobals mg
 blt:∃mb,base.Ns builtinsNs mb/\∀x:Str,x≠"__name__"->mb x=bootBuiltins x
 nolimit:base.NoLimit
structure Cx where
 prog:Program
 w:World
 K:PySem.W.Frag
 mg:Str->Option Value
 base:Heap
 A:Around
 N:List Str
 s₀:Shared
 H₀:Hp
 env:Env
 outer:List Env
 stack:List Env
 ex:List Addr
 fn:Str->Bool
 calm:Bool
 pn:List (Addr×Obj)
 xe:Value->Shared->Prop
noncomputable def frs (l:List Env):List Addr:=l.filterMap (·.frame)
noncomputable abbrev Cx.fs (X:Cx):List Addr:=frs X.outer
noncomputable def Vis (sc:Scope) (x:Str):Prop:=sc.names.lookup x=some .local\/sc.names.lookup x=some .cell\/sc.names.lookup x=some .free
noncomputable def Loc (sc:Scope) (x:Str):Prop:=sc.names.lookup x=some .local\/sc.names.lookup x=some .cell
noncomputable def a32 (env:Env) (h:Heap) (m:Str->Option Value) (x:Str) (u:Value):Prop:=
 (env.kindOf x=some .local/\m x=some u)\/((env.kindOf x=some .cell\/env.kindOf x=some .free)/\∃c,env.cells.lookup x=some c/\h.IsCell c (some u))
structure Cx.Ok (X:Cx):Prop where
 mod:Mod X.K X.mg X.base
 kind:X.env.scope.kind=.function
 glob:X.env.globals=mainGlobals
 blt:X.env.builtins=builtinsNs
 above:X.s₀.heap.objs.size<=X.env.locals
 inj:∀x y c,X.env.cells.lookup x=some c->X.env.cells.lookup y=some c->x=y
 has:∀x,(X.env.kindOf x=some .cell\/X.env.kindOf x=some .free)->∃c,X.env.cells.lookup x=some c
 cab:∀x c,X.fn x=true->X.env.cells.lookup x=some c->X.s₀.heap.objs.size<=c
 hd:X.calm=true->X.A.handled=none
 frames:X.A.frames=some X.stack
 stk:X.stack=X.outer\/(X.stack=X.env::X.outer/\X.env.frame=some X.env.locals)
 exf:∀b∈X.ex,b≠X.env.locals/\∀x c,X.env.cells.lookup x=some c->c≠b
 bs:∀b o,X.base.get? b=some o->X.s₀.heap.get? b=some o/\X.H₀ b=none
 bsz:X.base.objs.size<=X.s₀.heap.objs.size
 noex:∀b o,X.base.get? b=some o->b∉X.ex
 exfs:∀b∈X.ex,b∉X.fs
 funs:X.s₀.heap.FunFrames X.base X.outer
 frf:∀b∈X.fs,X.H₀ b=none
structure Inv (X:Cx) (pins:List (Addr×Obj)) (σ:List (Option V)) (H:Hp) (s:Shared):Prop where
 ok:X.Ok
 os:s.os=X.s₀.os
 bare:AllBare s.gens
 base:Un X.fs X.ex X.H₀ H X.s₀.heap s.heap
 loc:∃m,s.heap.Ns X.env.locals m/\∀(i:Nat) (x:Str) (v:V),X.N[i]?=some x->σ[i]?=some (some v)->Vis X.env.scope x->∃u,RelV v u/\a32 X.env s.heap m x u
 cell:∀x c,X.env.cells.lookup x=some c->∃v,s.heap.IsCell c v
 free:H X.env.locals=none
 freeC:∀x c,X.env.cells.lookup x=some c->H c=none
 pin:∀p∈X.pn++pins,s.heap.get? p.1=some p.2/\H p.1=none/\p.1≠X.env.locals/\p.1∉X.fs/\∀v,p.2.data≠.cell v
 hok:HOk X.prog X.w H s.heap
 len:σ.length=X.N.length
section
variable {X:Cx} {pins:List (Addr×Obj)} {σ:List (Option V)} {H H':Hp} {s:Shared} {h':Heap}
theorem Cx.Ok.nofr (ok:X.Ok) {b:Addr} {o:Obj} (e:X.base.get? b=some o):b∉X.fs:=λhb=>by
 have:=(ok.funs.mem hb).1
 rw [e] at this;cases this
theorem Inv.bs (I:Inv X pins σ H s):∀b o,X.base.get? b=some o->s.heap.get? b=some o/\H b=none:=λb o e=>
 ⟨I.base.keep b o (I.ok.bs b o e).1 (I.ok.bs b o e).2 (I.ok.nofr e) (I.ok.noex b o e),I.base.free b o (I.ok.bs b o e).1 (I.ok.bs b o e).2 (I.ok.noex b o e)⟩
theorem Inv.bk (I:Inv X pins σ H s):∀b o,X.base.get? b=some o->s.heap.get? b=some o:=λb o e=>(I.bs b o e).1
theorem Inv.mod (I:Inv X pins σ H s):Mod X.K X.mg X.base:=I.ok.mod
theorem Inv.kIn (I:Inv X pins σ H s):X.K.In s.heap:=I.ok.mod.kin.keeps I.bk
theorem Inv.lt (I:Inv X pins σ H s):X.env.locals<s.heap.objs.size:=let ⟨_,hn,_⟩:=I.loc;hn.lt
theorem Inv.sz (I:Inv X pins σ H s):X.s₀.heap.objs.size<=s.heap.objs.size:=Nat.le_trans I.ok.above (Nat.le_of_lt I.lt)
theorem Inv.nofs (I:Inv X pins σ H s) {a:Addr} (h:s.heap.objs.size<=a):a∉X.fs:=λhb=>by
 obtain⟨_,o,ho,_⟩:=I.ok.funs.mem hb
 exact absurd (Nat.lt_of_lt_of_le (Heap.lt_size ho) (Nat.le_trans I.sz h)) (Nat.lt_irrefl _)
theorem Inv.cne (I:Inv X pins σ H s):∀x c,X.env.cells.lookup x=some c->c≠X.env.locals:=λx c e z=>by
 obtain⟨v,o,ho,hd⟩:=I.cell x c e
 obtain⟨m,⟨o',es,ep,ho',hd',_⟩,_⟩:=I.loc
 rw [z,ho'] at ho;cases ho;rw [hd'] at hd;cases hd
theorem Inv.funs (I:Inv X pins σ H s):s.heap.FunFrames X.base X.outer:=by
 have all:∀(l:List Env),(∀b∈frs l,b∈X.fs)->X.s₀.heap.FunFrames X.base l->s.heap.FunFrames X.base l:=by
  intro l
  induction l with
  | nil=>intro _ _;trivial
  | cons env r ih=>
    intro hs hl
    obtain⟨hk,⟨L,o,hf,hn,ho,hd⟩,hr⟩:=hl
    have hL:L∈X.fs:=hs L (by unfold frs;rw [List.filterMap_cons,hf];exact List.mem_cons_self)
    obtain⟨sl,e⟩:=I.base.slot L o ho (I.ok.frf L hL) hL λz=>I.ok.exfs L z hL
    exact⟨hk,⟨L,_,hf,hn,e,hd⟩,ih (λb hb=>hs b (by unfold frs;rw [List.filterMap_cons,hf];exact List.mem_cons_of_mem _ hb)) hr⟩
 exact all X.outer (λ_ hb=>hb) I.ok.funs
theorem Inv.stack (I:Inv X pins σ H s):s.heap.FunFrames X.base X.stack:=by
 rcases I.ok.stk with e | ⟨e,hf⟩
 ·rw [e];exact I.funs
 ·rw [e]
  obtain⟨m,hn,_⟩:=I.loc
  refine .cons (by rw [I.ok.kind];decide) hf hn ?_ I.funs
  exact Heap.get?_none_of_le (Nat.le_trans I.ok.bsz I.ok.above)
theorem Inv.stkSub (I:Inv X pins σ H s):∀b∈frs X.stack,b∈X.env.locals::X.fs:=λb hb=>by
 rcases I.ok.stk with e | ⟨e,hf⟩
 ·rw [e] at hb;exact List.mem_cons_of_mem _ hb
 ·rw [e] at hb
  unfold frs at hb
  rw [List.filterMap_cons,hf] at hb
  exact hb
theorem Inv.stkFree (I:Inv X pins σ H s):∀b∈frs X.stack,H b=none:=λb hb=>by
 rcases List.mem_cons.mp (I.stkSub b hb) with e | hb
 ·rw [e];exact I.free
 ·obtain⟨_,o,ho,_⟩:=I.ok.funs.mem hb
  exact I.base.free b o ho (I.ok.frf b hb) λz=>I.ok.exfs b z hb
theorem Inv.step {g':Array GenState} {t':Nat} {d':Drawn} {ch:List Addr} (I:Inv X pins σ H s)
 (hch:∀b∈ch,(b∈X.ex\/X.s₀.heap.objs.size<=b)/\b≠X.env.locals/\(∀x c,X.env.cells.lookup x=some c->c≠b)/\∀p∈X.pn++pins,p.1≠b)
 (keep:∀b o,b≠X.env.locals->b∉X.fs->b∉ch->s.heap.get? b=some o->H b=none->h'.get? b=some o)
 (slot:∀b o,b≠X.env.locals->b∈X.fs->b∉ch->s.heap.get? b=some o->H b=none->∃sl,h'.get? b=some { o with slots:=sl }) (free:∀b o,b∉ch->s.heap.get? b=some o->H b=none->H' b=none)
 (there:∀b o,b∉ch->s.heap.get? b=some o->∃o',h'.get? b=some o')
 (tups:∀b xs,H b=some (.tup xs)->H' b=some (.tup xs)) (frzs:∀b o u,H b=some (.frz o u)->H' b=some (.frz o u)) (tbls:∀b ps,H b=some (.tbl ps)->∃more,H' b=some (.tbl (ps++more)))
 (ns:∀m,s.heap.Ns X.env.locals m->h'.Ns X.env.locals m) (hok:HOk X.prog X.w H' h') (hg:AllBare g') :
 Inv X pins σ H' { s with heap:=h',gens:=g',drawn:=d',toks:=t' }:=by
 have neL:∀b o,X.s₀.heap.get? b=some o->b≠X.env.locals:=λb o e=>Nat.ne_of_lt (Nat.lt_of_lt_of_le (Heap.lt_size e) I.ok.above)
 have neC:∀b o,X.s₀.heap.get? b=some o->b∉X.ex->b∉ch:=λb o e hx hb=>by
  rcases (hch b hb).1 with z | z
  ·exact hx z
  ·exact absurd (Nat.lt_of_lt_of_le (Heap.lt_size e) z) (Nat.lt_irrefl _)
 have cellK:∀x c,X.env.cells.lookup x=some c->∀v,s.heap.IsCell c v->h'.IsCell c v:=λx c e v ⟨o,ho,hd⟩=>by
  have nch:c∉ch:=λz=>(hch c z).2.2.1 x c e rfl
  by_cases hc:c∈X.fs
  ·obtain⟨sl,q⟩:=slot c o (I.cne x c e) hc nch ho (I.freeC x c e)
   exact⟨_,q,hd⟩
  ·exact⟨o,keep c o (I.cne x c e) hc nch ho (I.freeC x c e),hd⟩
 refine⟨I.ok,I.os,hg,⟨λb o e n hb hx=>?_,λb o e n hb hx=>?_,λb o e n hx=>?_,λb o e hx=>?_,λb xs e=>tups b xs (I.base.tups b xs e),λb o xs e=>frzs b o xs (I.base.frzs b o xs e),λb ps e=>?_⟩,?_,λx c e=>?_,?_,λx c e=>?_,λp hp=>?_,hok,I.len⟩
 ·exact keep b o (neL b o e) hb (neC b o e hx) (I.base.keep b o e n hb hx) (I.base.free b o e n hx)
 ·obtain⟨sl,e1⟩:=I.base.slot b o e n hb hx
  obtain⟨sl',e2⟩:=slot b _ (neL b o e) hb (neC b o e hx) e1 (I.base.free b o e n hx)
  exact⟨sl',e2⟩
 ·obtain⟨o',e1⟩:=I.base.there b o e hx
  exact free b o' (neC b o e hx) e1 (I.base.free b o e n hx)
 ·obtain⟨o',e1⟩:=I.base.there b o e hx
  exact there b o' (neC b o e hx) e1
 ·obtain⟨m1,e1⟩:=I.base.tbls b ps e
  obtain⟨m2,e2⟩:=tbls b _ e1
  exact⟨m1++m2,by rw [e2,Array.append_assoc]⟩
 ·obtain⟨m,hn,hl⟩:=I.loc
  refine⟨m,ns m hn,λi x v e1 e2 e3=>?_⟩
  obtain⟨u,r,l⟩:=hl i x v e1 e2 e3
  refine⟨u,r,?_⟩
  rcases l with l | ⟨k,c,e,z⟩
  ·exact .inl l
  ·exact .inr ⟨k,c,e,cellK x c e _ z⟩
 ·obtain⟨v,z⟩:=I.cell x c e
  exact⟨v,cellK x c e v z⟩
 ·obtain⟨m,⟨o,_,_,ho,_⟩,_⟩:=I.loc
  exact free _ o (λz=>(hch _ z).2.1 rfl) ho I.free
 ·obtain⟨v,o,ho,hd⟩:=I.cell x c e
  exact free c o (λz=>(hch c z).2.2.1 x c e rfl) ho (I.freeC x c e)
 ·obtain⟨e,n,ne,nf,d⟩:=I.pin p hp
  have nch:p.1∉ch:=λz=>(hch p.1 z).2.2.2 p hp rfl
  exact⟨keep p.1 p.2 ne nf nch e n,free p.1 p.2 nch e n,ne,nf,d⟩
theorem Inv.un {t':Nat} (I:Inv X pins σ H s) (u:Un X.fs [] H H' s.heap h') (hok:HOk X.prog X.w H' h'):Inv X pins σ H' { s with heap:=h',toks:=t' }:=by
 obtain⟨m,⟨o,es,ep,ho,r⟩,_⟩:=id I.loc
 obtain⟨sl,hL⟩:=u.any ho I.free (by simp)
 exact I.step (g':=s.gens) (d':=s.drawn) (ch:=[]) (λ_ z=>nomatch z) (λb o _ hb _ e n=>u.keep b o e n hb (by simp)) (λb o _ hb _ e n=>u.slot b o e n hb (by simp)) (λb o _ e n=>u.free b o e n (by simp)) (λb o _ e=>u.there b o e (by simp)) u.tups u.frzs u.tbls (λm' hm=>by
  obtain⟨o',es',ep',ho',r'⟩:=hm
  rw [ho] at ho';cases ho'
  exact⟨_,es',ep',hL,r'⟩) hok I.bare
theorem Inv.call {g':Array GenState} {t':Nat} {d':Drawn} {ch:List Addr} (I:Inv X pins σ H s) (u:Un (frs X.stack) ch H H' s.heap h') (hok:HOk X.prog X.w H' h') (hg:AllBare g')
 (hch:∀b∈ch,(b∈X.ex\/X.s₀.heap.objs.size<=b)/\b≠X.env.locals/\(∀x c,X.env.cells.lookup x=some c->c≠b)/\∀p∈X.pn++pins,p.1≠b) :
 Inv X pins σ H' { s with heap:=h',gens:=g',drawn:=d',toks:=t' }:=by
 obtain⟨m,⟨o,es,ep,ho,r⟩,_⟩:=id I.loc
 obtain⟨sl,hL⟩:=u.any ho I.free λz=>(hch _ z).2.1 rfl
 exact I.step (ch:=ch) hch (λb o hL hb hc e n=>u.keep b o e n (λz=>(List.mem_cons.mp (I.stkSub b z)).elim hL hb) hc) (λb o _ _ hc e n=>u.any e n hc) (λb o hc e n=>u.free b o e n hc) (λb o hc e=>u.there b o e hc) u.tups u.frzs u.tbls (λm' hm=>by
  obtain⟨o',es',ep',ho',r'⟩:=hm
  rw [ho] at ho';cases ho'
  exact⟨_,es',ep',hL,r'⟩) hok hg
theorem Inv.turned {t':Nat} {it:Addr} (I:Inv X pins σ H s) (k:∀b o,b≠it->s.heap.get? b=some o->h'.get? b=some o) (hn:H it=none) (hL:it≠X.env.locals)
 (h1:it∈X.ex\/X.s₀.heap.objs.size<=it) (h2:∀x c,X.env.cells.lookup x=some c->c≠it) (h3:∀p∈X.pn++pins,p.1≠it):Inv X pins σ H { s with heap:=h',toks:=t' }:=by
 have nit:∀b u,H b=some u->b≠it:=λb u e z=>by rw [z,hn] at e;cases e
 refine I.step (g':=s.gens) (d':=s.drawn) (ch:=[it]) (λb hb=>?_) (λb o _ _ hc e _=>k b o (λz=>hc (by simp [z])) e) (λb o _ _ hc e _=>⟨o.slots,k b o (λz=>hc (by simp [z])) e⟩) (λ_ _ _ _ n=>n)
  (λb o hc e=>⟨o,k b o (λz=>hc (by simp [z])) e⟩) (λ_ _ e=>e) (λ_ _ _ e=>e) (λb ps e=>⟨#[],by rw [e];simp⟩) (λm hm=>?_) (λb u e=>?_) I.bare
 ·have e:b=it:=by simpa using hb
  subst e
  exact⟨h1,hL,h2,h3⟩
 ·obtain⟨o,es,ep,ho,r⟩:=hm
  exact⟨o,es,ep,k _ o (Ne.symm hL) ho,r⟩
 ·refine (I.hok b u e).stay (λc v hc q=>k c v ?_ q) (λ_ q=>q) λ_ _ q=>q
  rcases hc with z | z
  ·rw [z];exact nit b u e
  ·exact nit c _ z
theorem Inv.tok (I:Inv X pins σ H s) (t:Nat):Inv X pins σ H { s with toks:=t }:=I.un (h':=s.heap) (t':=t) Un.refl I.hok
theorem Inv.kept {t':Nat} (I:Inv X pins σ H s) (k:∀b u,s.heap.get? b=some u->h'.get? b=some u):Inv X pins σ H { s with heap:=h',toks:=t' }:=I.un (Un.kept k) (I.hok.kept k)
theorem Inv.laid {a:Addr} {o:HO} {t':Nat} (I:Inv X pins σ H s) (k:∀b u,s.heap.get? b=some u->h'.get? b=some u) (hp:s.heap.objs.size<=a) (new:ObjOk X.prog X.w (upd H a o) h' a o) :
 Inv X pins σ (upd H a o) { s with heap:=h',toks:=t' }:=I.un (Un.laid k hp (I.hok.fresh hp)) (I.hok.laid k hp new)
theorem Inv.write {x e:Addr} {o:HO} {t':Nat} (I:Inv X pins σ H s) (mu:Mut (H x)) (he:e=x\/H e=some (.own x)) (k:∀b u,b≠e->s.heap.get? b=some u->h'.get? b=some u) (heo:∃u,h'.get? e=some u)
 (new:ObjOk X.prog X.w (upd H x o) h' x o):Inv X pins σ (upd H x o) { s with heap:=h',toks:=t' }:=I.un (Un.write mu he k heo) (I.hok.write mu he k heo new)
theorem Inv.pins_of {pins':List (Addr×Obj)} (I:Inv X pins σ H s) (h:∀p∈pins',s.heap.get? p.1=some p.2/\H p.1=none/\p.1≠X.env.locals/\p.1∉X.fs/\∀v,p.2.data≠.cell v):Inv X pins' σ H s:=
 ⟨I.ok,I.os,I.bare,I.base,I.loc,I.cell,I.free,I.freeC,λp hp=>(List.mem_append.mp hp).elim (λz=>I.pin p (List.mem_append_left _ z)) (h p),I.hok,I.len⟩
theorem ah0 {N:List Str} (hN:N.Nodup) {i j:Nat} {x:Str} (a:N[i]?=some x) (b:N[j]?=some x):i=j:=by
 obtain⟨h1,e1⟩:=List.getElem?_eq_some_iff.mp a
 obtain⟨h2,e2⟩:=List.getElem?_eq_some_iff.mp b
 exact (List.getElem_inj hN).mp (e1.trans e2.symm)
theorem av0 {M:Model} {A:Around} {E:Value->Shared->Prop} {i:Nat} {x:Str} {v:V} {u:Value} {Q:Unit->Shared->Prop} (I:Inv X pins σ H s) (hN:X.N.Nodup) (hi:X.N[i]?=some x) (hx:Loc X.env.scope x) (r:RelV v u)
 (h:∀s',Inv X pins (σ.set i (some v)) H s'->(∃a,Heap.SameBut a s.heap s'.heap/\(a=X.env.locals\/X.env.cells.lookup x=some a))->Q () s') (hf:X.fn x=true\/X.env.scope.names.lookup x=some .local:=by first | exact .inl rfl | exact .inr rfl | assumption):wpAny M A (storeName X.env x u) Q E s:=by
 obtain⟨m,hn,hl⟩:=id I.loc
 have hcls:(X.env.scope.kind == .class||(X.env.scope.kind == .module&&X.env.locals != X.env.globals))=false:=by rw [I.ok.kind];rfl
 have hiσ:i<σ.length:=by rw [I.len];exact (List.getElem?_eq_some_iff.mp hi).1
 have cne:=I.cne
 have tracked:∀{a:Addr} {h':Heap},(∃o,s.heap.get? a=some o/\H a=none)->Heap.SameBut a s.heap h'->HOk X.prog X.w H h':=λ{a h'} ha hs b ob e=>by
  obtain⟨_,_,hfree⟩:=ha
  refine (I.hok b ob e).stay (λc w' hc q=>(hs.2 c ?_).trans q) (λ_ q=>q) λ_ _ q=>q
  rintro rfl
  rcases hc with rfl | hc
  ·rw [hfree] at e;cases e
  ·rw [hfree] at hc;cases hc
 rcases hx with hk | hk
 ·refine wpAny_storeName_local hk hn (λh' hn' hs=>?_) hcls
  obtain⟨oL,_,_,hoL,_⟩:=id hn
  refine h _ ⟨I.ok,I.os,I.bare,⟨λb o e n hb hx=>?_,λb o e n hb hx=>?_,I.base.free,λb o e hx=>?_,I.base.tups,I.base.frzs,I.base.tbls⟩,⟨_,hn',λj y v' e1 e2 e3=>?_⟩,λy c e=>?_,I.free,I.freeC,λp hp=>?_,tracked ⟨oL,hoL,I.free⟩ hs,by simpa using I.len⟩ ⟨_,hs,.inl rfl⟩
  ·exact (hs.2 b (Nat.ne_of_lt (Nat.lt_of_lt_of_le (Heap.lt_size e) I.ok.above))).trans (I.base.keep b o e n hb hx)
  ·obtain⟨sl,e1⟩:=I.base.slot b o e n hb hx
   exact⟨sl,(hs.2 b (Nat.ne_of_lt (Nat.lt_of_lt_of_le (Heap.lt_size e) I.ok.above))).trans e1⟩
  ·obtain⟨o',e1⟩:=I.base.there b o e hx
   exact⟨o',(hs.2 b (Nat.ne_of_lt (Nat.lt_of_lt_of_le (Heap.lt_size e) I.ok.above))).trans e1⟩
  ·by_cases hj:j=i
   ·subst hj
    rw [hi] at e1;cases e1
    rw [List.getElem?_set_self hiσ] at e2
    cases e2
    exact⟨u,r,.inl ⟨hk,by simp⟩⟩
   ·rw [List.getElem?_set_ne (Ne.symm hj)] at e2
    obtain⟨u',r',q⟩:=hl j y v' e1 e2 e3
    refine⟨u',r',?_⟩
    rcases q with ⟨k,e⟩ | ⟨k,c,e,z⟩
    ·refine .inl ⟨k,?_⟩
     have:y≠x:=λe=>hj (ah0 hN e1 (e ▸ hi))
     simp [this,e]
    ·exact .inr ⟨k,c,e,z.sameBut hs (cne y c e)⟩
  ·obtain⟨w',z⟩:=I.cell y c e
   exact⟨w',z.sameBut hs (cne y c e)⟩
  ·obtain⟨e,n,ne,nf,d⟩:=I.pin p hp
   exact⟨(hs.2 p.1 ne).trans e,n,ne,nf,d⟩
 ·have hfn:X.fn x=true:=by
   rcases hf with z | z
   ·exact z
   ·rw [z] at hk;cases hk
  obtain⟨c,hc⟩:=I.ok.has x (.inl hk)
  obtain⟨w',z⟩:=I.cell x c hc
  refine wpAny_storeName_cell I.ok.kind hk hc z (λh' hc' hs=>?_)
  obtain⟨oc,hoc,hocd⟩:=id z
  refine h { s with heap:=h' } ⟨I.ok,I.os,I.bare,⟨λb o e n hb hx=>?_,λb o e n hb hx=>?_,I.base.free,λb o e hx=>?_,I.base.tups,I.base.frzs,I.base.tbls⟩,⟨m,hn.sameBut hs (Ne.symm (cne x c hc)),λj y v' e1 e2 e3=>?_⟩,λy c' e=>?_,I.free,I.freeC,λp hp=>?_,tracked ⟨oc,hoc,I.freeC x c hc⟩ hs,by simpa using I.len⟩ ⟨c,hs,.inr hc⟩
  ·exact (hs.2 b (Nat.ne_of_lt (Nat.lt_of_lt_of_le (Heap.lt_size e) (I.ok.cab x c hfn hc)))).trans (I.base.keep b o e n hb hx)
  ·obtain⟨sl,e1⟩:=I.base.slot b o e n hb hx
   exact⟨sl,(hs.2 b (Nat.ne_of_lt (Nat.lt_of_lt_of_le (Heap.lt_size e) (I.ok.cab x c hfn hc)))).trans e1⟩
  ·obtain⟨o',e1⟩:=I.base.there b o e hx
   exact⟨o',(hs.2 b (Nat.ne_of_lt (Nat.lt_of_lt_of_le (Heap.lt_size e) (I.ok.cab x c hfn hc)))).trans e1⟩
  ·by_cases hj:j=i
   ·subst hj
    rw [hi] at e1;cases e1
    rw [List.getElem?_set_self hiσ] at e2
    cases e2
    exact⟨u,r,.inr ⟨.inl hk,c,hc,hc'⟩⟩
   ·rw [List.getElem?_set_ne (Ne.symm hj)] at e2
    obtain⟨u',r',q⟩:=hl j y v' e1 e2 e3
    refine⟨u',r',?_⟩
    rcases q with q | ⟨k,c',e,z'⟩
    ·exact .inl q
    ·refine .inr ⟨k,c',e,z'.sameBut hs ?_⟩
     rintro rfl
     exact hj (ah0 hN e1 (I.ok.inj _ _ _ e hc ▸ hi))
  ·by_cases hcc:c'=c
   ·subst hcc;exact⟨_,hc'⟩
   ·obtain⟨w2,z2⟩:=I.cell y c' e
    exact⟨w2,z2.sameBut hs hcc⟩
  ·obtain⟨e,n,ne,nf,d⟩:=I.pin p hp
   refine⟨(hs.2 p.1 ?_).trans e,n,ne,nf,d⟩
   intro q
   rw [q,hoc] at e
   have q':oc=p.2:=Option.some.inj e
   exact d w' (by rw [←q'];exact hocd)
theorem m8 {M:Model} {A:Around} {E:Value->Shared->Prop} {i:Nat} {x:Str} {v:V} {u:Value} {Q:Unit->Shared->Prop} (I:Inv X pins σ H s) (hN:X.N.Nodup) (hi:X.N[i]?=some x) (hx:Loc X.env.scope x) (r:RelV v u)
 (h:∀s',Inv X pins (σ.set i (some v)) H s'->Q () s') (hf:X.fn x=true\/X.env.scope.names.lookup x=some .local:=by first | exact .inl rfl | exact .inr rfl | assumption):wpAny M A (storeName X.env x u) Q E s:=
 av0 I hN hi hx r (λs' I' _=>h s' I') hf
theorem Inv.call' {s':Shared} {ch:List Addr} (I:Inv X pins σ H s) (ho:s'.os=s.os) (u:Un (frs X.stack) ch H H' s.heap s'.heap) (hok:HOk X.prog X.w H' s'.heap) (hg:AllBare s'.gens)
 (hch:∀b∈ch,(b∈X.ex\/X.s₀.heap.objs.size<=b)/\b≠X.env.locals/\(∀x c,X.env.cells.lookup x=some c->c≠b)/\∀p∈X.pn++pins,p.1≠b):Inv X pins σ H' s':=by
 obtain⟨h',g',d',t',o'⟩:=s'
 have e:o'=s.os:=ho
 subst e
 exact I.call (g':=g') (t':=t') (d':=d') u hok hg hch
end
noncomputable abbrev XK:=Value->Option Addr->Hp->Prop
noncomputable abbrev St:=List (Option V)
noncomputable abbrev VK:=V->Hp->Prop
noncomputable abbrev TE:=St->Hp->VK->Prop
noncomputable abbrev TT:=St->Hp->(Bool->Hp->Prop)->Prop
noncomputable abbrev TA:=St->Hp->(List V->Hp->Prop)->Prop
structure al7 where
 nx:St->Hp->Prop
 rt:VK
 bk:St->Hp->Prop:=λ_ _=>False
 ct:St->Hp->Prop:=λ_ _=>False
noncomputable abbrev TS:=al7->St->Hp->Prop
noncomputable def EP (X:Cx) (pins:List (Addr×Obj)) (σ:St) (Q:VK) (u:Value) (s':Shared):Prop:=∃v H',Inv X pins σ H' s'/\RelV v u/\Q v H'
noncomputable def TP (X:Cx) (pins:List (Addr×Obj)) (σ:St) (Q:Bool->Hp->Prop) (b:Bool) (s':Shared):Prop:=∃H',Inv X pins σ H' s'/\Q b H'
noncomputable def AP (X:Cx) (pins:List (Addr×Obj)) (σ:St) (Q:List V->Hp->Prop) (us:List Value) (s':Shared):Prop:=∃vs H',Inv X pins σ H' s'/\Vals vs us/\Q vs H'
noncomputable def SP (X:Cx) (pins:List (Addr×Obj)) (D:al7) (f:Flow) (s':Shared):Prop:=
 match f with
 | .next=>∃σ' H',Inv X pins σ' H' s'/\D.nx σ' H'
 | .brk=>∃σ' H',Inv X pins σ' H' s'/\D.bk σ' H'
 | .cont=>∃σ' H',Inv X pins σ' H' s'/\D.ct σ' H'
 | .ret u=>∃v σ' H',Inv X pins σ' H' s'/\RelV v u/\D.rt v H'
noncomputable def PE (X:Cx) (e:Expr) (t:TE):Prop:=
 ∀(pins:List (Addr×Obj)) (s:Shared) (σ:St) (H:Hp) (Q:VK),Inv X pins σ H s->t σ H Q->wpAny (model X.prog X.w) X.A (eval e X.env) (EP X pins σ Q) X.xe s
noncomputable def PT (X:Cx) (e:Expr) (t:TT):Prop:=
 ∀(pins:List (Addr×Obj)) (s:Shared) (σ:St) (H:Hp) (Q:Bool->Hp->Prop),Inv X pins σ H s->t σ H Q->wpAny (model X.prog X.w) X.A (isTrue e X.env (eval e X.env)) (TP X pins σ Q) X.xe s
noncomputable def PW (X:Cx) (e:Expr) (t:TT):Prop:=
 ∀(whole:Sem Value) (pins:List (Addr×Obj)) (s:Shared) (σ:St) (H:Hp) (Q:Bool->Hp->Prop),Inv X pins σ H s->t σ H Q->wpAny (model X.prog X.w) X.A (isTrue e X.env whole) (TP X pins σ Q) X.xe s
theorem PW.pt {X:Cx} {e:Expr} {t:TT} (h:PW X e t):PT X e t:=h _
noncomputable def PA (X:Cx) (es:List Expr) (t:TA):Prop:=
 ∀(pos:Pos) (pins:List (Addr×Obj)) (s:Shared) (σ:St) (H:Hp) (Q:List V->Hp->Prop),Inv X pins σ H s->t σ H Q->wpAny (model X.prog X.w) X.A (spliced (backTo pos (starEach es X.env))) (AP X pins σ Q) X.xe s
noncomputable def PS (X:Cx) (st:Stmt) (t:TS):Prop:=
 ∀(pins:List (Addr×Obj)) (s:Shared) (σ:St) (H:Hp) (D:al7),Inv X pins σ H s->t D σ H->wpAny (model X.prog X.w) X.A (exec st X.env) (SP X pins D) X.xe s
noncomputable def PSs (X:Cx) (st:List Stmt) (t:TS):Prop:=
 ∀(pins:List (Addr×Obj)) (s:Shared) (σ:St) (H:Hp) (D:al7),Inv X pins σ H s->t D σ H->wpAny (model X.prog X.w) X.A (execs st X.env) (SP X pins D) X.xe s
theorem thn {α:Type} {t:Sem α} {Q Q':α->Shared->Prop} {M:Model} {A:Around} {E:Value->Shared->Prop} {s:Shared} (h:wpAny M A t Q E s) (hQ:∀a s,Q a s->Q' a s):wpAny M A t Q' E s:=wpAny_mono h hQ λ_ _ x=>x
end L2
namespace L2
open PySem PySem.Spec PyProof.Rows
section
variable {X:Cx}
noncomputable def aP7 (i:Nat):TE:=λσ H Q=>∃v,σ[i]?=some (some v)/\Q v H
noncomputable def tC (v:V):TE:=λ_ H Q=>Q v H
theorem aP8 {i:Nat} {x:Str} {pos:Pos} (hN:X.N[i]?=some x) (hv:Vis X.env.scope x) (hd:(x == ("__debug__" : Str))=false:=by decide) (hcd:(x == ("__classdict__" : Str))=false:=by decide):PE X (.Name x pos) (aP7 i):=by
 intro pins s σ H Q I h
 obtain⟨v,e,h⟩:=h
 obtain⟨m,hn,hl⟩:=I.loc
 obtain⟨u,r,l⟩:=hl i x v hN e hv
 have fin:EP X pins σ Q u s:=⟨v,H,I,r,h⟩
 rcases l with ⟨hk,hm⟩ | ⟨hk,c,hc,hcell⟩
 ·exact wpAny_Name (wpAny_loadName_local I.ok.kind hk hn hm fin) hd
 ·rcases hk with hk | hk
  ·exact wpAny_Name (wpAny_loadName_cell I.ok.kind hk hc hcell fin) hd
  ·exact wpAny_Name (wpAny_loadName_free I.ok.kind hk hc hcell fin hcd) hd
theorem az3 {i j pos}:PE X (.Constant (.int i) j pos) (tC (.int i)):=λ_ _ _ H _ I h=>wpAny_Constant_int ⟨.int i,H,I.tok _,⟨_,rfl⟩,h⟩
theorem aX1 {b j pos}:PE X (.Constant (.bool b) j pos) (tC (.bl b)):=λ_ _ _ H _ I h=>Constant_bool ⟨.bl b,H,I,rfl,h⟩
theorem aP9 {j pos}:PE X (.Constant .none j pos) (tC .non):=λ_ _ _ H _ I h=>Constant_none ⟨.non,H,I,rfl,h⟩
theorem aQ0 {x j pos}:PE X (.Constant (.str x) j pos) (tC (.str x)):=λ_ _ _ H _ I h=>Calls.Constant_str ⟨.str x,H,I.tok _,⟨_,rfl⟩,h⟩
noncomputable def Gl (X:Cx) (x:Str):Prop:=X.env.kindOf x=some .globalImplicit
theorem j8 {E:Value->Shared->Prop} {pins:List (Addr×Obj)} {s:Shared} {σ:St} {H:Hp} {x:Str} {u:Value} {pos:Pos} {Q:Value->Shared->Prop} (I:Inv X pins σ H s) (hg:Gl X x) (hm:X.mg x=some u) (h:Q u s)
 (hd:(x == ("__debug__" : Str))=false:=by decide):wpAny (model X.prog X.w) X.A (eval (.Name x pos) X.env) Q E s:=
 Calls.Name_function_global I.ok.kind hg (Calls.loadGlobal_global (by rw [I.ok.glob];exact I.mod.glob.keeps I.bk) hm h) hd
theorem V9 {E:Value->Shared->Prop} {pins:List (Addr×Obj)} {s:Shared} {σ:St} {H:Hp} {x:Str} {u:Value} {pos:Pos} {Q:Value->Shared->Prop} (I:Inv X pins σ H s) (hg:Gl X x) (hm:X.mg x=none) (hv:bootBuiltins x=some u) (h:Q u s)
 (hn:x≠"__name__":=by decide) (hd:(x == ("__debug__" : Str))=false:=by decide):wpAny (model X.prog X.w) X.A (eval (.Name x pos) X.env) Q E s:=by
 obtain⟨mb,h1,h2⟩:=I.mod.blt
 exact Calls.Name_function_global I.ok.kind hg (Calls.loadGlobal_builtin (by rw [I.ok.glob];exact I.mod.glob.keeps I.bk) hm (by rw [I.ok.blt];exact h1.keeps I.bk) ((h2 x hn).trans hv) h) hd
theorem aq1 {x:Str} {v:V} {u:Value} {pos:Pos} (hg:Gl X x) (hm:X.mg x=some u) (r:RelV v u) (hd:(x == ("__debug__" : Str))=false:=by decide):PE X (.Name x pos) (tC v):=
 λ_ _ _ H _ I h=>j8 I hg hm ⟨v,H,I,r,h⟩ hd
theorem aq2 {x:Str} {v:V} {u:Value} {pos:Pos} (hg:Gl X x) (hm:X.mg x=none) (hv:bootBuiltins x=some u) (r:RelV v u) (hn:x≠"__name__":=by decide) (hd:(x == ("__debug__" : Str))=false:=by decide):PE X (.Name x pos) (tC v):=
 λ_ _ _ H _ I h=>V9 I hg hm hv ⟨v,H,I,r,h⟩ hn hd
variable {a b:Expr} {ta tb:TE} {pos:Pos}
noncomputable def PC (X:Cx) (op:CmpOp) (a b:Expr) (t:TE):Prop:=
 ∀(pins:List (Addr×Obj)) (s:Shared) (σ:St) (H:Hp) (Q:VK),Inv X pins σ H s->t σ H Q->
  wpAny (model X.prog X.w) X.A (eval a X.env) (λv s₁=>wpAny (model X.prog X.w) X.A (eval b X.env) (λu s₂=>wpAny (model X.prog X.w) X.A (compareOp op v u) (EP X pins σ Q) X.xe s₂) X.xe s₁) X.xe s
noncomputable def aX2 (ta:TE):TE:=λσ H Q=>ta σ H λx H1=>Q (.bl (decide (x=.non))) H1
noncomputable def aN7 (ta:TE):TE:=λσ H Q=>ta σ H λx H1=>Q (.bl (!decide (x=.non))) H1
theorem RelV.none_iff {x:V} {v:Value} (r:RelV x v):(v == Value.none)=decide (x=.non):=by
 cases x with
 | non=>cases r;rfl
 | bl _=>cases r;rfl
 | int _=>obtain⟨t,rfl⟩:=r;rfl
 | str _=>obtain⟨t,rfl⟩:=r;rfl
 | byt _=>obtain⟨t,rfl⟩:=r;rfl
 | flt _=>obtain⟨t,rfl⟩:=r;rfl
 | ref _=>cases r;rfl
 | ty _=>cases r;rfl
theorem az4 {j pos'} (ha:PE X a ta):PC X .Is a (.Constant .none j pos') (aX2 ta):=by
 intro pins s σ H Q I h
 refine thn (ha pins s σ H _ I h) λv s1 ⟨x,H1,I1,r1,q1⟩=>?_
 exact Constant_none (is_none_gen ⟨.bl _,H1,I1,by rw [r1.none_iff];rfl,q1⟩)
theorem aH9 {j pos'} (ha:PE X a ta):PC X .IsNot a (.Constant .none j pos') (aN7 ta):=by
 intro pins s σ H Q I h
 refine thn (ha pins s σ H _ I h) λv s1 ⟨x,H1,I1,r1,q1⟩=>?_
 exact Constant_none (isnot_none_gen ⟨.bl _,H1,I1,by rw [r1.none_iff];rfl,q1⟩)
noncomputable def tB (t:TE):TT:=λσ H Q=>t σ H λx H1=>∃c,x=.bl c/\Q c H1
theorem aQ1 {op:CmpOp} {t:TE} (h:PC X op a b t) (h1:behindInMarks op b=false:=by first | exact nobehind _ (by decide) (by decide) | rfl):PE X (.Compare a [op] [b] pos) t:=λpins s σ H Q I hw=>wpAny_Compare1 (h pins s σ H Q I hw) h1
theorem az5 {op:CmpOp} {t:TE} (h:PC X op a b t) (h1:behindInMarks op b=false:=by first | exact nobehind _ (by decide) (by decide) | rfl):PT X (.Compare a [op] [b] pos) (tB t):=by
 intro pins s σ H Q I hw
 refine wpAny_isTrue_Compare1 (thn (h pins s σ H _ I hw) λv s1 h1=>thn h1 λu s2 h2=>thn h2 λc s3 ⟨x,H1,I1,r1,q1⟩=>?_) h1
 obtain⟨d,rfl,q⟩:=q1
 cases r1
 exact wpAny_truthy_bool ⟨H1,I1,q⟩
theorem aQ2 {e:Expr} {t:TE} (h:PE X e t) (he:∀whole,isTrue e X.env whole=(do let v ←whole;standAt e.pos;holding [v] (truthy v)):=by intro _;rfl):PT X e (tB t):=by
 intro pins s σ H Q I hw
 refine isTrue_plain (thn (h pins s σ H _ I hw) λv s1 ⟨x,H1,I1,r1,q1⟩=>?_) (he _)
 obtain⟨d,rfl,q⟩:=q1
 cases r1
 exact wpAny_truthy_bool ⟨H1,I1,q⟩
variable {tA tB':TT} {rest:List Expr}
noncomputable def tOr (t u:TT):TT:=λσ H Q=>t σ H λc H1=>if c=true then Q true H1 else u σ H1 Q
noncomputable def tNot (t:TT):TT:=λσ H Q=>t σ H λc H1=>Q (!c) H1
theorem aQ3 (ha:PT X a tA):PW X (.BoolOp .Or [a] pos) tA:=by
 intro wh pins s σ H Q I h
 refine isTrue_or (thn (ha pins s σ H Q I h) λc s1 e=>?_)
 cases c with
 | false=>exact isTrue_or_nil e
 | true=>exact e
theorem aX3 (ha:PT X a tA) (hb:PW X (.BoolOp .Or (b::rest) pos) tB'):PW X (.BoolOp .Or (a::b::rest) pos) (tOr tA tB'):=by
 intro wh pins s σ H Q I h
 refine isTrue_or (thn (ha pins s σ H _ I h) λc s1 ⟨H1,I1,q1⟩=>?_)
 cases c with
 | true=>exact⟨H1,I1,q1⟩
 | false=>exact hb wh pins s1 σ H1 Q I1 q1
theorem aQ4 (ha:PT X a tA):PT X (.UnaryOp .Not a pos) (tNot tA):=by
 intro pins s σ H Q I h
 exact isTrue_not (ha pins s σ H (λc H1=>Q (!c) H1) I h)
noncomputable def aX4 (ta tb:TE):TE:=λσ H Q=>ta σ H λx H1=>∃c,x=.bl c/\if c=true then tb σ H1 Q else Q (.bl false) H1
noncomputable def aX5 (ta:TE):TE:=λσ H Q=>ta σ H λx H1=>∃c,x=.bl c/\Q (.bl (!c)) H1
theorem aQ5 {op} {t:TE} (h:PE X a t):PE X (.BoolOp op [a] pos) t:=λpins s σ H Q I hw=>BoolOp_one (h pins s σ H Q I hw)
theorem aQ6 (ha:PE X a ta) (hb:PE X (.BoolOp .And (b::rest) pos) tb):PE X (.BoolOp .And (a::b::rest) pos) (aX4 ta tb):=by
 intro pins s σ H Q I h
 refine BoolOp_and (thn (ha pins s σ H _ I h) λv s1 ⟨x,H1,I1,r1,q1⟩=>?_)
 obtain⟨c,rfl,q1⟩:=q1
 cases r1
 refine wpAny_truthy_bool ?_
 cases c with
 | true=>exact hb pins s1 σ H1 Q I1 q1
 | false=>exact⟨.bl false,H1,I1,rfl,q1⟩
theorem aQ7 (ha:PE X a ta):PE X (.UnaryOp .Not a pos) (aX5 ta):=by
 intro pins s σ H Q I h
 refine UnaryOp_ (thn (ha pins s σ H _ I h) λv s1 ⟨x,H1,I1,r1,q1⟩=>?_)
 obtain⟨c,rfl,q1⟩:=q1
 cases r1
 exact not_of (wpAny_truthy_bool ⟨.bl (!c),H1,I1,rfl,q1⟩)
noncomputable def tIf (t:TT) (ta tb:TE):TE:=λσ H Q=>t σ H λc H1=>if c=true then ta σ H1 Q else tb σ H1 Q
theorem az6 {c:Expr} (hc:PT X c tA) (ha:PE X a ta) (hb:PE X b tb):PE X (.IfExp c a b pos) (tIf tA ta tb):=by
 intro pins s σ H Q I h
 refine wpAny_IfExp (thn (hc pins s σ H _ I h) λd s1 ⟨H1,I1,q1⟩=>?_)
 cases d with
 | true=>exact ha pins s1 σ H1 Q I1 q1
 | false=>exact hb pins s1 σ H1 Q I1 q1
end
end L2
namespace L2
open PySem PySem.Spec PyProof.Rows
noncomputable def SqL (K:PySem.W.Frag) (H:Hp) (a:Addr) (xs:List V):Prop:=
 Rd H a (.lst xs)\/
  ∃(o:Obj) (its:Array Value) (n:Nat),K.lookup a=some o/\o.cls=.type "list"/\o.dict=none/\o.data=.seq its n/\its.size<=sizeLine/\Vals xs its.toList
noncomputable def SqT (K:PySem.W.Frag) (H:Hp) (a:Addr) (xs:List V):Prop:=
 Rd H a (.tup xs)\/
  ∃(o:Obj) (its:Array Value) (n:Nat),K.lookup a=some o/\o.cls=.type "tuple"/\o.data=.seq its n/\its.size<=sizeLine/\Vals xs its.toList
noncomputable def a33:Value->Option V
 | .none=>some .non
 | .bool b=>some (.bl b)
 | .int i _=>some (.int i)
 | .str x _=>some (.str x)
 | .bytes b _=>some (.byt b)
 | .float b _=>some (.flt b)
 | .ref a=>some (.ref a)
 | .type n=>some (.ty n)
 | _=>none
theorem RelV.abs {x:V} {u:Value} (r:RelV x u):a33 u=some x:=by
 cases x with
 | non=>cases r;rfl
 | bl _=>cases r;rfl
 | int _=>obtain⟨t,rfl⟩:=r;rfl
 | str _=>obtain⟨t,rfl⟩:=r;rfl
 | byt _=>obtain⟨t,rfl⟩:=r;rfl
 | flt _=>obtain⟨t,rfl⟩:=r;rfl
 | ref _=>cases r;rfl
 | ty _=>cases r;rfl
theorem RelV.inj {x y:V} {u:Value} (r:RelV x u) (q:RelV y u):x=y:=Option.some.inj (r.abs.symm.trans q.abs)
theorem Vals.inj:∀{xs ys:List V} {us:List Value},Vals xs us->Vals ys us->xs=ys
 | _,_,_,.nil,.nil=>rfl
 | _,_,_,.cons r t,.cons r' t'=>by rw [r.inj r',Vals.inj t t']
section
variable {X:Cx} {pins:List (Addr×Obj)} {σ:St} {H:Hp} {s:Shared} {a:Addr} {xs ys:List V}
theorem SqL.of {K:PySem.W.Frag} (h:H a=some (.lst xs)):SqL K H a xs:=.inl (.inl h)
theorem SqT.of {K:PySem.W.Frag} (h:H a=some (.tup xs)):SqT K H a xs:=.inl (.inl h)
theorem Inv.list (I:Inv X pins σ H s) (h:SqL X.K H a xs):∃its:List Value,Vals xs its/\PlainL s.heap a its.toArray/\xs.length<=sizeLine:=by
 rcases h with h | ⟨o,its,n,hk,hc,hd,hs,hz,r⟩
 ·obtain⟨z,its,n,r,e⟩:=h.ok I.hok
  exact⟨its,r,⟨_,n,e,rfl,rfl,rfl⟩,z⟩
 ·refine⟨its.toList,r,⟨o,n,I.kIn a o hk,hc,hd,by simpa using hs⟩,?_⟩
  have e:=r.length
  simp only [Array.length_toList] at e
  omega
theorem Inv.tuple (I:Inv X pins σ H s) (h:SqT X.K H a xs):∃its:List Value,Vals xs its/\IsTup s.heap a its.toArray/\xs.length<=sizeLine:=by
 rcases h with h | ⟨o,its,n,hk,hc,hs,hz,r⟩
 ·obtain⟨z,its,r,p⟩:=h.ok I.hok
  exact⟨its,r,p,z⟩
 ·refine⟨its.toList,r,⟨o,I.kIn a o hk,hc,n,by simpa using hs⟩,?_⟩
  have e:=r.length
  simp only [Array.length_toList] at e
  omega
theorem Inv.list_inj (I:Inv X pins σ H s) (h:SqL X.K H a xs) (h':SqL X.K H a ys):xs=ys:=by
 obtain⟨its,r,⟨o,n,e,_,_,d⟩,_⟩:=I.list h
 obtain⟨its',r',⟨o',n',e',_,_,d'⟩,_⟩:=I.list h'
 rw [e] at e';cases e'
 rw [d] at d'
 injection d' with d1 _
 have:its=its':=by simpa using congrArg Array.toList d1
 subst this
 exact r.inj r'
theorem Inv.tuple_inj (I:Inv X pins σ H s) (h:SqT X.K H a xs) (h':SqT X.K H a ys):xs=ys:=by
 obtain⟨its,r,⟨o,e,_,n,d⟩,_⟩:=I.tuple h
 obtain⟨its',r',⟨o',e',_,n',d'⟩,_⟩:=I.tuple h'
 rw [e] at e';cases e'
 rw [d] at d'
 injection d' with d1 _
 have:its=its':=by simpa using congrArg Array.toList d1
 subst this
 exact r.inj r'
end
noncomputable abbrev Cx.wish (X:Cx) (E:Value->Shared->Prop):Cx:={ X with xe:=E }
noncomputable abbrev Cx.nox (X:Cx):Cx:=X.wish λ_ _=>False
theorem Cx.Ok.wish {X:Cx} (ok:X.Ok) (E:Value->Shared->Prop):(X.wish E).Ok:=
 ⟨ok.mod,ok.kind,ok.glob,ok.blt,ok.above,ok.inj,ok.has,ok.cab,ok.hd,ok.frames,ok.stk,ok.exf,ok.bs,ok.bsz,ok.noex,ok.exfs,ok.funs,ok.frf⟩
theorem Cx.Ok.unwish {X:Cx} {E:Value->Shared->Prop} (ok:(X.wish E).Ok):X.Ok:=
 ⟨ok.mod,ok.kind,ok.glob,ok.blt,ok.above,ok.inj,ok.has,ok.cab,ok.hd,ok.frames,ok.stk,ok.exf,ok.bs,ok.bsz,ok.noex,ok.exfs,ok.funs,ok.frf⟩
section
variable {X:Cx} {pins:List (Addr×Obj)} {σ:St} {H:Hp} {s:Shared} {E:Value->Shared->Prop}
theorem Inv.wish (I:Inv X pins σ H s) (E:Value->Shared->Prop):Inv (X.wish E) pins σ H s:=⟨I.ok.wish E,I.os,I.bare,I.base,I.loc,I.cell,I.free,I.freeC,I.pin,I.hok,I.len⟩
theorem Inv.unwish (I:Inv (X.wish E) pins σ H s):Inv X pins σ H s:=⟨I.ok.unwish,I.os,I.bare,I.base,I.loc,I.cell,I.free,I.freeC,I.pin,I.hok,I.len⟩
theorem SP.unwish {D:al7} {f:Flow} {s':Shared} (h:SP (X.wish E) pins D f s'):SP X pins D f s':=by
 cases f with
 | next=>obtain⟨σ',H',I,q⟩:=h;exact⟨σ',H',I.unwish,q⟩
 | brk=>obtain⟨σ',H',I,q⟩:=h;exact⟨σ',H',I.unwish,q⟩
 | cont=>obtain⟨σ',H',I,q⟩:=h;exact⟨σ',H',I.unwish,q⟩
 | ret u=>obtain⟨v,σ',H',I,r,q⟩:=h;exact⟨v,σ',H',I.unwish,r,q⟩
theorem PSs.nox {st:List Stmt} {t:TS} (h:PSs X.nox st t):PSs X st t:=λpins s σ H D I hw=>
 wpAny_mono (h pins s σ H D (I.wish _) hw) (λ_ _ q=>q.unwish) λ_ _ z=>False.elim z
end
section
variable {X:Cx} {st:Stmt} {rest:List Stmt} {t u:TS} {e:Expr} {te:TE} {pos:Pos}
noncomputable def tNext:TS:=λD σ H=>D.nx σ H
noncomputable def a34 (t u:TS):TS:=λD σ H=>t { D with nx:=u D } σ H
theorem aI0:PSs X [] tNext:=λ_ _ σ H _ I h=>wpAny_execs_nil ⟨σ,H,I,h⟩
theorem az7 (h1:PS X st t) (h2:PSs X rest u):PSs X (st::rest) (a34 t u):=by
 intro pins s σ H D I h
 refine wpAny_execs_cons (thn (h1 pins s σ H { D with nx:=u D } I h) λf s1 q=>?_)
 cases f with
 | next=>
   obtain⟨σ',H',I',q⟩:=q
   exact h2 pins s1 σ' H' D I' q
 | ret v=>exact q
 | brk=>exact q
 | cont=>exact q
theorem aI1 (h1:PS X st t):PSs X [st] t:=by
 intro pins s σ H D I h
 refine wpAny_execs_cons (thn (h1 pins s σ H D I h) λf s1 q=>?_)
 cases f with
 | next=>exact wpAny_execs_nil q
 | ret v=>exact q
 | brk=>exact q
 | cont=>exact q
theorem Inv.quiet {pins:List (Addr×Obj)} {σ:St} {H:Hp} {s:Shared} (I:Inv X pins σ H s):interactive X.env=false:=by simp [interactive,I.ok.kind]
noncomputable def aX6 (te:TE):TS:=λD σ H=>te σ H λ_ H1=>D.nx σ H1
theorem aI2 (he:PE X e te) (hs:swapsWith e none pos.line X.env=pure false:=by rfl):PS X (.Expr e pos) (aX6 te):=by
 intro pins s σ H D I h
 exact wpAny_Expr_any (thn (he pins s σ H _ I h) λv s1 ⟨x,H1,I1,r1,q1⟩=>⟨σ,H1,I1,q1⟩) I.quiet hs
noncomputable def a35 (te:TE):TS:=λD σ H=>te σ H D.rt
theorem aQ8 (he:PE X e te):PS X (.Return (some e) pos) (a35 te):=by
 intro pins s σ H D I h
 exact wpAny_Return_some (thn (he pins s σ H _ I h) λv s1 ⟨x,H1,I1,r1,q1⟩=>⟨x,σ,H1,I1,r1,q1⟩)
noncomputable def a36 (c:TT) (t u:TS):TS:=λD σ H=>c σ H λb H1=>if b=true then t D σ H1 else u D σ H1
theorem aX7 {c:Expr} {a b:List Stmt} {tc:TT} (hc:PT X c tc) (ha:PSs X a t) (hb:PSs X b u):PS X (.If c a b pos) (a36 tc t u):=by
 intro pins s σ H D I h
 refine wpAny_If (thn (hc pins s σ H _ I h) λd s1 ⟨H1,I1,q1⟩=>?_)
 cases d with
 | true=>exact ha pins s1 σ H1 D I1 q1
 | false=>exact hb pins s1 σ H1 D I1 q1
noncomputable def tNever:TS:=λ_ _ _=>False
theorem az8:PS X st tNever:=λ_ _ _ _ _ _ h=>h.elim
end
noncomputable abbrev TG:=V->St->Hp->(St->Hp->Prop)->Prop
noncomputable abbrev TGs:=List V->St->Hp->(St->Hp->Prop)->Prop
noncomputable def PG (X:Cx) (target:Expr) (t:TG):Prop:=
 ∀(pins:List (Addr×Obj)) (s:Shared) (σ:St) (H:Hp) (v:V) (u:Value) (Q:St->Hp->Prop),Inv X pins σ H s->RelV v u->t v σ H Q->
  wpAny (model X.prog X.w) X.A (assign target X.env u) (λ_ s'=>∃σ' H',Inv X pins σ' H' s'/\Q σ' H') X.xe s
noncomputable def PGs (X:Cx) (ts:List Expr) (t:TGs):Prop:=
 ∀(pins:List (Addr×Obj)) (s:Shared) (σ:St) (H:Hp) (vs:List V) (us:List Value) (Q:St->Hp->Prop),Inv X pins σ H s->Vals vs us->t vs σ H Q->
  wpAny (model X.prog X.w) X.A (assignInOrder ((assignEach ts X.env).map (·.2)) us) (λ_ s'=>∃σ' H',Inv X pins σ' H' s'/\Q σ' H') X.xe s
section
variable {X:Cx} {pos:Pos}
noncomputable def gName (i:Nat):TG:=λv σ H Q=>Q (σ.set i (some v)) H
theorem J9 {i:Nat} {x:Str} (hN:X.N.Nodup) (hi:X.N[i]?=some x) (hx:Loc X.env.scope x) (hf:X.fn x=true\/X.env.scope.names.lookup x=some .local:=by first | exact .inl rfl | exact .inr rfl | assumption):PG X (.Name x pos) (gName i):=by
 intro pins s σ H v u Q I r h
 exact wpAny_assign_Name (m8 I hN hi hx r (λs' I'=>⟨_,H,I',h⟩) hf)
noncomputable def gNil:TGs:=λvs σ H Q=>vs=[]/\Q σ H
noncomputable def gCons (t:TG) (u:TGs):TGs:=λvs σ H Q=>∃v r,vs=v::r/\t v σ H λσ' H'=>u r σ' H' Q
theorem aI3:PGs X [] gNil:=by
 intro pins s σ H vs us Q I r h
 obtain⟨e,h⟩:=h
 subst e
 cases r
 exact assignInOrder_nil ⟨σ,H,I,h⟩
theorem az9 {e:Expr} {es:List Expr} {t:TG} {u:TGs} (h1:PG X e t) (h2:PGs X es u)
 (hs:(assignEach (e::es) X.env).map (·.2)=assign e X.env::(assignEach es X.env).map (·.2):=by rfl):PGs X (e::es) (gCons t u):=by
 intro pins s σ H vs us Q I r h
 obtain⟨v,vr,e1,h⟩:=h
 subst e1
 cases r with
 | cons r rr=>
   rw [hs]
   refine assignInOrder_cons (thn (h1 pins s σ H _ _ _ I r h) λ_ s1 ⟨σ1,H1,I1,q1⟩=>?_)
   exact h2 pins s1 σ1 H1 _ _ Q I1 rr q1
noncomputable def gTup (K:PySem.W.Frag) (n:Nat) (t:TGs):TG:=λv σ H Q=>∃a xs,v=.ref a/\SqT K H a xs/\xs.length=n/\t xs σ H Q
theorem aQ9 {es:List Expr} {k:Nat} {t:TGs} {n:Nat} (hc:X.calm=true) (h:PGs X es t)
 (hn:(assignEach es X.env).length=n:=by rfl) (hst:(assignEach es X.env).findIdx? (·.1)=none:=by rfl):PG X (.Tuple es k pos) (gTup X.K n t):=by
 intro pins s σ H v u Q I r hw
 obtain⟨a,xs,e1,hq,hl,hw⟩:=hw
 subst e1
 cases r
 obtain⟨its,rv,ht,hz⟩:=I.tuple hq
 refine assign_Tuple_tuple (I.ok.hd hc) ht (by simp [hn,←hl,rv.length]) hst λh' hx=>?_
 have I1:Inv X pins σ H { s with heap:=h' }:=I.kept (t':=s.toks) λb o e=>hx b o (Nat.ne_of_lt (Heap.lt_size e)) e
 exact h pins _ σ H xs _ Q I1 (by simpa using rv) hw
noncomputable def aX8 (te:TE) (g:TG):TS:=λD σ H=>te σ H λx H1=>g x σ H1 D.nx
theorem aR0 {i:Nat} {x:Str} {e:Expr} {te:TE} {pos':Pos} (hN:X.N.Nodup) (hi:X.N[i]?=some x) (hx:Loc X.env.scope x) (he:PE X e te) (hs:swapsWith e (some (.Name x pos')) pos.line X.env=pure false:=by rfl) (hf:X.fn x=true\/X.env.scope.names.lookup x=some .local:=by first | exact .inl rfl | exact .inr rfl | assumption) :
 PS X (.Assign [.Name x pos'] e pos) (aX8 te (gName i)):=by
 intro pins s σ H D I h
 refine wpAny_Assign_Name (thn (he pins s σ H _ I h) λv s1 ⟨y,H1,I1,r1,q1⟩=>?_) hs
 exact m8 I1 hN hi hx r1 (λs2 I2=>⟨_,H1,I2,q1⟩) hf
end
structure It where
 go:Nat->Hp->Prop
 yld:Nat->Hp->V->Hp->Prop
 stop:Nat->Hp->Prop
noncomputable def X0 (X:Cx) (pins:List (Addr×Obj)) (H:Hp) (b:Addr):Prop:=
 H b=none/\b≠X.env.locals/\b∉X.fs/\(b∈X.ex\/X.s₀.heap.objs.size<=b)/\(∀x c,X.env.cells.lookup x=some c->c≠b)/\∀p∈X.pn++pins,p.1≠b
theorem Inv.fpOk {X:Cx} {pins:List (Addr×Obj)} {σ:St} {H H':Hp} {s:Shared} {b:Addr} (I:Inv X pins σ H s) (hb:s.heap.objs.size<=b) (hn:H' b=none):X0 X pins H' b:=by
 refine⟨hn,Nat.ne_of_gt (Nat.lt_of_lt_of_le I.lt hb),I.nofs hb,.inr (Nat.le_trans I.sz hb),λx c e z=>?_,λp hp z=>?_⟩
 ·obtain⟨v,q⟩:=I.cell x c e
  exact absurd (Nat.lt_of_lt_of_le q.lt (by rw [z];exact hb)) (Nat.lt_irrefl _)
 ·exact absurd (Nat.lt_of_lt_of_le (Heap.lt_size (I.pin p hp).1) (by rw [z];exact hb)) (Nat.lt_irrefl _)
structure al8 (P:Program) (w:World) (K:PySem.W.Frag) (tg:Expr) (J:It) (fp:List Addr) (it:Addr) (tn:Nat->Heap->Prop):Prop where
 mem:it∈fp
 obj:∀i h,tn i h->∀b∈fp,∃o,h.get? b=some o/\∀v,o.data≠.cell v
 keep:∀i h h',tn i h->(∀b∈fp,∀o,h.get? b=some o->h'.get? b=some o)->tn i h'
 item:∀(X:Cx),X.prog=P->X.w=w->X.K=K->X.calm=true->∀(i:Nat) (pins:List (Addr×Obj)) (s:Shared) (σ:St) (H:Hp) (E:Value->Shared->Prop),Inv X pins σ H s->(∀b∈fp,X0 X pins H b)->tn i s.heap->J.go i H->
  wpAny (model P w) X.A (pyNext (.ref it)) (λr s1=>∃u,r=some u/\
   wpAny (model P w) X.A (letOwnedTupleGo tg (.ref it) u) (λ_ s2=>∃x H',Inv X pins σ H' s2/\RelV x u/\J.yld i H x H'/\tn (i+1) s2.heap/\∀b∈fp,H' b=none) E s1) E s
 done:∀(X:Cx),X.prog=P->X.w=w->X.K=K->X.calm=true->∀(i:Nat) (pins:List (Addr×Obj)) (s:Shared) (σ:St) (H:Hp) (E:Value->Shared->Prop),Inv X pins σ H s->(∀b∈fp,X0 X pins H b)->tn i s.heap->J.stop i H->
  wpAny (model P w) X.A (pyNext (.ref it)) (λr s1=>r=none/\Inv X pins σ H s1) E s
 self:∀(A:Around) (i:Nat) (s:Shared) (Q:Value->Shared->Prop) (E:Value->Shared->Prop),tn i s.heap->Q (.ref it) s->wpAny (model P w) A (pyIter (.ref it)) Q E s
noncomputable abbrev TI:=St->Hp->(It->Hp->Prop)->Prop
noncomputable def PIE (X:Cx) (pins:List (Addr×Obj)) (σ:St) (tg:Expr) (R:It->Hp->Prop) (itv:Value) (s2:Shared):Prop:=
 ∃(it:Addr) (fp:List Addr) (tn:Nat->Heap->Prop) (J:It) (H':Hp),itv=.ref it/\Inv X pins σ H' s2/\al8 X.prog X.w X.K tg J fp it tn/\tn 0 s2.heap/\(∀b∈fp,X0 X pins H' b)/\R J H'
noncomputable def PI (X:Cx) (tg iter:Expr) (wi:TI):Prop:=
 ∀(pins:List (Addr×Obj)) (s:Shared) (σ:St) (H:Hp) (R:It->Hp->Prop),Inv X pins σ H s->wi σ H R->
  wpAny (model X.prog X.w) X.A (eval iter X.env) (λv s1=>wpAny (model X.prog X.w) X.A (pyIter v) (PIE X pins σ tg R) X.xe s1) X.xe s
theorem aA0 {M:Model} {A:Around} {E:Value->Shared->Prop} {s:Shared} {tg:Expr} {it:Addr} {u:Value} {o:Obj} {n:String} {vs:Array Value} {Q:Unit->Shared->Prop} (ho:s.heap.get? it=some o) (hc:o.cls=.type n) (hd:o.data=.fields vs)
 (hn:["enumerate","zip","dict_itemiterator","dict_reverseitemiterator","odict_iterator","itertools.zip_longest","itertools.pairwise"].contains n=false) (hQ:Q () s):wpAny M A (letOwnedTupleGo tg (.ref it) u) Q E s:=by
 unfold letOwnedTupleGo
 cases tg <;> first
  | exact wpAny_pure hQ
  | (cases u <;> first
   | exact wpAny_pure hQ
   | (refine wpAny_bind (wpAny_load ho ?_)
      rw [hc,hd]
      show wpAny M A (if (["enumerate","zip","dict_itemiterator","dict_reverseitemiterator","odict_iterator","itertools.zip_longest","itertools.pairwise"].contains n&&vs[0]? == some (rawInt _))=true then _ else _) Q E s
      rw [if_neg (by intro h;rw [hn,Bool.false_and] at h;cases h)]
      exact wpAny_pure hQ))
noncomputable def Itl (K:PySem.W.Frag) (a:Addr):It:=
 ⟨λi H=>∃xs x,SqL K H a xs/\xs[i]?=some x,λi H x H'=>H'=H/\∀xs,SqL K H a xs->xs[i]?=some x,λi H=>∃xs,SqL K H a xs/\xs.length<=i⟩
noncomputable def Itt (K:PySem.W.Frag) (a:Addr):It:=
 ⟨λi H=>∃xs x,SqT K H a xs/\xs[i]?=some x,λi H x H'=>H'=H/\∀xs,SqT K H a xs->xs[i]?=some x,λi H=>∃xs,SqT K H a xs/\xs.length<=i⟩
noncomputable def Itr (lo:Int) (n:Nat):It:=⟨λi _=>i<n,λi H x H'=>H'=H/\x=.int (lo+i),λi _=>n<=i⟩
theorem ab2 {P:Program} {w:World} {K:PySem.W.Frag} {tg:Expr} (a it:Addr):al8 P w K tg (Itl K a) [it] it (λi h=>h.IsListIter it a i) where
 mem:=by simp
 obj:=λi h st b hb=>by
  have e:b=it:=by simpa using hb
  subst e
  obtain⟨o,e,c,d⟩:=st
  exact⟨o,e,λv z=>by rw [d] at z;cases z⟩
 keep:=λi h h' st k=>st.at λo e=>k it (by simp) o e
 item:=by
  intro X hP hw hK hc i pins s σ H E I hf st hg
  subst hP hw hK
  obtain⟨xs,x,hq,hx⟩:=hg
  obtain⟨its,rv,p,hz⟩:=I.list hq
  obtain⟨u,hu,ru⟩:=rv.get hx
  obtain⟨f0,f1,f2,f3,f4,f5⟩:=hf it (by simp)
  refine wpAny_pyNext_list_item st p.isList (x:=u) (by simpa using hu) λh' st' sb=>?_
  have I1:Inv X pins σ H { s with heap:=h' }:=I.turned (t':=s.toks) (λb o hb e=>(sb.2 b hb).trans e) f0 f1 f3 f4 f5
  obtain⟨o,e,c,d⟩:=id st'
  exact⟨u,rfl,aA0 (s:={ s with heap:=h' }) e c d (by decide) ⟨x,H,I1,ru,⟨rfl,λys hy=>by rw [I.list_inj hy hq];exact hx⟩,st',λb hb=>(hf b hb).1⟩⟩
 done:=by
  intro X hP hw hK hc i pins s σ H E I hf st hg
  subst hP hw hK
  obtain⟨xs,hq,hx⟩:=hg
  obtain⟨its,rv,p,hz⟩:=I.list hq
  obtain⟨f0,f1,f2,f3,f4,f5⟩:=hf it (by simp)
  have hl:=rv.length
  exact wpAny_pyNext_list_end (I.ok.hd hc) st p.isList (by simp;omega) λh' eb=>⟨rfl,I.turned (t':=s.toks) (λb o hb e=>eb b o hb e) f0 f1 f3 f4 f5⟩
 self:=λ_ _ _ _ _ st h=>wpAny_pyIter_listiter st h
theorem m9 {P:Program} {w:World} {K:PySem.W.Frag} {tg:Expr} (a it:Addr):al8 P w K tg (Itt K a) [it] it (λi h=>h.IsTupleIter it a i) where
 mem:=by simp
 obj:=λi h st b hb=>by
  have e:b=it:=by simpa using hb
  subst e
  obtain⟨o,e,c,d⟩:=st
  exact⟨o,e,λv z=>by rw [d] at z;cases z⟩
 keep:=λi h h' st k=>st.at λo e=>k it (by simp) o e
 item:=by
  intro X hP hw hK hc i pins s σ H E I hf st hg
  subst hP hw hK
  obtain⟨xs,x,hq,hx⟩:=hg
  obtain⟨its,rv,p,hz⟩:=I.tuple hq
  obtain⟨u,hu,ru⟩:=rv.get hx
  obtain⟨f0,f1,f2,f3,f4,f5⟩:=hf it (by simp)
  refine wpAny_pyNext_tuple_item st (show s.heap.IsTuple a its.toArray from p) (x:=u) (by simpa using hu) λh' st' sb=>?_
  have I1:Inv X pins σ H { s with heap:=h' }:=I.turned (t':=s.toks) (λb o hb e=>(sb.2 b hb).trans e) f0 f1 f3 f4 f5
  obtain⟨o,e,c,d⟩:=id st'
  exact⟨u,rfl,aA0 (s:={ s with heap:=h' }) e c d (by decide) ⟨x,H,I1,ru,⟨rfl,λys hy=>by rw [I.tuple_inj hy hq];exact hx⟩,st',λb hb=>(hf b hb).1⟩⟩
 done:=by
  intro X hP hw hK hc i pins s σ H E I hf st hg
  subst hP hw hK
  obtain⟨xs,hq,hx⟩:=hg
  obtain⟨its,rv,p,hz⟩:=I.tuple hq
  obtain⟨f0,f1,f2,f3,f4,f5⟩:=hf it (by simp)
  have hl:=rv.length
  exact wpAny_pyNext_tuple_end (I.ok.hd hc) st (show s.heap.IsTuple a its.toArray from p) (by simp;omega) λh' eb=>⟨rfl,I.turned (t':=s.toks) (λb o hb e=>eb b o hb e) f0 f1 f3 f4 f5⟩
 self:=λ_ _ _ _ _ st h=>wpAny_pyIter_tupleiter st h
theorem al9 {P:Program} {w:World} {K:PySem.W.Frag} {tg:Expr} (it:Addr) (lo:Int) (n:Nat):al8 P w K tg (Itr lo n) [it] it (λi h=>IsRangeIter h it (lo+(i:Nat)*1) ((n:Int) - (i:Nat)) 1) where
 mem:=by simp
 obj:=λi h st b hb=>by
  have e:b=it:=by simpa using hb
  subst e
  exact⟨_,st,λv z=>by
   have z':Data.fields _=Data.cell v:=z
   cases z'⟩
 keep:=λi h h' st k=>k it (by simp) _ st
 item:=by
  intro X hP hw hK hc i pins s σ H E I hf st hg
  subst hP hw hK
  obtain⟨f0,f1,f2,f3,f4,f5⟩:=hf it (by simp)
  have W:=Walks.range (prog:=X.prog) (w:=X.w) (I.ok.hd hc) it lo 1 n
  refine W.item i s _ _ hg st λv h' tk hv st' kk=>?_
  obtain⟨t,rfl⟩:=hv
  have I1:Inv X pins σ H { s with heap:=h',toks:=tk }:=I.turned (λb o hb e=>kk b o (by simpa using hb) e) f0 f1 f3 f4 f5
  refine⟨_,rfl,aA0 (s:={ s with heap:=h',toks:=tk }) (n:="range_iterator") st' rfl rfl (by decide) ⟨.int (lo+i),H,I1,⟨t,?_⟩,⟨rfl,rfl⟩,st',λb hb=>(hf b hb).1⟩⟩
  rw [Int.mul_one]
 done:=by
  intro X hP hw hK hc i pins s σ H E I hf st hg
  subst hP hw hK
  obtain⟨f0,f1,f2,f3,f4,f5⟩:=hf it (by simp)
  exact wpAny_pyNext_range_end (I.ok.hd hc) st (by have:n<=i:=hg;omega) λh' eb=>⟨rfl,I.turned (t':=s.toks) (λb o hb e=>eb b o hb e) f0 f1 f3 f4 f5⟩
 self:=λ_ _ _ _ _ st h=>wpAny_pyIter_rangeiter st h
end L2
namespace L2
open PySem PySem.Spec PyProof.Rows
section
variable {X:Cx} {tg:Expr}
noncomputable def aX9 (K:PySem.W.Frag) (tl:TE):TI:=λσ H R=>tl σ H λx H1=>∃a,x=.ref a/\(∃xs,SqL K H1 a xs)/\R (Itl K a) H1
noncomputable def a37 (K:PySem.W.Frag) (tl:TE):TI:=λσ H R=>tl σ H λx H1=>∃a,x=.ref a/\(∃xs,SqT K H1 a xs)/\R (Itt K a) H1
theorem aI4 {l:Expr} {tl:TE} (hl:PE X l tl):PI X tg l (aX9 X.K tl):=by
 intro pins s σ H R I h
 refine thn (hl pins s σ H _ I h) λv s1 ⟨x,H1,I1,r1,q1⟩=>?_
 obtain⟨a,e,⟨xs,hq⟩,q⟩:=q1
 subst e
 cases r1
 obtain⟨its,rv,p,hz⟩:=I1.list hq
 refine wpAny_pyIter_list p.isList ?_
 refine⟨s1.heap.objs.size,[s1.heap.objs.size],_,_,H1,rfl,I1.kept (t':=s1.toks) λb o e=>Heap.get?_push_of_some _ e,ab2 a _,⟨_,Heap.get?_push_size _ rfl,rfl,rfl⟩,λb hb=>?_,q⟩
 have e:b=s1.heap.objs.size:=by simpa using hb
 subst e
 exact I1.fpOk (Nat.le_refl _) (I1.hok.fresh (Nat.le_refl _))
theorem aR1 {l:Expr} {tl:TE} (hl:PE X l tl):PI X tg l (a37 X.K tl):=by
 intro pins s σ H R I h
 refine thn (hl pins s σ H _ I h) λv s1 ⟨x,H1,I1,r1,q1⟩=>?_
 obtain⟨a,e,⟨xs,hq⟩,q⟩:=q1
 subst e
 cases r1
 obtain⟨its,rv,p,hz⟩:=I1.tuple hq
 refine wpAny_pyIter_tuple (show s1.heap.IsTuple a its.toArray from p) ?_
 refine⟨s1.heap.objs.size,[s1.heap.objs.size],_,_,H1,rfl,I1.kept (t':=s1.toks) λb o e=>Heap.get?_push_of_some _ e,m9 a _,⟨_,Heap.get?_push_size _ rfl,rfl,rfl⟩,λb hb=>?_,q⟩
 have e:b=s1.heap.objs.size:=by simpa using hb
 subst e
 exact I1.fpOk (Nat.le_refl _) (I1.hok.fresh (Nat.le_refl _))
theorem ah1 {pins:List (Addr×Obj)} {σ:St} {H:Hp} {s:Shared} {R:It->Hp->Prop} {E:Value->Shared->Prop} {lo hi:Int} {t u v:Tok} {tk:Nat} (I:Inv X pins σ H s) (h1 : -(2 ^ 62)<=lo) (h2:lo<2 ^ 62) (h3 : -(2 ^ 62)<=hi) (h4:hi<2 ^ 62)
 (q:R (Itr lo (hi - lo).toNat) H):wpAny (model X.prog X.w) X.A (pyIter (.ref s.heap.objs.size)) (PIE X pins σ tg R) E { s with heap:=s.heap.push { cls:=.type "range",data:=.fields #[.int lo t,.int hi u,.int 1 v] },toks:=tk }:=by
 refine wpAny_pyIter_range (IsRange.new ..) (small_one h1 h2 h3 h4) ?_
 have I1:Inv X pins σ H { s with heap:=s.heap.push { cls:=.type "range",data:=.fields #[.int lo t,.int hi u,.int 1 v] },toks:=tk }:=I.kept λb o e=>Heap.get?_push_of_some _ e
 refine⟨(s.heap.push { cls:=.type "range",data:=.fields #[.int lo t,.int hi u,.int 1 v] }).objs.size,[(s.heap.push { cls:=.type "range",data:=.fields #[.int lo t,.int hi u,.int 1 v] }).objs.size],_,_,H,rfl,
  I1.kept (t':=tk) λb o e=>Heap.get?_push_of_some _ e,al9 _ lo (hi - lo).toNat,?_,λb hb=>?_,q⟩
 ·have e1:lo+((0:Nat):Int)*1=lo:=by simp
  have e2:(((hi - lo).toNat:Nat):Int) - ((0:Nat):Int)=Builtin.Range.rangeSize lo hi 1:=by rw [rangeSize_one];split <;> omega
  show IsRangeIter _ _ (lo+((0:Nat):Int)*1) ((((hi - lo).toNat:Nat):Int) - ((0:Nat):Int)) 1
  rw [e1,e2]
  exact Heap.get?_push_size _ rfl
 ·have e:b=(s.heap.push { cls:=.type "range",data:=.fields #[.int lo t,.int hi u,.int 1 v] }).objs.size:=by simpa using hb
  subst e
  exact I1.fpOk (Nat.le_refl _) (I1.hok.fresh (Nat.le_refl _))
noncomputable def iRng1 (ta:TA):TI:=λσ H R=>ta σ H λvs H1=>∃j:Int,vs=[.int j]/\-(2 ^ 62)<=j/\j<2 ^ 62/\R (Itr 0 j.toNat) H1
noncomputable def iRng2 (ta:TA):TI:=λσ H R=>ta σ H λvs H1=>∃i j:Int,vs=[.int i,.int j]/\(-(2 ^ 62)<=i/\i<2 ^ 62/\-(2 ^ 62)<=j/\j<2 ^ 62)/\R (Itr i (j - i).toNat) H1
theorem av1 {a:Expr} {ta:TA} {p pos:Pos} (hg:Gl X "range") (hm:X.mg "range" = none) (ha:PA X [a] ta) (hs:starEach [a] X.env=[(false,eval a X.env)]:=by rfl):PI X tg (.Call (.Name "range" p) [a] [] pos) (iRng1 ta):=by
 intro pins s σ H R I h
 refine Call_ (V9 I hg hm boot_range (PyProof.Rows.callWith_type1 (thn (ha pos pins s σ H _ I h) λus s1 ⟨vs,H1,I1,r1,q1⟩=>?_) hs rfl))
 obtain⟨j,e,q1,q2,q⟩:=q1
 subst e
 cases r1 with
 | cons r rr=>
   cases rr
   obtain⟨t,rfl⟩:=r
   exact call_range_1 (ah1 I1 (by omega) (by omega) q1 q2 (by simpa using q))
theorem av2 {a b:Expr} {ta:TA} {p pos:Pos} (hg:Gl X "range") (hm:X.mg "range" = none) (ha:PA X [a,b] ta) (hs:starEach [a,b] X.env=[(false,eval a X.env),(false,eval b X.env)]:=by rfl) (hs2:starEach [b] X.env=[(false,eval b X.env)]:=by rfl) :
 PI X tg (.Call (.Name "range" p) [a,b] [] pos) (iRng2 ta):=by
 intro pins s σ H R I h
 refine Call_ (V9 I hg hm boot_range (PyProof.Rows.callWith_type1 (thn (ha pos pins s σ H _ I h) λus s1 ⟨vs,H1,I1,r1,q1⟩=>?_) (by rw [hs,hs2]) (by rw [hs2];rfl)))
 obtain⟨i,j,e,⟨q1,q2,q3,q4⟩,q⟩:=q1
 subst e
 cases r1 with
 | cons r rr=>
   cases rr with
   | cons r' rr=>
     cases rr
     obtain⟨t,rfl⟩:=r
     obtain⟨t',rfl⟩:=r'
     exact call_range_2 (ah1 I1 q1 q2 q3 q4 q)
noncomputable def a38 (wi:TI) (g:TG) (tb:TS):TS:=λD σ H=>wi σ H λJ H1=>∃W:Nat->Nat->St->Hp->Prop,(∃m,W 0 m σ H1)/\∀i m σ H,W i m σ H->
 (J.stop i H/\D.nx σ H)\/(J.go i H/\∃N:St->Hp->Prop,(∀σ' H',N σ' H'->∃m',m'<m/\W (i+1) m' σ' H')/\∀x H',J.yld i H x H'->g x σ H' λσ2 H2=>tb { D with nx:=N,ct:=N,bk:=D.nx } σ2 H2)
noncomputable def n0 (fp:List Addr) (h:Heap):List (Addr×Obj):=fp.filterMap λb=>(h.get? b).map λo=>(b,o)
theorem R3 {fp:List Addr} {h:Heap} {b:Addr} {o:Obj} (hb:b∈fp) (e:h.get? b=some o):(b,o)∈n0 fp h:=List.mem_filterMap.mpr ⟨b,hb,by rw [e];rfl⟩
theorem av3 {fp:List Addr} {h:Heap} {p:Addr×Obj} (hp:p∈n0 fp h):p.1∈fp/\h.get? p.1=some p.2:=by
 obtain⟨b,hb,e⟩:=List.mem_filterMap.mp hp
 cases q:h.get? b with
 | none=>rw [q] at e;cases e
 | some o=>
   rw [q] at e
   have e':(b,o)=p:=Option.some.inj e
   subst e'
   exact⟨hb,q⟩
theorem Inv.pinned {pins:List (Addr×Obj)} {σ:St} {H:Hp} {s:Shared} {fp:List Addr} (I:Inv X pins σ H s) (hf:∀b∈fp,X0 X pins H b) (ho:∀b∈fp,∃o,s.heap.get? b=some o/\∀v,o.data≠.cell v):Inv X (pins++n0 fp s.heap) σ H s:=
 I.pins_of λp hp=>(List.mem_append.mp hp).elim (λz=>I.pin p (List.mem_append_right _ z)) λz=>by
  obtain⟨hb,e⟩:=av3 z
  obtain⟨f0,f1,f2,_⟩:=hf p.1 hb
  obtain⟨o,e',d⟩:=ho p.1 hb
  rw [e] at e';cases e'
  exact⟨e,f0,f1,f2,d⟩
theorem Inv.unpinned {pins pl:List (Addr×Obj)} {σ:St} {H:Hp} {s:Shared} (I:Inv X (pins++pl) σ H s):Inv X pins σ H s:=I.pins_of λp hp=>I.pin p (List.mem_append_right _ (List.mem_append_left _ hp))
theorem aR2 {iter:Expr} {body:List Stmt} {wi:TI} {g:TG} {tb:TS} {pos:Pos} (hp:PassesOwn (model X.prog X.w) X.A X.env X.xe) (hc:X.calm=true) (hi:PI X tg iter wi) (hg:PG X tg g) (hb:PSs X body tb)
 (hs:∀x,foldedSetIterable iter X.env x=pure x:=by intro _;rfl):PS X (.For tg iter body [] pos) (a38 wi g tb):=by
 intro pins s σ H D I h
 refine wpAny_For (thn (hi pins s σ H _ I h) λv s1 h1=>thn h1 λitv s2 h2=>?_) hs
 obtain⟨it,fp,tn,J,H2,e,I2,T,st2,f2,W,⟨m0,w0⟩,turn⟩:=h2
 subst e
 have stat:∀{H':Hp},(∀b∈fp,H' b=none)->∀b∈fp,X0 X pins H' b:=λhn b hb=>⟨hn b hb,(f2 b hb).2⟩
 refine codeAny_forLoop_any (λn s'=>∃i σ' H',Inv X pins σ' H' s'/\tn i s'.heap/\(∀b∈fp,H' b=none)/\W i n σ' H') ?_ m0 ⟨0,σ,H2,I2,st2,λb hb=>(f2 b hb).1,w0⟩
 rintro n s3 ⟨i,σ3,H3,I3,st3,fr3,w3⟩
 rcases turn i n σ3 H3 w3 with ⟨stop,qn⟩ | ⟨go,N,hN,step⟩
 ·refine wpAny_passesOwn hp (thn (T.done X rfl rfl rfl hc i pins s3 σ3 H3 X.xe I3 (stat fr3) st3 stop) λr s4 ⟨hr,I4⟩=>?_)
  subst hr
  exact wpAny_execs_nil ⟨σ3,H3,I4,qn⟩
 ·refine wpAny_passesOwn hp (thn (T.item X rfl rfl rfl hc i pins s3 σ3 H3 X.xe I3 (stat fr3) st3 go) λr s4 ⟨u,hr,h4⟩=>?_)
  subst hr
  refine wpAny_passesOwn hp (thn h4 λ_ s5 ⟨x,H5,I5,r5,y5,st5,fr5⟩=>?_)
  have I5':=I5.pinned (stat fr5) (T.obj _ _ st5)
  refine wpAny_passesOwn hp (thn (hg _ s5 σ3 H5 x u _ I5' r5 (step x H5 y5)) λ_ s6 ⟨σ6,H6,I6,q6⟩=>?_)
  refine wpAny_passesOwn hp (thn (hb _ s6 σ6 H6 _ I6 q6) λf s7 q7=>?_)
  have again:∀{σ7:St} {H7:Hp},Inv X (pins++n0 fp s5.heap) σ7 H7 s7->N σ7 H7->∃m,m<n/\∃i σ' H',Inv X pins σ' H' s7/\tn i s7.heap/\(∀b∈fp,H' b=none)/\W i m σ' H':=λ{σ7 H7} I7 n7=>by
   obtain⟨m',hm,w7⟩:=hN σ7 H7 n7
   refine⟨m',hm,i+1,σ7,H7,I7.unpinned,T.keep _ _ _ st5 λb hb o e=>(I7.pin (b,o) (List.mem_append_right _ (List.mem_append_right _ (R3 hb e)))).1,λb hb=>?_,w7⟩
   obtain⟨o,e,d⟩:=T.obj _ _ st5 b hb
   exact (I7.pin (b,o) (List.mem_append_right _ (List.mem_append_right _ (R3 hb e)))).2.1
  cases f with
  | next=>obtain⟨σ7,H7,I7,n7⟩:=q7;exact again I7 n7
  | cont=>obtain⟨σ7,H7,I7,n7⟩:=q7;exact again I7 n7
  | brk=>obtain⟨σ7,H7,I7,q7⟩:=q7;exact⟨σ7,H7,I7.unpinned,q7⟩
  | ret v=>obtain⟨x7,σ7,H7,I7,r7,q7⟩:=q7;exact⟨x7,σ7,H7,I7.unpinned,r7,q7⟩
end
end L2
namespace L2
open PySem PySem.Spec PyProof.Rows
noncomputable abbrev R2:=V->V->Hp->VK->Prop
noncomputable def OpR (X:Cx) (f:Value->Value->Sem Value) (r:R2):Prop:=
 ∀(pins:List (Addr×Obj)) (s:Shared) (σ:St) (H:Hp) (x y:V) (v u:Value) (Q:VK),Inv X pins σ H s->RelV x v->RelV y u->r x y H Q->
  wpAny (model X.prog X.w) X.A (f v u) (EP X pins σ Q) X.xe s
noncomputable def UnR (X:Cx) (f:Value->Sem Value) (r:V->Hp->VK->Prop):Prop:=
 ∀(pins:List (Addr×Obj)) (s:Shared) (σ:St) (H:Hp) (x:V) (v:Value) (Q:VK),Inv X pins σ H s->RelV x v->r x H Q->
  wpAny (model X.prog X.w) X.A (f v) (EP X pins σ Q) X.xe s
noncomputable def CallR (X:Cx) (f:Value) (r:List V->Hp->VK->Prop):Prop:=
 ∀(pins:List (Addr×Obj)) (s:Shared) (σ:St) (H:Hp) (xs:List V) (us:List Value) (Q:VK),Inv X pins σ H s->Vals xs us->r xs H Q->
  wpAny (model X.prog X.w) X.A (call f us) (EP X pins σ Q) X.xe s
noncomputable def tOp (r:R2) (ta tb:TE):TE:=λσ H Q=>ta σ H λx H1=>tb σ H1 λy H2=>r x y H2 Q
noncomputable def tUn (r:V->Hp->VK->Prop) (ta:TE):TE:=λσ H Q=>ta σ H λx H1=>r x H1 Q
noncomputable def rI (C:Int->Int->Prop) (g:Int->Int->V):R2:=λx y H Q=>∃i j,x=.int i/\y=.int j/\C i j/\Q (g i j) H
noncomputable def rI0 (g:Int->Int->V):R2:=λx y H Q=>∃i j,x=.int i/\y=.int j/\Q (g i j) H
noncomputable def rU (g:Int->V):V->Hp->VK->Prop:=λx H Q=>∃i,x=.int i/\Q (g i) H
section
variable {X:Cx} {a b c:Expr} {ta tb tc:TE} {pos:Pos}
theorem aR3 (ha:PE X a ta) (hb:PE X b tb) {pins:List (Addr×Obj)} {s:Shared} {σ:St} {H:Hp} {R:V->V->Hp->Prop} (I:Inv X pins σ H s)
 (h:ta σ H λx H1=>tb σ H1 λy H2=>R x y H2) {Q:Value->Shared->Prop} {f:Value->Value->Sem Value}
 (hf:∀v u s2 x y H2,Inv X pins σ H2 s2->RelV x v->RelV y u->R x y H2->wpAny (model X.prog X.w) X.A (f v u) Q X.xe s2) :
 wpAny (model X.prog X.w) X.A (eval a X.env) (λv s₁=>wpAny (model X.prog X.w) X.A (eval b X.env) (λu s₂=>wpAny (model X.prog X.w) X.A (f v u) Q X.xe s₂) X.xe s₁) X.xe s:=by
 refine thn (ha pins s σ H _ I h) λv s1 ⟨x,H1,I1,r1,q1⟩=>?_
 refine thn (hb pins s1 σ H1 _ I1 q1) λu s2 ⟨y,H2,I2,r2,q2⟩=>?_
 exact hf v u s2 x y H2 I2 r1 r2 q2
theorem aY0 {op:Operator} {r:R2} (ho:OpR X (binaryOp op) r) (ha:PE X a ta) (hb:PE X b tb):PE X (.BinOp a op b pos) (tOp r ta tb):=by
 intro pins s σ H Q I h
 exact wpAny_BinOp (aR3 ha hb I h λv u s2 x y H2 I2 rx ry q=>ho pins s2 σ H2 x y v u Q I2 rx ry q)
theorem aY1 {op:UnaryOp} {r:V->Hp->VK->Prop} (ho:UnR X (unaryOp op) r) (ha:PE X a ta):PE X (.UnaryOp op a pos) (tUn r ta):=by
 intro pins s σ H Q I h
 exact UnaryOp_ (thn (ha pins s σ H _ I h) λv s1 ⟨x,H1,I1,r1,q1⟩=>ho pins s1 σ H1 x v Q I1 r1 q1)
theorem opI {f:Value->Value->Sem Value} {C:Int->Int->Prop} {g:Int->Int->Int}
 (rule:∀(i j:Int) (t u:Tok) (s:Shared) (Q:Value->Shared->Prop) (E:Value->Shared->Prop),C i j->Q (.int (g i j) s.toks) { s with toks:=s.toks+1 }->wpAny (model X.prog X.w) X.A (f (.int i t) (.int j u)) Q E s) :
 OpR X f (rI C λi j=>.int (g i j)):=by
 intro pins s σ H x y v u Q I rx ry h
 obtain⟨i,j,rfl,rfl,hc,q⟩:=h
 obtain⟨t,rfl⟩:=rx
 obtain⟨t',rfl⟩:=ry
 exact rule i j t t' s _ _ hc ⟨.int (g i j),H,I.tok _,⟨_,rfl⟩,q⟩
theorem a39 {f:Value->Value->Sem Value} {g:Int->Int->Int}
 (rule:∀(i j:Int) (t u:Tok) (s:Shared) (Q:Value->Shared->Prop) (E:Value->Shared->Prop),Q (.int (g i j) s.toks) { s with toks:=s.toks+1 }->wpAny (model X.prog X.w) X.A (f (.int i t) (.int j u)) Q E s) :
 OpR X f (rI0 λi j=>.int (g i j)):=by
 intro pins s σ H x y v u Q I rx ry h
 obtain⟨i,j,rfl,rfl,q⟩:=h
 obtain⟨t,rfl⟩:=rx
 obtain⟨t',rfl⟩:=ry
 exact rule i j t t' s _ _ ⟨.int (g i j),H,I.tok _,⟨_,rfl⟩,q⟩
theorem aR4 {f:Value->Value->Sem Value} {g:Int->Int->Bool}
 (rule:∀(i j:Int) (t u:Tok) (s:Shared) (Q:Value->Shared->Prop) (E:Value->Shared->Prop),Q (.bool (g i j)) s->wpAny (model X.prog X.w) X.A (f (.int i t) (.int j u)) Q E s) :
 OpR X f (rI0 λi j=>.bl (g i j)):=by
 intro pins s σ H x y v u Q I rx ry h
 obtain⟨i,j,rfl,rfl,q⟩:=h
 obtain⟨t,rfl⟩:=rx
 obtain⟨t',rfl⟩:=ry
 exact rule i j t t' s _ _ ⟨.bl (g i j),H,I,rfl,q⟩
noncomputable def aY2 (i j:Int):Prop:=0<j/\j<1073741824
theorem op_add:OpR X (binaryOp .Add) (rI0 λi j=>.int (i+j)):=a39 λ_ _ _ _ _ _ _ q=>add_int q
theorem aI5:OpR X (binaryOp .FloorDiv) (rI aY2 λi j=>.int (i / j)):=opI λi j _ _ _ _ _ hc q=>by
 have h1:(0:Int)<j:=hc.1
 have h2:j<1073741824:=hc.2
 exact floordiv_int (by omega) (by rw [Int.fdiv_eq_ediv_of_nonneg i (by omega)];exact q) (.inl (PyProof.noPylong_small (by omega)))
theorem am0:OpR X (binaryOp .Mod) (rI (λ_ j=>0<j) λi j=>.int (i%j)):=opI λi j _ _ _ _ _ hc q=>by
 have h1:(0:Int)<j:=hc
 exact mod_int' (by omega) (by rw [Int.fmod_eq_emod_of_nonneg i (by omega)];exact q)
theorem unI {f:Value->Sem Value} {g:Int->Int}
 (rule:∀(i:Int) (t:Tok) (s:Shared) (Q:Value->Shared->Prop) (E:Value->Shared->Prop),Q (.int (g i) s.toks) { s with toks:=s.toks+1 }->wpAny (model X.prog X.w) X.A (f (.int i t)) Q E s) :
 UnR X f (rU λi=>.int (g i)):=by
 intro pins s σ H x v Q I rx h
 obtain⟨i,rfl,q⟩:=h
 obtain⟨t,rfl⟩:=rx
 exact rule i t s _ _ ⟨.int (g i),H,I.tok _,⟨_,rfl⟩,q⟩
theorem aR5:UnR X (unaryOp .USub) (rU λi=>.int (-i)):=unI λ_ _ _ _ _ q=>neg_int q
end
section
variable {X:Cx} {a b c:Expr} {ta tb tc:TE} {pos:Pos}
theorem aA1:OpR X (compareOp .Lt) (rI0 λi j=>.bl (decide (i<j))):=aR4 λ_ _ _ _ _ _ _ q=>lt_int q
theorem aA2:OpR X (compareOp .LtE) (rI0 λi j=>.bl (decide (i<=j))):=aR4 λ_ _ _ _ _ _ _ q=>le_int q
theorem aY3:OpR X (compareOp .GtE) (rI0 λi j=>.bl (decide (j<=i))):=aR4 λ_ _ _ _ _ _ _ q=>ge_int q
theorem OpR.or {f:Value->Value->Sem Value} {r r':R2} (h:OpR X f r) (h':OpR X f r'):OpR X f (λx y H Q=>r x y H Q\/r' x y H Q):=by
 intro pins s σ H x y v u Q I rx ry q
 rcases q with q | q
 ·exact h pins s σ H x y v u Q I rx ry q
 ·exact h' pins s σ H x y v u Q I rx ry q
theorem nomark (b:Expr) {op:CmpOp} (h:op≠.In:=by decide) (h2:op≠.NotIn:=by decide):behindInMarks op b=false:=by
 have e1:(op == CmpOp.In)=false:=by cases op <;> first | rfl | exact absurd rfl h
 have e2:(op == CmpOp.NotIn)=false:=by cases op <;> first | rfl | exact absurd rfl h2
 cases b <;> simp [behindInMarks,e1,e2]
theorem aI6 {op:CmpOp} {r:R2} (ho:OpR X (compareOp op) r) (ha:PE X a ta) (hb:PE X b tb) (hm:behindInMarks op b=false):PE X (.Compare a [op] [b] pos) (tOp r ta tb):=by
 intro pins s σ H Q I h
 exact wpAny_Compare1 (aR3 ha hb I h λv u s2 x y H2 I2 rx ry q=>ho pins s2 σ H2 x y v u Q I2 rx ry q) hm
noncomputable def aN8 (t:TE):TT:=λσ H Q=>t σ H λx H'=>∃k,x=.bl k/\Q k H'
theorem aI7 {op:CmpOp} {r:R2} (ho:OpR X (compareOp op) r) (ha:PE X a ta) (hb:PE X b tb) (hm:behindInMarks op b=false):PT X (.Compare a [op] [b] pos) (aN8 (tOp r ta tb)):=by
 intro pins s σ H Q I h
 refine wpAny_isTrue_Compare1 (thn (ha pins s σ H _ I h) λv s1 ⟨x,H1,I1,r1,q1⟩=>thn (hb pins s1 σ H1 _ I1 q1) λu s2 ⟨y,H2,I2,r2,q2⟩=>
  thn (ho pins s2 σ H2 x y v u _ I2 r1 r2 q2) λc s3 ⟨z,H3,I3,r3,k,e,q3⟩=>?_) hm
 subst e
 cases r3
 exact wpAny_truthy_bool ⟨H3,I3,q3⟩
noncomputable def aA3 (r r':R2) (ta tb tc:TE):TE:=λσ H Q=>ta σ H λx H1=>tb σ H1 λy H2=>r x y H2 λz H3=>∃k,z=.bl k/\
 (if k=true then tc σ H3 λw' H4=>r' y w' H4 Q else Q (.bl false) H3)
theorem aA4 {op op':CmpOp} {r r':R2} (ho:OpR X (compareOp op) r) (ho':OpR X (compareOp op') r') (ha:PE X a ta) (hb:PE X b tb) (hc:PE X c tc)
 (hm:lastMarks [op,op'] [b,c]=false:=by with_unfolding_all rfl):PE X (.Compare a [op,op'] [b,c] pos) (aA3 r r' ta tb tc):=by
 intro pins s σ H Q I h
 refine Compare_chain (thn (ha pins s σ H _ I h) λv s1 ⟨x,H1,I1,r1,q1⟩=>chain_link (thn (hb pins s1 σ H1 _ I1 q1) λu s2 ⟨y,H2,I2,r2,q2⟩=>
  thn (ho pins s2 σ H2 x y v u _ I2 r1 r2 q2) λd s3 ⟨z,H3,I3,r3,k,e,q3⟩=>?_)) hm
 subst e
 cases r3
 refine wpAny_truthy_bool ?_
 cases k with
 | false=>exact ite_ff ⟨.bl false,H3,I3,rfl,q3⟩
 | true=>exact ite_tt (chain_last (thn (hc pins s3 σ H3 _ I3 q3) λw' s4 ⟨z',H4,I4,r4,q4⟩=>ho' pins s4 σ H4 y z' u w' Q I4 r2 r4 q4))
theorem am1:(sizeLine:Nat)<2 ^ 63:=by rw [sizeLine_eq];decide
theorem X1 {x:V} {us:List Value} (r:Vals [x] us):∃u,us=[u]/\RelV x u:=by
 cases r with
 | cons r1 r2=>cases r2;exact⟨_,rfl,r1⟩
theorem aA5 {x y:V} {us:List Value} (r:Vals [x,y] us):∃u w',us=[u,w']/\RelV x u/\RelV y w':=by
 cases r with
 | cons r1 r2=>
   cases r2 with
   | cons r3 r4=>cases r4;exact⟨_,_,rfl,r1,r3⟩
end
end L2
namespace L2
open PySem PySem.Spec PyProof.Rows
structure ObjM (h:Heap) (x dx C:Addr) (mA:Str->Option Value):Prop where
 obj:h.get? x=some (PySem.W.instObj C dx)
 ns:h.Ns1 dx mA
 ne:dx≠x
theorem av4 {h:Heap} {dx:Addr} {mA:Str->Option Value} (n:h.Ns1 dx mA):∃od,h.get? dx=some od/\∀name,PySem.W.lookIn name od=some (mA name):=by
 obtain⟨o,es,ep,ho,hd,hk,_,hm⟩:=n
 refine⟨o,ho,λname=>?_⟩
 have e:=hm name
 unfold nsFind findBy at e
 rw [←Array.find?_toList] at e
 unfold PySem.W.lookIn
 rw [hd]
 dsimp only
 split
 ·rename_i y q
  rw [q] at e
  exact congrArg some e
 ·rename_i q
  rw [q] at e
  have a:es.toList.any (·.refKey)=false:=by
   rw [List.any_eq_false]
   intro y hy
   obtain⟨z,t,hkey⟩:=hk y (Array.mem_toList_iff.mp hy)
   simp [DictEntry.refKey,hkey]
  have a':¬es.toList.any (·.refKey)=true:=by rw [a];exact Bool.false_ne_true
  rw [if_neg a']
  exact congrArg some e
theorem ObjM.look {h:Heap} {x dx C:Addr} {mA:Str->Option Value} (I:ObjM h x dx C mA):∃od,PySem.W.InstAt h x (PySem.W.instObj C dx) C (some od)/\∀name,PySem.W.lookIn name od=some (mA name):=
 let ⟨od,ho,hl⟩:=av4 I.ns
 ⟨od,⟨I.obj,rfl,rfl,ho⟩,hl⟩
section
variable {prog:Program} {w:World} {A:Around} {E:Value->Shared->Prop} {s:Shared} {K:PySem.W.Frag} {x dx C f:Addr} {mA:Str->Option Value} {name:Str} {v:Value}
theorem aI8 {expr:Bool} {Q:Value->Shared->Prop} (X:K.In s.heap) (I:ObjM s.heap x dx C mA) (hg:PySem.W.plainGet K C name=true) (hh:PySem.W.hasDictIn K C=true)
 (ha:PySem.W.findIn K (.ref C) name=some none) (hv:mA name=some v) (hv':PySem.W.handedIn v=true) (h:Q v { s with toks:=s.toks+1 }) :
 wpAny (model prog w) A (getAttr (.ref x) name expr) Q E s:=by
 obtain⟨od,J,hl⟩:=I.look
 exact PySem.W.get_value X J (PySem.W.plainGet_of hg).1 (PySem.W.findObj_own hh ha rfl (by rw [hl,hv])) hv' h
theorem aA6 {pl:Sem Bool} {Q:Value×List Value->Shared->Prop} (X:K.In s.heap) (I:ObjM s.heap x dx C mA) (hg:PySem.W.plainGet K C name=true)
 (hf:PySem.W.findIn K (.ref C) name=some (some (.ref f))) (ht:PySem.W.isFn K (.ref f)=true) (hv:mA name=none) (h:Q (.ref f,[.ref x]) s) :
 wpAny (model prog w) A (getMethod (.ref x) name pl) Q E s:=by
 obtain⟨od,J,hl⟩:=I.look
 exact PySem.W.method_fn X J (PySem.W.plainGet_of hg).1 (PySem.W.plainGet_of hg).2 hf (beq_iff_eq.mp ht) (by show (PySem.W.lookIn name od).map (·.isSome)=some false;rw [hl,hv];rfl) h
theorem aI9 {ns:List Str} {Q:Unit->Shared->Prop} (X:K.In s.heap) (I:ObjM s.heap x dx C mA)
 (hs:PySem.W.findIn K (.ref C) "__setattr__" = some (some (.builtin "object.__setattr__"))) (hp:PySem.W.plainOver K C=true) (ht:PySem.W.takerIn K C name=some none) (hh:PySem.W.hasDictIn K C=true)
 (hw:PySem.Within mA ns) (hsz:ns.length<=sizeLine)
 (h:∀h',ObjM h' x dx C (λy=>if y=name then some v else mA y)->Heap.SameBut dx s.heap h'->Q () { s with heap:=h',toks:=s.toks+2 }) :
 wpAny (model prog w) A (setAttr (.ref x) name v) Q E s:=by
 obtain⟨od,J,hl⟩:=I.look
 refine PySem.W.set_plain X J hs (PySem.W.osa_open (s:={ s with toks:=s.toks+1 }) (r:=none) X J hp ht λb=>?_)
 obtain⟨cd,hc,hd'⟩:=PySem.W.any_some hh
 have hx:s.heap.get? x=some ⟨.ref C,some dx,.plain,#[]⟩:=I.obj
 refine wpAny_bind (wpAny_pure (wpAny_bind (wpAny_bind (wpAny_loadPart hx (wpAny_bind (PySem.W.Looks.here (s:={ s with toks:=s.toks+1 }) (PySem.W.looks_clsIn X hc) ?_))))))
 rw [hd']
 refine wpAny_pure (a:=some dx) (wpAny_bind (wpAny_pure (wpAny_bind ?_)))
 refine wpAny_nsSet1 (s:={ s with toks:=s.toks+1 }) I.ns λh' hn2 hs2=>?_
 obtain⟨oD,esD,epD,hoD,hdD,hcD⟩:=hn2.count (PySem.Within.cons name v hw)
 refine wpAny_bind (wpAny_lookBehind hoD (by rw [hdD];exact pastItsLine_dict (Nat.le_trans hcD (by rw [List.length_cons];omega))) ?_)
 exact wpAny_pure (h _ ⟨(hs2.2 _ (Ne.symm I.ne)).trans I.obj,hn2,I.ne⟩ hs2)
theorem aA7 {R:Result->Shared->Prop} {vs:List Value} {kw:List (Str×Value)} (X:K.In s.heap) (hm:PySem.W.makesIn K C=true)
 (hi:PySem.W.findIn K (.ref C) "__init__" = some (some (.ref f))) (hf:PySem.W.typeIn K (.ref f)=some (.type "function"))
 (h:codeAny (model prog w) (A.under (.builtin "type.__call__" ⟨.ref C::vs,kw⟩)) (.call (.ref f) ⟨.ref (s.heap.objs.size+1)::vs,kw⟩) (PySem.W.InitBack (s.heap.objs.size+1) R)
  { s with heap:=(s.heap.push PySem.W.emptyDict).push (PySem.W.instObj C s.heap.objs.size) }) :
 codeAny (model prog w) A (.call (.ref C) ⟨vs,kw⟩) R s:=by
 obtain⟨hh,g,d,t,os⟩:=s
 exact PySem.W.make_core (PySem.W.makes_of X hm) (PySem.W.looks_findIn X hi) (λself=>PySem.W.bind_fn X self hf) (.inl rfl) h
theorem av5 {R:Result->Shared->Prop} (X:K.In s.heap) (hm:PySem.W.makesIn K C=true)
 (hi:PySem.W.findIn K (.ref C) "__init__" = some (some (.builtin "object.__init__")))
 (hb:∀self,PySem.W.Looks (model prog w) s.heap (bindSpecial (.builtin "object.__init__") self) (.builtin "object.__init__",[self]))
 (h:codeAny (model prog w) (A.under (.builtin "type.__call__" ⟨[.ref C],[]⟩)) (.call (.builtin "object.__init__") ⟨[.ref (s.heap.objs.size+1)],[]⟩) (PySem.W.InitBack (s.heap.objs.size+1) R)
  { s with heap:=(s.heap.push PySem.W.emptyDict).push (PySem.W.instObj C s.heap.objs.size) }) :
 codeAny (model prog w) A (.call (.ref C) ⟨[],[]⟩) R s:=by
 obtain⟨hh,g,d,t,os⟩:=s
 exact PySem.W.make_core (PySem.W.makes_of X hm) (PySem.W.looks_findIn X hi) hb (.inr ⟨rfl,rfl⟩) h
end
noncomputable def P7 (f:Str) (v:V):List (Str×V)->List (Str×V)
 | []=>[(f,v)]
 | (g,x)::r=>if g=f then (g,v)::r else (g,x)::P7 f v r
theorem i4 (f g:Str) (v:V):∀fs:List (Str×V),(P7 f v fs).lookup g=if g=f then some v else fs.lookup g
 | []=>by
   show List.lookup g [(f,v)]=_
   by_cases h:g=f
   ·have hb:(g == f)=true:=beq_iff_eq.mpr h
    simp only [List.lookup,hb,if_pos h]
   ·have hb:(g == f)=false:=beq_eq_false_iff_ne.mpr h
    simp only [List.lookup,hb,if_neg h]
 | (k,x)::r=>by
   have ih:=i4 f g v r
   rw [show P7 f v ((k,x)::r)=(if k=f then (k,v)::r else (k,x)::P7 f v r) from rfl]
   by_cases hk:k=f
   ·rw [if_pos hk]
    by_cases h:g=k
    ·have hb:(g == k)=true:=beq_iff_eq.mpr h
     simp only [List.lookup,hb,if_pos (h.trans hk)]
    ·have hb:(g == k)=false:=beq_eq_false_iff_ne.mpr h
     simp only [List.lookup,hb,if_neg (λe:g=f=>h (e.trans hk.symm))]
   ·rw [if_neg hk]
    by_cases h:g=k
    ·have hb:(g == k)=true:=beq_iff_eq.mpr h
     simp only [List.lookup,hb,if_neg (λe:g=f=>hk (h.symm.trans e))]
    ·have hb:(g == k)=false:=beq_eq_false_iff_ne.mpr h
     simp only [List.lookup,hb]
     exact ih
theorem Z9 (f:Str) (v:V):∀fs:List (Str×V),f∈(P7 f v fs).map (·.1)/\∀g,g∈fs.map (·.1)->g∈(P7 f v fs).map (·.1)
 | []=>⟨by simp [P7],λg h=>by simp at h⟩
 | (k,x)::r=>by
   obtain⟨i1,i2⟩:=Z9 f v r
   rw [show P7 f v ((k,x)::r)=(if k=f then (k,v)::r else (k,x)::P7 f v r) from rfl]
   by_cases hk:k=f
   ·rw [if_pos hk]
    subst hk
    exact⟨by simp,λg h=>by simpa using h⟩
   ·rw [if_neg hk]
    refine⟨?_,λg h=>?_⟩
    ·rw [List.map_cons]
     exact List.mem_cons_of_mem _ i1
    ·rw [List.map_cons] at h ⊢
     rcases List.mem_cons.mp h with e | e
     ·exact List.mem_cons.mpr (.inl e)
     ·exact List.mem_cons_of_mem _ (i2 g e)
theorem i6 (f:Str) (v:V):∀fs:List (Str×V),(P7 f v fs).length<=fs.length+1
 | []=>by simp [P7]
 | (k,x)::r=>by
   have ih:=i6 f v r
   rw [show P7 f v ((k,x)::r)=(if k=f then (k,v)::r else (k,x)::P7 f v r) from rfl]
   by_cases hk:k=f
   ·rw [if_pos hk,List.length_cons,List.length_cons];omega
   ·rw [if_neg hk,List.length_cons,List.length_cons];omega
theorem RelO.some_of {v:V} {o:Option Value} (r:RelO (some v) o):∃u,o=some u/\RelV v u:=by
 cases o with
 | none=>exact (show False from r).elim
 | some u=>exact⟨u,rfl,r⟩
theorem RelO.none_of {o:Option Value} (r:RelO none o):o=none:=by
 cases o with
 | none=>rfl
 | some u=>exact (show False from r).elim
theorem av6 {v:V} {u:Value} (r:RelV v u):PySem.W.handedIn u=true:=by
 cases v with
 | non=>cases (show u=Value.none from r);rfl
 | bl b=>cases (show u=Value.bool b from r);rfl
 | int i=>obtain⟨t,e⟩:=(show ∃t,u=Value.int i t from r);cases e;rfl
 | str x=>obtain⟨t,e⟩:=(show ∃t,u=Value.str x t from r);cases e;rfl
 | byt b=>obtain⟨t,e⟩:=(show ∃t,u=Value.bytes b t from r);cases e;rfl
 | flt b=>obtain⟨t,e⟩:=(show ∃t,u=Value.float b t from r);cases e;rfl
 | ref a=>cases (show u=Value.ref a from r);rfl
 | ty n=>cases (show u=Value.type n from r);rfl
section
variable {P:Program} {w:World} {H H':Hp} {h h':Heap} {a C dx:Addr} {fs fs':List (Str×V)}
theorem X2 (hok:HOk P w H h) (e:H a=some (.ins C dx fs)):∃mA,ObjM h a dx C mA/\(∀f,RelO (fs.lookup f) (mA f))/\PySem.Within mA (fs.map (·.1))/\fs.length<=1000/\H dx=some (.own a):=by
 obtain⟨d,z,ne,ob,mA,n,r,q⟩:=(show ObjOk P w H h a (.ins C dx fs) from hok a _ e)
 exact⟨mA,⟨ob,n,ne⟩,r,q,z,d⟩
end
structure Cls (K:PySem.W.Frag) (C:Addr):Prop where
 pg:PySem.W.plainGet K C Str.empty=true
 hd:PySem.W.hasDictIn K C=true
 po:PySem.W.plainOver K C=true
 sa:PySem.W.findIn K (.ref C) "__setattr__" = some (some (.builtin "object.__setattr__"))
theorem Cls.get {K:PySem.W.Frag} {C:Addr} (c:Cls K C) (f:Str):PySem.W.plainGet K C f=true:=c.pg
noncomputable def NoAttr (K:PySem.W.Frag) (C:Addr) (f:Str):Prop:=PySem.W.findIn K (.ref C) f=some none
theorem NoAttr.taker {K:PySem.W.Frag} {C:Addr} {f:Str} (n:NoAttr K C f):PySem.W.takerIn K C f=some none:=by
 unfold PySem.W.takerIn
 rw [show PySem.W.findIn K (.ref C) f=some none from n]
 rfl
structure aA8 (K:PySem.W.Frag) (C:Addr) (m:Str) (f:Addr):Prop where
 at_:PySem.W.findIn K (.ref C) m=some (some (.ref f))
 fn:PySem.W.isFn K (.ref f)=true
 kp:PySem.W.keepIn K (.ref f)=true
section
variable {X:Cx} {pins:List (Addr×Obj)} {σ:St} {H:Hp} {s:Shared} {a C dx:Addr} {fs:List (Str×V)} {f:Str} {v:V} {A:Around} {E:Value->Shared->Prop}
theorem am2 {b:Bool} {Q:Value->Shared->Prop} (I:Inv X pins σ H s) (e:H a=some (.ins C dx fs)) (c:Cls X.K C) (n:NoAttr X.K C f) (l:fs.lookup f=some v)
 (h:∀u s',Inv X pins σ H s'->RelV v u->Q u s'):wpAny (model X.prog X.w) A (getAttr (.ref a) f b) Q E s:=by
 obtain⟨mA,O,r,_,_,_⟩:=X2 I.hok e
 obtain⟨u,hu,ru⟩:=RelO.some_of (v:=v) (o:=mA f) (by rw [←l];exact r f)
 exact aI8 I.kIn O (c.get f) c.hd n hu (av6 ru) (h u _ (I.tok _) ru)
theorem n3 {m:Str} {g:Addr} {pl:Sem Bool} {Q:Value×List Value->Shared->Prop} (I:Inv X pins σ H s) (e:H a=some (.ins C dx fs)) (c:Cls X.K C) (k:aA8 X.K C m g) (l:fs.lookup m=none)
 (h:Q (.ref g,[.ref a]) s):wpAny (model X.prog X.w) A (getMethod (.ref a) m pl) Q E s:=by
 obtain⟨mA,O,r,_,_,_⟩:=X2 I.hok e
 have hn:mA m=none:=RelO.none_of (by rw [←l];exact r m)
 exact aA6 I.kIn O (c.get m) k.at_ k.fn hn h
theorem am3 {y:V} {u:Value} {Q:Unit->Shared->Prop} (I:Inv X pins σ H s) (e:H a=some (.ins C dx fs)) (c:Cls X.K C) (n:NoAttr X.K C f) (hl:fs.length<1000) (ry:RelV y u)
 (h:∀s',Inv X pins σ (upd H a (.ins C dx (P7 f y fs))) s'->Q () s'):wpAny (model X.prog X.w) A (setAttr (.ref a) f u) Q E s:=by
 obtain⟨mA,O,r,wi,_,ho⟩:=X2 I.hok e
 have hz:(fs.map (·.1)).length<=sizeLine:=by rw [List.length_map,sizeLine_eq];omega
 refine aI9 I.kIn O c.sa c.po n.taker c.hd wi hz λh' O' sb=>h _ ?_
 have hd:∃o,h'.get? dx=some o:=let ⟨o,_,_,e',_⟩:=O'.ns;⟨o,e'⟩
 refine I.write (x:=a) (e:=dx) (by rw [e];exact True.intro) (.inr ho) (λb q hb z=>(sb.2 b hb).trans z) hd ?_
 refine⟨by rw [C9 O.ne];exact ho,?_,O.ne,O'.obj,_,O'.ns,λg=>?_,λg hg=>?_⟩
 ·have:=i6 f y fs;omega
 ·show RelO ((P7 f y fs).lookup g) (if g=f then some u else mA g)
  rw [i4]
  by_cases q:g=f
  ·rw [if_pos q,if_pos q];exact ry
  ·rw [if_neg q,if_neg q];exact r g
 ·by_cases q:g=f
  ·rw [q];exact (Z9 f y fs).1
  ·refine (Z9 f y fs).2 g (wi g λz=>hg ?_)
   show (if g=f then some u else mA g)=none
   rw [if_neg q];exact z
theorem Inv.made (I:Inv X pins σ H s):Inv X pins σ (upd (upd H s.heap.objs.size (.own (s.heap.objs.size+1))) (s.heap.objs.size+1) (.ins C s.heap.objs.size []))
 { s with heap:=(s.heap.push PySem.W.emptyDict).push (PySem.W.instObj C s.heap.objs.size) }:=by
 have e1:(s.heap.push PySem.W.emptyDict).get? s.heap.objs.size=some PySem.W.emptyDict:=Heap.get?_push_size s.heap rfl
 have e2:((s.heap.push PySem.W.emptyDict).push (PySem.W.instObj C s.heap.objs.size)).get? (s.heap.objs.size+1)=some (PySem.W.instObj C s.heap.objs.size):=by
  have:=Heap.get?_push_size (s.heap.push PySem.W.emptyDict) (o:=PySem.W.instObj C s.heap.objs.size) rfl
  rwa [Heap.size_push] at this
 have e3:(s.heap.push PySem.W.emptyDict).Ns s.heap.objs.size (λ_=>none):=⟨PySem.W.emptyDict,#[],_,e1,rfl,(λe he=>absurd he (by simp)),λ_=>rfl⟩
 have I1:=I.laid (a:=s.heap.objs.size) (o:=.own (s.heap.objs.size+1)) (h':=s.heap.push PySem.W.emptyDict) (t':=s.toks) (λb u q=>Heap.get?_push_of_some _ q) (Nat.le_refl _) ⟨_,e1⟩
 refine I1.laid (a:=s.heap.objs.size+1) (o:=.ins C s.heap.objs.size []) (t':=s.toks) (λb u q=>Heap.get?_push_of_some _ q) (Nat.le_of_eq (Heap.size_push _ _)) ?_
 have ne:s.heap.objs.size≠s.heap.objs.size+1:=Nat.ne_of_lt (Nat.lt_succ_self _)
 refine⟨by rw [C9 ne,C7],Nat.zero_le _,ne,e2,λ_=>none,(Heap.Ns1.of_empty e3).at λo q=>Heap.get?_push_of_some _ q,λ_=>True.intro,λy hy=>absurd rfl hy⟩
theorem aJ0 {prog:Program} {w:World} {env:Env} {e:Expr} {f:Str} {pos:Pos} {s:Shared} {Q:Value->Shared->Prop} (hb:attributeBase e f env (eval e env)=eval e env)
 (h:wpAny (model prog w) A (eval e env) (λo s₁=>wpAny (model prog w) A (getAttr o f true) Q E s₁) E s):wpAny (model prog w) A (eval (.Attribute e f pos) env) Q E s:=
 Attribute_any_ h (by rw [arm_eval_Attribute,hb])
end
noncomputable def a40 (K:PySem.W.Frag) (ta:TE) (f:Str):TE:=λσ H Q=>ta σ H λx H1=>∃a C dx fs v,x=.ref a/\H1 a=some (.ins C dx fs)/\Cls K C/\NoAttr K C f/\fs.lookup f=some v/\Q v H1
noncomputable def sFld (K:PySem.W.Frag) (ta tv:TE) (f:Str):TS:=λD σ H=>tv σ H λy H1=>ta σ H1 λx H2=>∃a C dx fs,x=.ref a/\H2 a=some (.ins C dx fs)/\Cls K C/\NoAttr K C f/\fs.length<1000/\
 D.nx σ (upd H2 a (.ins C dx (P7 f y fs)))
section
variable {X:Cx} {o e value:Expr} {f:Str} {pos pos' tpos:Pos} {ta tv:TE}
theorem aR6 (he:PE X e ta) (hb:attributeBase e f X.env (eval e X.env)=eval e X.env):PE X (.Attribute e f pos) (a40 X.K ta f):=by
 intro pins s σ H Q I h
 refine aJ0 hb (thn (he pins s σ H _ I h) λu s1 ⟨x,H1,I1,rx,a,C,dx,fs,v,ex,ea,c,n,l,q⟩=>?_)
 subst ex
 obtain rfl:u=Value.ref a:=rx
 exact am2 I1 ea c n l λu' s2 I2 ru=>⟨v,H1,I2,ru,q⟩
theorem aR7 (ha:PE X o ta) (hv:PE X value tv) (hs:swapsWith value (some (.Attribute o f pos')) pos.line X.env=pure false):PS X (.Assign [.Attribute o f pos'] value pos) (sFld X.K ta tv f):=by
 intro pins s σ H D I h
 refine plainObj_wpAny_Assign_Attribute (thn (hv pins s σ H _ I h) λu s1 ⟨y,H1,I1,ry,q⟩=>thn (ha pins s1 σ H1 _ I1 q) λov s2 ⟨x,H2,I2,rx,a,C,dx,fs,ex,ea,c,n,l,q2⟩=>?_) hs
 subst ex
 obtain rfl:ov=Value.ref a:=rx
 exact am3 I2 ea c n l ry λs3 I3=>⟨σ,_,I3,q2⟩
end
section
variable {X:Cx} {pins:List (Addr×Obj)} {σ:St} {H:Hp} {s:Shared} {A:Around} {E:Value->Shared->Prop} {Q:Value->Shared->Prop} {c:Value} {b:Bool}
inductive X3 (K:PySem.W.Frag) (H:Hp):V->Value->Prop where
 | non:X3 K H .non (.type "NoneType")
 | bl (x:Bool):X3 K H (.bl x) (.type "bool")
 | int (i:Int):X3 K H (.int i) (.type "int")
 | str (x:Str):X3 K H (.str x) (.type "str")
 | flt (x:UInt64):X3 K H (.flt x) (.type "float")
 | lst {a:Addr} {xs:List V} (e:H a=some (.lst xs)):X3 K H (.ref a) (.type "list")
 | frz {a:Addr} {o:Obj} {xs:List V} (e:H a=some (.frz o (.lst xs))):X3 K H (.ref a) (.type "list")
 | tup {a:Addr} {xs:List V} (e:H a=some (.tup xs)):X3 K H (.ref a) (.type "tuple")
 | dK {a:Addr} {kvs:List (Key×V)} (e:H a=some (.dK kvs)):X3 K H (.ref a) (.type "dict")
 | dT {a:Addr} {kvs:List (List Key×V)} (e:H a=some (.dT kvs)):X3 K H (.ref a) (.type "dict")
 | ins {a C dx:Addr} {fs:List (Str×V)} (e:H a=some (.ins C dx fs)) (cl:Cls K C) (ha:PySem.W.findIn K (.ref C) "__class__" = some (some (.builtin "object.__class__")))
  (hn:PySem.W.specialIn K (.builtin "object.__class__") "__get__" = some (some (.builtin "getset_descriptor.__get__"))) (htk:PySem.W.takesIn K (.builtin "object.__class__")=some true)
  (hm:PySem.W.mroIn K C (.type "object")=some true):X3 K H (.ref a) (.ref C)
theorem ab3 {x:V} {u t:Value} (I:Inv X pins σ H s) (rx:RelV x u) (ty:X3 X.K H x t) (e:PySem.W.kitOne X.K t c=some b) (h:∀tk,Q (.bool b) { s with toks:=tk }) :
 wpAny (model X.prog X.w) A (call (.builtin "isinstance") [u,c]) Q E s:=by
 cases ty with
 | non=>cases (show u=Value.none from rx);exact PySem.W.kia_one PySem.W.kitx_none I.kIn True.intro e (λz=>nomatch z) h
 | bl y=>cases (show u=Value.bool y from rx);exact PySem.W.kia_one PySem.W.kitx_bool I.kIn True.intro e (λz=>nomatch z) h
 | int i=>obtain⟨t,q⟩:=(show ∃t,u=Value.int i t from rx);cases q;exact PySem.W.kia_one PySem.W.kitx_int I.kIn True.intro e (λz=>nomatch z) h
 | str y=>obtain⟨t,q⟩:=(show ∃t,u=Value.str y t from rx);cases q;exact PySem.W.kia_one PySem.W.kitx_str I.kIn True.intro e (λz=>nomatch z) h
 | flt y=>obtain⟨t,q⟩:=(show ∃t,u=Value.float y t from rx);cases q;exact PySem.W.kia_one PySem.W.kitx_float I.kIn True.intro e (λz=>nomatch z) h
 | @lst a xs ea=>
   cases (show u=Value.ref a from rx)
   obtain⟨_,_,n,_,h1⟩:=(show ObjOk X.prog X.w H s.heap a (.lst xs) from I.hok a _ ea)
   exact PySem.W.kia_one PySem.W.kitx_list I.kIn ⟨_,h1,rfl⟩ e (λz=>nomatch z) h
 | @frz a ob xs ea=>
   cases (show u=Value.ref a from rx)
   obtain⟨_,_,_,n,_,h1⟩:=(show ObjOk X.prog X.w H s.heap a (.frz ob (.lst xs)) from I.hok a _ ea)
   exact PySem.W.kia_one PySem.W.kitx_list I.kIn ⟨_,h1,rfl⟩ e (λz=>nomatch z) h
 | @tup a xs ea=>
   cases (show u=Value.ref a from rx)
   obtain⟨_,_,_,p⟩:=(show ObjOk X.prog X.w H s.heap a (.tup xs) from I.hok a _ ea)
   obtain⟨o,h1,h2,_⟩:=p
   exact PySem.W.kia_one PySem.W.kitx_tuple I.kIn ⟨o,h1,h2⟩ e (λz=>nomatch z) h
 | @dK a kvs ea=>
   cases (show u=Value.ref a from rx)
   obtain⟨_,_,vs,_,p⟩:=(show ObjOk X.prog X.w H s.heap a (.dK kvs) from I.hok a _ ea)
   obtain⟨o,es,ep,h1,h2,_⟩:=p
   exact PySem.W.kia_one PySem.W.kitx_dict I.kIn ⟨o,h1,h2.1⟩ e (λz=>nomatch z) h
 | @dT a kvs ea=>
   cases (show u=Value.ref a from rx)
   obtain⟨_,_,xs,_,o,es,ep,h1,h2,_⟩:=(show ObjOk X.prog X.w H s.heap a (.dT kvs) from I.hok a _ ea)
   exact PySem.W.kia_one PySem.W.kitx_dict I.kIn ⟨o,h1,h2.1⟩ e (λz=>nomatch z) h
 | @ins a C dx fs ea cl ha hn htk hm=>
   cases (show u=Value.ref a from rx)
   obtain⟨mA,O,_⟩:=X2 I.hok ea
   obtain⟨od,J,_⟩:=O.look
   exact PySem.W.kia_one (PySem.W.kitx_own (cl.get _) cl.hd ha hn htk hm) I.kIn J e (λz=>nomatch z) h
end
end L2
namespace L2
open PySem PySem.Spec PyProof.Rows
structure Room (k:Nat) (A:Around):Prop where
 hd:A.handled=none
 dp:A.depth+3*k+5<recursionLimit
 un:A.units+16*k+200<cLine
theorem Room.mono {j k:Nat} {A:Around} (r:Room k A) (h:j<=k):Room j A:=⟨r.hd,by have:=r.dp;omega,by have:=r.un;omega⟩
theorem Room.deeper {k:Nat} {A:Around} (r:Room (k+1) A) (env:Env):Room k (A.deeper env):=
 ⟨r.hd,by have:=r.dp;show A.depth+1+3*k+5<_;omega,by have:=r.un;show A.units+3+16*k+200<_;omega⟩
theorem am4 {A:Around} {C:Addr} {us:List Value} {kw:List (Str×Value)}:(A.under (.builtin "type.__call__" ⟨.ref C::us,kw⟩)).depth=A.depth+1:=by
 first | rfl | simp [Around.under,Code.weight,Code.isCreation,Code.isGuard,Code.isCaller,Code.frames,Code.isFrame,guardIds]
theorem am5 {A:Around} {C:Addr} {us:List Value} {kw:List (Str×Value)}:(A.under (.builtin "type.__call__" ⟨.ref C::us,kw⟩)).units=A.units+1:=by
 first | rfl | simp [Around.under,Code.cUnits,Code.frames,Code.isFrame]
theorem Room.make {k:Nat} {A:Around} (r:Room (k+1) A) (C:Addr) (us:List Value) (kw:List (Str×Value)):Room k (A.under (.builtin "type.__call__" ⟨.ref C::us,kw⟩)):=
 ⟨r.hd,by have:=r.dp;rw [am4];omega,by have:=r.un;rw [am5];omega⟩
theorem Room.depth {k:Nat} {A:Around} (r:Room k A):A.depth<recursionLimit:=by have:=r.dp;omega
theorem Room.units {k:Nat} {A:Around} (r:Room k A):A.units+64<cLine:=by have:=r.un;omega
noncomputable def tNil:TA:=λ_ H Q=>Q [] H
noncomputable def aY4 (ta:TE) (tr:TA):TA:=λσ H Q=>ta σ H λx H1=>tr σ H1 λxs H2=>Q (x::xs) H2
section
variable {X:Cx} {e:Expr} {es:List Expr} {te:TE} {t:TA} {pos:Pos}
theorem ad4:PA X [] tNil:=λ_ _ _ _ H Q I h=>Calls.spliced_nil ⟨[],H,I,.nil,h⟩
theorem R4 (ha:PE X e te) (hr:PA X es t) (hs:starEach (e::es) X.env=(false,eval e X.env)::starEach es X.env:=by rfl):PA X (e::es) (aY4 te t):=by
 intro pos pins s σ H Q I h
 rw [hs]
 show wpAny _ _ (spliced ((false,eval e X.env)::backTo pos (starEach es X.env))) _ _ s
 refine Calls.spliced_cons (thn (ha pins s σ H _ I h) λu s1 ⟨x,H1,I1,r1,q1⟩=>?_)
 exact thn (hr pos pins s1 σ H1 _ I1 q1) λus s2 ⟨xs,H2,I2,r2,q2⟩=>⟨x::xs,H2,I2,.cons r1 r2,q2⟩
noncomputable def a41 (t:TA):TE:=λσ H Q=>t σ H λxs H1=>xs.length<=sizeLine/\∀p,H1 p=none->Q (.ref p) (upd H1 p (.tup xs))
noncomputable def a42 (t:TA):TE:=λσ H Q=>t σ H λxs H1=>xs.length<=sizeLine/\∀p,H1 p=none->Q (.ref p) (upd H1 p (.lst xs))
theorem aR8 {x1} (h:PA X es t):PE X (.Tuple es x1 pos) (a41 t):=by
 intro pins s σ H Q I hq
 refine wpAny_Tuple_spliced (thn (h pos pins s σ H _ I hq) λus s1 ⟨xs,H1,I1,r,z,q⟩=>⟨by rw [←r.length];exact z,?_⟩)
 have hf:H1 s1.heap.objs.size=none:=I1.hok.fresh (Nat.le_refl _)
 refine⟨.ref s1.heap.objs.size,upd H1 s1.heap.objs.size (.tup xs),I1.laid (t':=s1.toks) (λb u e=>Heap.get?_push_of_some _ e) (Nat.le_refl _) ?_,rfl,q _ hf⟩
 exact⟨z,us,r,⟨_,Heap.get?_push_size _ rfl,rfl,_,rfl⟩⟩
theorem aR9 (h:PA X es t):PE X (.List es pos) (a42 t):=by
 intro pins s σ H Q I hq
 refine wpAny_List_spliced (thn (h pos pins s σ H _ I hq) λus s1 ⟨xs,H1,I1,r,z,q⟩=>⟨by rw [←r.length];exact z,?_⟩)
 have hf:H1 s1.heap.objs.size=none:=I1.hok.fresh (Nat.le_refl _)
 refine⟨.ref s1.heap.objs.size,upd H1 s1.heap.objs.size (.lst xs),I1.laid (t':=s1.toks) (λb u e=>Heap.get?_push_of_some _ e) (Nat.le_refl _) ?_,rfl,q _ hf⟩
 exact⟨z,us,0,r,Heap.get?_push_size _ rfl⟩
end
noncomputable abbrev Sp:=List V->Hp->VK->XK->Prop
noncomputable abbrev CXT:=List Env->Hp->Shared->XK->Value->Shared->Prop
structure Env0 (P:Program) (w:World) (K:PySem.W.Frag) (mg:Str->Option Value) (base:Heap) (A:Around) (outer:List Env) (s:Shared) (H:Hp):Prop where
 frames:A.frames=some outer
 mod:Mod K mg base
 bs:∀b o,base.get? b=some o->s.heap.get? b=some o/\H b=none
 bsz:base.objs.size<=s.heap.objs.size
 funs:s.heap.FunFrames base outer
 frf:∀b∈frs outer,H b=none
 hok:HOk P w H s.heap
 bare:AllBare s.gens
noncomputable def CE (outer:List Env) (P:Program) (w:World) (H:Hp) (s:Shared) (Q:VK) (u:Value) (s':Shared):Prop:=
 ∃v H',s'.os=s.os/\AllBare s'.gens/\Un (frs outer) [] H H' s.heap s'.heap/\HOk P w H' s'.heap/\RelV v u/\Q v H'
noncomputable def CR (CX:CXT) (outer:List Env) (P:Program) (w:World) (H:Hp) (s:Shared) (Q:VK) (E:XK) (r:Result) (s':Shared):Prop:=
 match r with
 | .ok (.ret u)=>CE outer P w H s Q u s'
 | .ok _=>False
 | .error e=>CX outer H s E e s'
structure FnOk (P:Program) (w:World) (K:PySem.W.Frag) (mg:Str->Option Value) (base:Heap) (CX:CXT) (k:Nat) (f:Addr) (fd:FuncData) (ps:List Str) (sp:Sp):Prop where
 len:∀vs H Q E,sp vs H Q E->vs.length=ps.length
 run:∀(A:Around) (outer:List Env) (s:Shared) (H:Hp) (args:Args) (us:List Value) (vs:List V) (Q:VK) (E:XK),Room k A->Env0 P w K mg base A outer s H->BindsTo s fd args (ps.zip us)->Vals vs us->sp vs H Q E->
  codeAny (model P w) A (.call (.ref f) args) (CR CX outer P w H s Q E) s
theorem FnOk.imp {P:Program} {w:World} {K:PySem.W.Frag} {mg:Str->Option Value} {base:Heap} {CX:CXT} {k:Nat} {f:Addr} {fd:FuncData} {ps:List Str} {sp sp':Sp} (F:FnOk P w K mg base CX k f fd ps sp)
 (h:∀vs H Q E,sp' vs H Q E->sp vs H Q E):FnOk P w K mg base CX k f fd ps sp':=
 ⟨λvs H Q E q=>F.len vs H Q E (h _ _ _ _ q),λA outer s H args us vs Q E hr he hb hv hs=>F.run A outer s H args us vs Q E hr he hb hv (h _ _ _ _ hs)⟩
theorem Env0.make {P:Program} {w:World} {K:PySem.W.Frag} {mg:Str->Option Value} {base:Heap} {A:Around} {outer:List Env} {s:Shared} {H:Hp} (e:Env0 P w K mg base A outer s H) (C:Addr) (us:List Value) (kw:List (Str×Value)) :
 Env0 P w K mg base (A.under (.builtin "type.__call__" ⟨.ref C::us,kw⟩)) outer s H:=⟨by first | exact e.frames | (simpa [Around.under,Code.envs,Code.isFrame,pushEnvs] using e.frames),e.mod,e.bs,e.bsz,e.funs,e.frf,e.hok,e.bare⟩
section
variable {X:Cx} {pins:List (Addr×Obj)} {σ:St} {H:Hp} {s s':Shared}
theorem Inv.env0 (I:Inv X pins σ H s):Env0 X.prog X.w X.K X.mg X.base X.A X.stack s H:=
 ⟨I.ok.frames,I.ok.mod,I.bs,Nat.le_trans I.ok.bsz I.sz,I.stack,I.stkFree,I.hok,I.bare⟩
theorem Inv.after {Q:VK} {u:Value} (I:Inv X pins σ H s) (h:CE X.stack X.prog X.w H s Q u s'):EP X pins σ Q u s':=by
 obtain⟨v,H',os,bare,un,hok,r,q⟩:=h
 obtain⟨hh,g,d,t,os'⟩:=s'
 obtain rfl:os'=s.os:=os
 exact⟨v,H',I.call (h':=hh) (g':=g) (d':=d) (t':=t) (ch:=[]) un hok bare (λb z=>absurd z (by simp)),r,q⟩
end
noncomputable def aN9 (sp:Sp) (dvs:List V) (E:XK) (t:TA):TE:=λσ H Q=>t σ H λvs H1=>sp (vs++dvs) H1 Q E
noncomputable def aA9 (C:Addr) (m:Str) (sp:Sp) (dvs:List V) (E:XK) (ta:TE) (t:TA):TE:=λσ H Q=>ta σ H λx H1=>∃a dx fs,x=.ref a/\H1 a=some (.ins C dx fs)/\fs.lookup m=none/\
 t σ H1 λvs H2=>sp (x::(vs++dvs)) H2 Q E
noncomputable def aO0 (C:Addr) (sp:Sp) (dvs:List V) (E:XK) (t:TA):TE:=λσ H Q=>t σ H λvs H1=>∀x dx,H1 x=none->H1 dx=none->dx≠x->
 sp (.ref x::(vs++dvs)) (upd (upd H1 dx (.own x)) x (.ins C dx [])) (λv H2=>v=.non/\Q (.ref x) H2) E
noncomputable def Binds (K:PySem.W.Frag) (fd:FuncData) (ps:List Str) (ds:List Value):Prop:=
 ∀(s:Shared) (us:List Value),K.In s.heap->(us++ds).length=ps.length->BindsTo s fd ⟨us,[]⟩ (ps.zip (us++ds))
theorem Binds.all {K:PySem.W.Frag} {fd:FuncData} {ps:List Str} (h:∀us:List Value,us.length=ps.length->bindArgs fd ⟨us,[]⟩=pure (ps.zip us)):Binds K fd ps []:=λs us _ hl=>by
 rw [List.append_nil] at hl ⊢
 exact .of_eq (h us hl)
noncomputable def W0 (CX:CXT) (X:Cx) (E:XK):Prop:=∀(pins:List (Addr×Obj)) (σ:St) (H:Hp) (s:Shared) (e:Value) (s':Shared),Inv X pins σ H s->CX X.stack H s E e s'->X.xe e s'
section
variable {X:Cx} {CX:CXT} {k:Nat} {f C:Addr} {fd:FuncData} {ps:List Str} {sp:Sp} {dvs:List V} {ds:List Value} {E:XK} {x m:Str} {p pos apos:Pos} {e o:Expr} {es:List Expr} {ta:TE} {t:TA}
theorem am6 {pins:List (Addr×Obj)} {σ:St} {H:Hp} {s:Shared} {Q:VK} {us:List Value} {vs:List V} (F:FnOk X.prog X.w X.K X.mg X.base CX k f fd ps sp) (hr:Room k X.A) (hb:Binds X.K fd ps ds) (hd:Vals dvs ds) (hx:W0 CX X E)
 (I:Inv X pins σ H s) (r:Vals vs us) (h:sp (vs++dvs) H Q E):wpAny (model X.prog X.w) X.A (call (.ref f) us) (EP X pins σ Q) X.xe s:=by
 have r2:Vals (vs++dvs) (us++ds):=r.append hd
 have hl:(us++ds).length=ps.length:=by rw [←r2.length];exact F.len _ _ _ _ h
 refine wpAny_call (codeAny_mono (F.run X.A X.stack s H ⟨us,[]⟩ (us++ds) (vs++dvs) Q E hr I.env0 (hb s us I.kIn hl) r2 h) λr s' hq=>?_)
 cases r with
 | error e=>exact hx pins σ H s e s' I hq
 | ok fl=>
   cases fl with
   | ret u=>exact I.after hq
   | next=>exact False.elim hq
   | brk=>exact False.elim hq
   | cont=>exact False.elim hq
theorem aJ1 (F:FnOk X.prog X.w X.K X.mg X.base CX k f fd ps sp) (hr:Room k X.A) (hg:Gl X x) (hm:X.mg x=some (.ref f)) (hk:PySem.W.keepIn X.K (.ref f)=true) (hb:Binds X.K fd ps ds) (hd:Vals dvs ds) (hx:W0 CX X E)
 (ha:PA X (e::es) t) (hdb:(x == ("__debug__" : Str))=false:=by decide) (he:starEach (e::es) X.env=(false,eval e X.env)::starEach es X.env:=by rfl) (hpl:(backTo pos (starEach es X.env)).any (·.1)=false:=by rfl) :
 PE X (.Call (.Name x p) (e::es) [] pos) (aN9 sp dvs E t):=by
 intro pins s σ H Q I h
 refine wpAny_Call_Name_kw (j8 I hg hm ?_ hdb)
 refine PySem.W.callWith_K (h₀:=X.base) I.ok.mod.kin hk (thn (ha pos pins s σ H _ I h) λus s1 ⟨vs,H1,I1,r,q⟩=>⟨I1.kIn,?_⟩) he hpl
 exact am6 F hr hb hd hx I1 r q
theorem aJ2 {pl:Sem Bool} (he:PE X o ta) (c:Cls X.K C) (hm:aA8 X.K C m f) (F:FnOk X.prog X.w X.K X.mg X.base CX k f fd ps sp) (hr:Room k X.A) (hb:Binds X.K fd ps ds) (hd:Vals dvs ds) (hx:W0 CX X E) (ha:PA X (e::es) t)
 (hst:starEach (e::es) X.env=(false,eval e X.env)::starEach es X.env:=by rfl) (hpl:(backTo pos (starEach es X.env)).any (·.1)=false:=by rfl)
 (ht:eval (.Call (.Attribute o m apos) (e::es) [] pos) X.env=(do
  let ov ←eval o X.env
  standAt apos.atName
  let (f,first) ←holding [ov] (getMethod ov m pl)
  callWith pos f first (backTo pos (starEach (e::es) X.env)) (backToKw pos (keywordEach [] X.env))):=by rfl) :
 PE X (.Call (.Attribute o m apos) (e::es) [] pos) (aA9 C m sp dvs E ta t):=by
 intro pins s σ H Q I h
 refine PySem.W.methodCall_KW (pl:=pl) (thn (he pins s σ H _ I h) λu s1 ⟨x,H1,I1,rx,a,dx,fs,ex,ea,l,q⟩=>?_) ht
 subst ex
 obtain rfl:u=Value.ref a:=rx
 refine n3 I1 ea c hm l ?_
 refine PySem.W.callWith_K (first:=[.ref a]) (h₀:=X.base) I.ok.mod.kin hm.kp (thn (ha pos pins s1 σ H1 _ I1 q) λus s2 ⟨vs,H2,I2,r,q2⟩=>⟨I2.kIn,?_⟩) hst hpl
 exact am6 (us:=.ref a::us) (vs:=.ref a::vs) F hr hb hd hx I2 (.cons rfl r) q2
theorem aB0 {pl:Sem Bool} (he:PE X o ta) (c:Cls X.K C) (hm:aA8 X.K C m f) (F:FnOk X.prog X.w X.K X.mg X.base CX k f fd ps sp) (hr:Room k X.A) (hb:Binds X.K fd ps ds) (hd:Vals dvs ds) (hx:W0 CX X E)
 (ht:eval (.Call (.Attribute o m apos) [] [] pos) X.env=(do
  let ov ←eval o X.env
  standAt apos.atName
  let (f,first) ←holding [ov] (getMethod ov m pl)
  callWith pos f first (backTo pos (starEach [] X.env)) (backToKw pos (keywordEach [] X.env))):=by rfl) :
 PE X (.Call (.Attribute o m apos) [] [] pos) (aA9 C m sp dvs E ta tNil):=by
 intro pins s σ H Q I h
 refine PySem.W.methodCall_KW (pl:=pl) (thn (he pins s σ H _ I h) λu s1 ⟨x,H1,I1,rx,a,dx,fs,ex,ea,l,q⟩=>?_) ht
 subst ex
 obtain rfl:u=Value.ref a:=rx
 refine n3 I1 ea c hm l ?_
 exact PySem.W.callWith_K0 (first:=[.ref a]) I1.kIn hm.kp (am6 (us:=[.ref a]) (vs:=[.ref a]) F hr hb hd hx I1 (.cons rfl .nil) q)
structure Mk (K:PySem.W.Frag) (C f:Addr):Prop where
 makes:PySem.W.makesIn K C=true
 init:PySem.W.findIn K (.ref C) "__init__" = some (some (.ref f))
 fn:PySem.W.isFn K (.ref f)=true
 kp:PySem.W.keepIn K (.ref C)=true
theorem aB1 {pins:List (Addr×Obj)} {σ:St} {H:Hp} {s:Shared} {Q:VK} {us:List Value} {vs:List V} (M:Mk X.K C f) (F:FnOk X.prog X.w X.K X.mg X.base CX k f fd ps sp) (hr:Room (k+1) X.A) (hb:Binds X.K fd ps ds) (hd:Vals dvs ds)
 (hx:W0 CX X E) (I:Inv X pins σ H s) (r:Vals vs us)
 (h:∀x dx,H x=none->H dx=none->dx≠x->sp (.ref x::(vs++dvs)) (upd (upd H dx (.own x)) x (.ins C dx [])) (λv H2=>v=.non/\Q (.ref x) H2) E) :
 wpAny (model X.prog X.w) X.A (call (.ref C) us) (EP X pins σ Q) X.xe s:=by
 have hq:=h (s.heap.objs.size+1) s.heap.objs.size (I.hok.fresh (Nat.le_succ _)) (I.hok.fresh (Nat.le_refl _)) (Nat.ne_of_lt (Nat.lt_succ_self _))
 have I2:=Inv.made (C:=C) I
 have r2:Vals (V.ref (s.heap.objs.size+1)::(vs++dvs)) (Value.ref (s.heap.objs.size+1)::(us++ds)):=.cons rfl (r.append hd)
 have hl:(Value.ref (s.heap.objs.size+1)::us++ds).length=ps.length:=by
  have e:=r2.length
  rw [F.len _ _ _ _ hq] at e
  exact e.symm
 refine wpAny_call (aA7 (f:=f) I.kIn M.makes M.init (beq_iff_eq.mp M.fn) (codeAny_mono (F.run _ X.stack _ _ ⟨Value.ref (s.heap.objs.size+1)::us,[]⟩ (Value.ref (s.heap.objs.size+1)::(us++ds)) _ _ E (hr.make C us [])
  (I2.env0.make C us []) (hb _ (Value.ref (s.heap.objs.size+1)::us) I2.kIn hl) r2 hq) λr s' hq'=>?_))
 cases r with
 | error e=>exact hx pins σ _ _ e s' I2 hq'
 | ok fl=>
   cases fl with
   | ret u=>
     obtain⟨v,H',I3,rv,ev,q3⟩:=I2.after hq'
     subst ev
     exact⟨rv,⟨V.ref (s.heap.objs.size+1),H',I3,rfl,q3⟩⟩
   | next=>exact False.elim hq'
   | brk=>exact False.elim hq'
   | cont=>exact False.elim hq'
theorem aJ3 (M:Mk X.K C f) (F:FnOk X.prog X.w X.K X.mg X.base CX k f fd ps sp) (hr:Room (k+1) X.A) (hg:Gl X x) (hm:X.mg x=some (.ref C)) (hb:Binds X.K fd ps ds) (hd:Vals dvs ds) (hx:W0 CX X E)
 (ha:PA X (e::es) t) (hdb:(x == ("__debug__" : Str))=false:=by decide) (he:starEach (e::es) X.env=(false,eval e X.env)::starEach es X.env:=by rfl) (hpl:(backTo pos (starEach es X.env)).any (·.1)=false:=by rfl) :
 PE X (.Call (.Name x p) (e::es) [] pos) (aO0 C sp dvs E t):=by
 intro pins s σ H Q I h
 refine wpAny_Call_Name_kw (j8 I hg hm ?_ hdb)
 refine PySem.W.callWith_K (h₀:=X.base) I.ok.mod.kin M.kp (thn (ha pos pins s σ H _ I h) λus s1 ⟨vs,H1,I1,r,q⟩=>⟨I1.kIn,?_⟩) he hpl
 exact aB1 M F hr hb hd hx I1 r q
end
structure D1 (N P:List Str) (sc:Scope):Prop where
 kind:sc.kind=.function
 co:sc.isCoroutine=false
 gen:sc.isGenerator=false
 nd:N.Nodup
 pre:N.take P.length=P
 par:∀x∈P,sc.names.lookup x=some .local\/sc.names.lookup x=some .cell
 nofree:∀y∈sc.names,y.2≠.free
theorem ab4 {kindOf:Str->Option NameKind} {x:Str}:∀{binds:List (Str×Value)} {m:Str->Option Value},(∀v,(x,v)∉binds)->bindL kindOf binds m x=m x
 | [],_,_=>rfl
 | (n,v)::r,m,h=>by
   unfold bindL
   rw [ab4 λw hw=>h w (List.mem_cons_of_mem _ hw)]
   split
   ·have:x≠n:=by rintro rfl;exact h v List.mem_cons_self
    simp [this]
   ·rfl
theorem ab5 {kindOf:Str->Option NameKind} {x:Str}:∀{binds:List (Str×Value)} {m:Str->Option Value},(∀v,(x,v)∉binds)->bindC kindOf binds m x=m x
 | [],_,_=>rfl
 | (n,v)::r,m,h=>by
   unfold bindC
   rw [ab5 λw hw=>h w (List.mem_cons_of_mem _ hw)]
   split
   ·rfl
   ·have:x≠n:=by rintro rfl;exact h v List.mem_cons_self
    simp [this]
theorem ab6 {kindOf:Str->Option NameKind} {x:Str} {v:Value}:∀{P:List Str} {vs:List Value} {i:Nat} {m:Str->Option Value},P.Nodup->P[i]?=some x->vs[i]?=some v->kindOf x=some .local->
 bindL kindOf (P.zip vs) m x=some v
 | [],_,_,_,_,h,_,_=>by simp at h
 | _::_,[],_,_,_,_,h,_=>by simp at h
 | p::P,w::vs,0,m,nd,h1,h2,hk=>by
   simp at h1 h2;subst h1;subst h2
   show bindL kindOf ((p,w)::P.zip vs) m p=_
   unfold bindL
   rw [ab4 λv hv=>(List.nodup_cons.mp nd).1 (List.of_mem_zip hv).1,if_pos hk]
   simp
 | p::P,w::vs,i+1,m,nd,h1,h2,hk=>by
   show bindL kindOf ((p,w)::P.zip vs) m x=_
   unfold bindL
   exact ab6 (i:=i) (List.nodup_cons.mp nd).2 (by simpa using h1) (by simpa using h2) hk
theorem ab7 {kindOf:Str->Option NameKind} {x:Str} {v:Value}:∀{P:List Str} {vs:List Value} {i:Nat} {m:Str->Option Value},P.Nodup->P[i]?=some x->vs[i]?=some v->kindOf x≠some .local->
 bindC kindOf (P.zip vs) m x=some v
 | [],_,_,_,_,h,_,_=>by simp at h
 | _::_,[],_,_,_,_,h,_=>by simp at h
 | p::P,w::vs,0,m,nd,h1,h2,hk=>by
   simp at h1 h2;subst h1;subst h2
   show bindC kindOf ((p,w)::P.zip vs) m p=_
   unfold bindC
   rw [ab5 λv hv=>(List.nodup_cons.mp nd).1 (List.of_mem_zip hv).1,if_neg hk]
   simp
 | p::P,w::vs,i+1,m,nd,h1,h2,hk=>by
   show bindC kindOf ((p,w)::P.zip vs) m x=_
   unfold bindC
   exact ab7 (i:=i) (List.nodup_cons.mp nd).2 (by simpa using h1) (by simpa using h2) hk
noncomputable def start (N:List Str) (vs:List V):St:=vs.map some++List.replicate (N.length - vs.length) none
noncomputable def ah2 (CX:CXT) (P:Program) (w:World) (K:PySem.W.Frag) (mg:Str->Option Value) (base:Heap) (N:List Str) (qual:Str) (scope:Scope) (f:Addr) (cd:Value) (A:Around) (outer:List Env) (s:Shared) (H:Hp) (E:XK):Cx where
 prog:=P
 w:=w
 K:=K
 mg:=mg
 base:=base
 A:=A.deeper (envOfC qual scope s.heap.objs.size f cd)
 N:=N
 s₀:=s
 H₀:=H
 env:=envOfC qual scope s.heap.objs.size f cd
 outer:=outer
 stack:=envOfC qual scope s.heap.objs.size f cd::outer
 ex:=[]
 calm:=true
 fn:=λ_=>true
 pn:=[]
 xe:=λe s'=>wpAny (model P w) (A.deeper (envOfC qual scope s.heap.objs.size f cd)) (leaving (envOfC qual scope s.heap.objs.size f cd) e) (λ_ s''=>CX outer H s E e s'') (λe' s''=>CX outer H s E e' s'') s'
theorem ah3 {sc:Scope} {n:Nat} {x:Str} (h:sc.names.lookup x=some .cell):∃c,(cellsFrom n sc.names []).lookup x=some c:=by
 have q:=PySem.W.cellsFrom_some sc.names n [] (.inl h)
 exact Option.isSome_iff_exists.mp q
theorem av7 {CX:CXT} {P:Program} {w:World} {K:PySem.W.Frag} {mg:Str->Option Value} {base:Heap} {N ps:List Str} {qual:Str} {scope:Scope} {f:Addr} {cd:Value} {A:Around} {outer:List Env} {s s1:Shared} {H:Hp} {E:XK} {us:List Value} {vs:List V}
 (S:D1 N ps scope) (hd:A.handled=none) (e0:Env0 P w K mg base A outer s H) (hl:vs.length=ps.length) (r:Vals vs us)
 (x:InCallC s s.heap.objs.size (bindL (envOfC qual scope s.heap.objs.size f cd).kindOf (ps.zip us) λ_=>none) (cellsFrom (s.heap.objs.size+1) scope.names []) (bindC (envOfC qual scope s.heap.objs.size f cd).kindOf (ps.zip us) λ_=>none) s1) :
 Inv (ah2 CX P w K mg base N qual scope f cd A outer s H E) [] (start N vs) H s1:=by
 have hpl:ps.length<=N.length:=by have:=congrArg List.length S.pre;rw [List.length_take] at this;omega
 obtain⟨h1,tk,rfl,hk⟩:=x.done
 have noA:∀b:Addr,b∉(ah2 CX P w K mg base N qual scope f cd A outer s H E).ex:=λb z=>absurd (show b∈([]:List Addr) from z) (by simp)
 refine⟨⟨e0.mod,S.kind,rfl,rfl,Nat.le_refl _,λy z c h1 h2=>?_,λy hy=>?_,λy c _ h=>?_,λ_=>hd,Around.frames_deeper e0.frames,.inr ⟨rfl,rfl⟩,λb z=>absurd z (noA b),e0.bs,e0.bsz,λb _ _=>noA b,λb z=>absurd z (noA b),e0.funs,e0.frf⟩,
  rfl,e0.bare,Un.kept hk,⟨_,x.toInCall.ns,λi y v h1 h2 h3=>?_⟩,λy c h=>⟨_,x.cell y c h⟩,e0.hok.fresh (Nat.le_refl _),λy c h=>?_,λp hp=>absurd (show p∈([]:List (Addr×Obj)) from hp) (by simp),e0.hok.kept hk,?_⟩
 ·exact name_of_addr x.apart (PySem.mem_of_lookup h1) (PySem.mem_of_lookup h2)
 ·have hy:scope.names.lookup y=some .cell\/scope.names.lookup y=some .free:=hy
  rcases hy with hy | hy
  ·exact ah3 hy
  ·exact absurd rfl (S.nofree _ (PySem.mem_of_lookup hy))
 ·exact Nat.le_of_lt (x.above y c (PySem.mem_of_lookup h))
 ·have hi:i<vs.length:=by
   unfold start at h2
   by_cases hi:i<vs.length
   ·exact hi
   ·rw [List.getElem?_append_right (by simpa using hi)] at h2
    rw [List.getElem?_replicate] at h2
    split at h2 <;> cases h2
  have ha:vs[i]?=some v:=by
   unfold start at h2
   rw [List.getElem?_append_left (by simpa using hi),List.getElem?_map] at h2
   cases e:vs[i]? with
   | none=>rw [e] at h2;cases h2
   | some a=>rw [e] at h2;cases h2;rfl
  obtain⟨u,hu,rv⟩:=r.get ha
  have hp:ps[i]?=some y:=by
   rw [←S.pre,List.getElem?_take_of_lt (by omega)];exact h1
  have ndP:ps.Nodup:=by rw [←S.pre];exact S.nd.sublist (List.take_sublist _ _)
  refine⟨u,rv,?_⟩
  rcases S.par y (List.mem_of_getElem? hp) with k | k
  ·exact .inl ⟨k,ab6 ndP hp hu k⟩
  ·obtain⟨c,e⟩:=ah3 (n:=s.heap.objs.size+1) k
   refine .inr ⟨.inl k,c,e,?_⟩
   have q:=x.cell y c e
   rw [ab7 ndP hp hu (by show scope.names.lookup y≠_;rw [k];decide)] at q
   exact q
 ·exact e0.hok.fresh (Nat.le_of_lt (x.above y c (PySem.mem_of_lookup h)))
 ·unfold start
  show _=N.length
  rw [List.length_append,List.length_map,List.length_replicate]
  omega
theorem aO1 {CX:CXT} {P:Program} {w:World} {K:PySem.W.Frag} {mg:Str->Option Value} {base:Heap} {k:Nat} {f:Addr} {name qual:Str} {params:Arguments} {body:List Stmt} {scope:Scope} {dV kV doc pm cdv ct oc:Value} {an od:Option Addr}
 {osl:Array (Option Value)} {N ps:List Str} {sp:Sp} (lk:K.lookup f=some ⟨oc,od,.func (PySem.W.fnOf name qual params body scope dV kV doc pm an cdv ct),osl⟩) (hcd:PySem.W.codeIn K cdv qual=true) (S:D1 N ps scope)
 (len:∀vs H Q E,sp vs H Q E->vs.length=ps.length)
 (hbody:∀(A:Around) (outer:List Env) (s:Shared) (H:Hp) (vs:List V) (Q:VK) (E:XK),Room k (A.deeper (envOfC qual scope s.heap.objs.size f cdv))->sp vs H Q E->
  ∃t,PSs (ah2 CX P w K mg base N qual scope f cdv A outer s H E) body t/\t { nx:=λ_ H'=>Q .non H',rt:=Q } (start N vs) H) :
 FnOk P w K mg base CX (k+1) f (PySem.W.fnOf name qual params body scope dV kV doc pm an cdv ct) ps sp:=by
 refine⟨len,λA outer s H args us vs Q E hr e0 hb r hsp=>?_⟩
 have hl:=len _ _ _ _ hsp
 have KX:K.In s.heap:=e0.mod.kin.keeps λb o e=>(e0.bs b o e).1
 have lim:s.heap.NoLimit:=e0.mod.nolimit.keeps λb o e=>(e0.bs b o e).1
 have hkind:∀y∈ps.zip us,scope.names.lookup y.1=some .local\/(scope.names.lookup y.1=some .cell/\((cellsFrom (s.heap.objs.size+1) scope.names []).lookup y.1).isSome=true):=λ⟨n,v⟩ hy=>by
  rcases S.par n (List.of_mem_zip hy).1 with q | q
  ·exact .inl q
  ·exact .inr ⟨q,PySem.W.cellsFrom_some _ _ _ (.inl q)⟩
 refine codeAny_call_function hr.depth (KX _ _ lk) rfl S.co S.gen rfl (PySem.W.codeRec_of KX hcd) (hb _ _ _ _ ?_)
 refine wpAny_newFunctionEnv_cells S.kind hkind λenv he s1 x=>?_
 subst he
 refine⟨lim.keeps x.toInCall.keep,codeAny_func ?_⟩
 obtain⟨t,ht,hq⟩:=hbody A outer s H vs Q E (hr.deeper _) hsp
 have I:Inv (ah2 CX P w K mg base N qual scope f cdv A outer s H E) [] (start N vs) H s1:=av7 S hr.hd e0 hl r x
 refine wpAny_mono (ht [] s1 (start N vs) H _ I hq) (λfl s' hs=>?_) λe s' hs=>hs
 have fin:∀{σ':St} {H':Hp} {v:V} {u:Value},Inv (ah2 CX P w K mg base N qual scope f cdv A outer s H E) [] σ' H' s'->RelV v u->Q v H'->CE outer P w H s Q u s':=
  λ{σ' H' v u} J rv q=>⟨v,H',J.os,J.bare,J.base,J.hok,rv,q⟩
 cases fl with
 | ret u=>
   obtain⟨v,σ',H',J,rv,q⟩:=hs
   exact fin J rv q
 | next=>
   obtain⟨σ',H',J,q⟩:=hs
   exact fin (v:=V.non) (u:=Value.none) J rfl q
 | brk=>
   obtain⟨_,_,_,q⟩:=hs
   exact False.elim q
 | cont=>
   obtain⟨_,_,_,q⟩:=hs
   exact False.elim q
end L2
namespace L2
open PySem PySem.Spec PyProof.Rows
section
variable {X:Cx} {x:Str} {p pos:Pos} {e:Expr} {es:List Expr} {t:TA} {id T:String} {r:List V->Hp->VK->Prop}
noncomputable def tCB (r:List V->Hp->VK->Prop) (t:TA):TE:=λσ H Q=>t σ H λvs H1=>r vs H1 Q
theorem N7 (hc:CallR X (.builtin id) r) (hg:Gl X x) (hm:X.mg x=none) (hv:bootBuiltins x=some (.builtin id)) (ha:PA X (e::es) t) (hn:x≠"__name__":=by decide) (hdb:(x == ("__debug__" : Str))=false:=by decide)
 (he:starEach (e::es) X.env=(false,eval e X.env)::starEach es X.env:=by rfl) (hpl:(backTo pos (starEach es X.env)).any (·.1)=false:=by rfl):PE X (.Call (.Name x p) (e::es) [] pos) (tCB r t):=by
 intro pins s σ H Q I h
 refine wpAny_Call_Name_kw (V9 I hg hm hv ?_ hn hdb)
 exact PyProof.Rows.callWith_builtin1 (thn (ha pos pins s σ H _ I h) λus s1 ⟨vs,H1,I1,r1,q1⟩=>hc pins s1 σ H1 vs us Q I1 r1 q1) he hpl
theorem d0 (hc:CallR X (.type T) r) (hg:Gl X x) (hm:X.mg x=none) (hv:bootBuiltins x=some (.type T)) (ha:PA X (e::es) t) (hn:x≠"__name__":=by decide) (hdb:(x == ("__debug__" : Str))=false:=by decide)
 (he:starEach (e::es) X.env=(false,eval e X.env)::starEach es X.env:=by rfl) (hpl:(backTo pos (starEach es X.env)).any (·.1)=false:=by rfl):PE X (.Call (.Name x p) (e::es) [] pos) (tCB r t):=by
 intro pins s σ H Q I h
 refine wpAny_Call_Name_kw (V9 I hg hm hv ?_ hn hdb)
 exact PyProof.Rows.callWith_type1 (thn (ha pos pins s σ H _ I h) λus s1 ⟨vs,H1,I1,r1,q1⟩=>hc pins s1 σ H1 vs us Q I1 r1 q1) he hpl
end
end L2
namespace HT
open PySem PyProof.Rows
section
variable {prog:Program} {w:World} {A:Around} {E:Value->Shared->Prop} {s:Shared}
theorem cat_tup {t b:Addr} {vs ws:List Value} {Q:Value->Shared->Prop} (ht:IsTup s.heap t vs.toArray) (hb:IsTup s.heap b ws.toArray) (hv:vs≠[])
 (h1:ws=[]->Q (.ref t) s) (h2:ws≠[]->Q (.ref s.heap.objs.size) { s with heap:=s.heap.push { cls:=.type "tuple",data:=.seq (vs++ws).toArray } })
 (hsz:vs.length+ws.length<=sizeLine):wpAny (model prog w) A (binaryOp .Add (.ref t) (.ref b)) Q E s:=by
 obtain⟨⟨cls,dd,data,sl⟩,ho,hc,n,hd⟩:=id ht
 obtain⟨⟨cls2,dd2,data2,sl2⟩,ho2,hc2,n2,hd2⟩:=id hb
 simp only at hc hd hc2 hd2
 subst hc hd hc2 hd2
 have e:vs.toArray++ws.toArray=(vs++ws).toArray:=by simp
 by_cases hw:ws=[]
 ·exact concat_meets ⟨_,ho,rfl⟩ ⟨_,ho2,rfl⟩ noFill_tuple_add seq_tuple_add PySem.F.slot_tuple_add PySem.F.entry_tuple_add (PySem.F.args_tuple_add_2 _ _)
   (tuple_addW1 t b vs.toArray ws.toArray n n2 dd dd2 sl sl2 (by simpa using hv) (by simp [hw])) ⟨ho,ho2,h1 hw⟩
 ·refine concat_meets ⟨_,ho,rfl⟩ ⟨_,ho2,rfl⟩ noFill_tuple_add seq_tuple_add PySem.F.slot_tuple_add PySem.F.entry_tuple_add (PySem.F.args_tuple_add_2 _ _)
   (tuple_addW2 t b vs.toArray ws.toArray n n2 dd dd2 sl sl2 (by simpa using hv) (by simpa using hw) (by rw [List.size_toArray,List.size_toArray];exact hsz)) ⟨ho,ho2,?_⟩
  rw [e]
  exact h2 hw
noncomputable def sIx (n d:Nat):Option Int->Nat
 | none=>d
 | some v=>if v<0 then (v+(n:Int)).toNat else min v.toNat n
theorem aS0 (n d:Nat) (hd:d<=n) (o:Option Int):sIx n d o<=n:=by
 cases o with
 | none=>exact hd
 | some v=>
   show (if v<0 then (v+(n:Int)).toNat else min v.toNat n)<=n
   by_cases hv:v<0
   ·rw [if_pos hv];omega
   ·rw [if_neg hv];exact Nat.min_le_right _ _
theorem clip_eq (v:Int) (n d:Nat):(if v<0 then max (v+(n:Int)) 0 else min v (n:Int))=((sIx n d (some v):Nat):Int):=by
 show (if v<0 then max (v+(n:Int)) 0 else min v (n:Int))=(((if v<0 then (v+(n:Int)).toNat else min v.toNat n):Nat):Int)
 by_cases hv:v<0
 ·simp only [if_pos hv];omega
 ·simp only [if_neg hv];omega
theorem am7 (lo hi:Option Int) (n:Nat):Builtin.Slice.sliceAdjust lo hi 1 (n:Int)=(((sIx n 0 lo:Nat):Int),((sIx n n hi:Nat):Int)):=by
 have h1:¬((1:Int)<0):=by omega
 unfold Builtin.Slice.sliceAdjust
 simp only [h1,if_false]
 refine Prod.ext ?_ ?_
 ·cases lo with
  | none=>rfl
  | some v=>exact clip_eq v n 0
 ·cases hi with
  | none=>rfl
  | some v=>exact clip_eq v n n
theorem am8 (i j:Nat):Builtin.Slice.slicePlaces (i:Int) (j:Int) 1=j - i:=by
 unfold Builtin.Slice.slicePlaces
 have h1:(1:Int) > 0:=by omega
 simp only [h1,if_true,Int.ediv_one]
 split <;> omega
theorem n4 {v:Value} {o:Option Int} {Q:Option Int->Shared->Prop} (p:IsPart v o) (h:Q o s):wpAny (model prog w) A (Builtin.Slice.slicePartIndex v) Q E s:=by
 cases p with
 | none=>exact slicePart_none h
 | int i t=>exact slicePart_int h
theorem d3 {sl:Addr} {vl vu:Value} {lo hi:Option Int} {n:Nat} {Q:Int×Int×Nat->Shared->Prop} (hs:s.heap.IsSliceOf sl vl vu .none) (pl:IsPart vl lo) (pu:IsPart vu hi)
 (h:Q (((sIx n 0 lo:Nat):Int),1,sIx n n hi - sIx n 0 lo) s):wpAny (model prog w) A (Builtin.Slice.sliceApplied (.ref sl) (pure (n:Int))) Q E s:=by
 obtain⟨os,hos,hcs,hds⟩:=id hs
 unfold Builtin.Slice.sliceApplied Builtin.Slice.sliceFields
 refine wpAny_bind (wpAny_bind (wpAny_field hos hds (x:=vl) rfl (wpAny_bind (wpAny_field hos hds (x:=vu) rfl (wpAny_bind (wpAny_field hos hds (x:=.none) rfl (wpAny_pure ?_)))))))
 refine wpAny_bind (slicePart_none ?_)
 show wpAny _ _ (if ((1:Int) == 0)=true then _ else _) _ _ s
 rw [if_neg (by decide)]
 refine wpAny_bind (n4 pl (wpAny_bind (n4 pu (wpAny_bind (wpAny_pure ?_)))))
 show wpAny _ _ (match Builtin.Slice.sliceAdjust lo hi 1 (n:Int) with | (lo,hi)=>pure (lo,(1:Int),Builtin.Slice.slicePlaces lo hi 1)) _ _ s
 rw [am7 lo hi n]
 show wpAny _ _ (pure (((sIx n 0 lo:Nat):Int),(1:Int),Builtin.Slice.slicePlaces ((sIx n 0 lo:Nat):Int) ((sIx n n hi:Nat):Int) 1)) _ _ s
 rw [am8]
 exact wpAny_pure h
theorem aB2 (xs:Array Value) (i k:Nat):((List.range k).filterMap λ(m:Nat)=>xs[((i:Int)+(m:Int)*1).toNat]?).toArray=((xs.toList.drop i).take k).toArray:=by
 have e:(λ(m:Nat)=>xs[((i:Int)+(m:Int)*1).toNat]?)=λm=>xs[i+m]?:=by
  funext m
  have:((i:Int)+(m:Int)*1).toNat=i+m:=by omega
  rw [this]
 rw [e]
 have:=pick_run xs i k
 rw [List.filterMap_map] at this
 have e2:((λx=>xs[x]?) ∘ λx=>i+x)=λm=>xs[i+m]?:=rfl
 rw [e2] at this
 rw [this]
theorem getItem_tuple_cut {t sl:Addr} {items:Array Value} {vl vu:Value} {lo hi:Option Int} {Q:Value->Shared->Prop} (ht:IsTup s.heap t items) (hs:s.heap.IsSliceOf sl vl vu .none) (pl:IsPart vl lo) (pu:IsPart vu hi)
 (hw:¬(sIx items.size 0 lo=0/\sIx items.size items.size hi=items.size))
 (h:Q (.ref s.heap.objs.size) { s with heap:=s.heap.push { cls:=.type "tuple",data:=.seq ((items.toList.drop (sIx items.size 0 lo)).take (sIx items.size items.size hi - sIx items.size 0 lo)).toArray } })
 (hsz:items.size<=sizeLine):wpAny (model prog w) A (getItem (.ref t) (.ref sl)) Q E s:=by
 have htake:sizeOk (.seq ((items.toList.drop (sIx items.size 0 lo)).take (sIx items.size items.size hi - sIx items.size 0 lo)).toArray):=by
  show ((items.toList.drop (sIx items.size 0 lo)).take (sIx items.size items.size hi - sIx items.size 0 lo)).toArray.size<=sizeLine
  rw [List.size_toArray,List.length_take,List.length_drop,Array.length_toList]
  omega
 have hj:sIx items.size items.size hi<=items.size:=aS0 _ _ (Nat.le_refl _) hi
 obtain⟨os,hos,hcs,hds⟩:=id hs
 have hTs:s.TypeIs (.ref sl) "slice":=⟨os,hos,hcs⟩
 unfold getItem
 try with_reducible refine wpAny_holding ?_
 first | refine wpAny_bind (wpAny_pure ?_) | skip
 refine wpAny_bind (wpAny_sequenceKey ht.typeIs (by decide) ?_)
 refine wpAny_bind (wpAny_callSpecial?_slot (name:=Str.ofString "__getitem__") ht.typeIs PyProof.Rows.slot_tuple_getitem
  (wpAny_call_entry PyProof.Rows.slot_tuple_getitem ht.typeIs entry_tuple_getitem ?_ (args_tuple_getitem _ _)))
 show wpAny _ _ (Builtin.Tuple.tupleItemsOf (.ref t)>>=_) _ _ s
 refine wpAny_bind (tupleItemsOf_ ht ?_)
 refine wpAny_bind (wpAny_typeOf hTs ?_)
 rw [if_pos (by decide)]
 refine wpAny_bind (d3 hs pl pu ?_)
 have hno:¬((((sIx items.size 0 lo:Nat):Int) == 0&&(1:Int) == 1&&(sIx items.size items.size hi - sIx items.size 0 lo) == items.size)=true):=by
  intro q
  rw [Bool.and_eq_true,Bool.and_eq_true] at q
  have q1:((sIx items.size 0 lo:Nat):Int)=0:=eq_of_beq q.1.1
  have q2:sIx items.size items.size hi - sIx items.size 0 lo=items.size:=eq_of_beq q.2
  exact hw ⟨by omega,by omega⟩
 show wpAny _ _ (if (((sIx items.size 0 lo:Nat):Int) == 0&&(1:Int) == 1&&(sIx items.size items.size hi - sIx items.size 0 lo) == items.size)=true then _ else _) _ _ s
 rw [if_neg hno,aB2]
 first
  | exact wpAny_bind (m:=Builtin.Tuple.tupleExact _) (wpAny_newObj_type (wpAny_pure ⟨_,rfl,wpAny_pure h⟩) htake)
  | exact wpAny_bind (m:=Builtin.Tuple.tupleExact _) (wpAny_newObj_type (wpAny_bind (wpAny_pure (wpAny_pure ⟨_,rfl,wpAny_pure h⟩))) htake)
  | exact wpAny_bind (wpAny_bind (m:=Builtin.Tuple.tupleExact _) (wpAny_newObj_type (wpAny_pure (wpAny_pure ⟨_,rfl,wpAny_pure h⟩)) htake))
  | exact wpAny_bind (wpAny_bind (m:=Builtin.Tuple.tupleExact _) (wpAny_newObj_type (wpAny_pure ⟨_,rfl,wpAny_pure h⟩) htake))
end
end HT
namespace L2
open PySem PySem.Spec PyProof.Rows
noncomputable abbrev TO:=St->Hp->(Option Int->Hp->Prop)->Prop
noncomputable def PO (X:Cx) (e:Option Expr) (t:TO):Prop:=
 ∀(pins:List (Addr×Obj)) (s:Shared) (σ:St) (H:Hp) (Q:Option Int->Hp->Prop),Inv X pins σ H s->t σ H Q->
  wpAny (model X.prog X.w) X.A (evalPart e X.env) (λu s'=>∃o H',Inv X pins σ H' s'/\IsPart u o/\Q o H') X.xe s
noncomputable def tNoPart:TO:=λ_ H Q=>Q none H
noncomputable def aY5 (t:TE):TO:=λσ H Q=>t σ H λx H1=>∃i,x=.int i/\Q (some i) H1
theorem n5 {ns:List Int}:∀{us:List Value},Vals (ns.map V.int) us->IntsAre us ns:=by
 induction ns with
 | nil=>intro us r;rw [List.map_nil] at r;cases r;exact .nil
 | cons n ns ih=>
   intro us r
   rw [List.map_cons] at r
   cases r with
   | cons r1 r2=>
     obtain⟨t,e⟩:=r1
     subst e
     exact .cons n t (ih r2)
section
variable {X:Cx} {e:Expr} {te:TE} {lo hi:Option Expr} {tl th:TO} {pos p2:Pos}
theorem aJ4:PO X none tNoPart:=by
 intro pins s σ H Q I h
 rw [evalPart_none]
 exact wpAny_pure ⟨none,H,I,.none,h⟩
theorem aJ5 (h:PE X e te):PO X (some e) (aY5 te):=by
 intro pins s σ H Q I hw
 rw [evalPart_some]
 refine thn (h pins s σ H _ I hw) λu s1 ⟨x,H1,I1,r1,q1⟩=>?_
 obtain⟨i,rfl,q⟩:=q1
 obtain⟨t,rfl⟩:=r1
 exact⟨some i,H1,I1,.int i t,q⟩
noncomputable def SlR (X:Cx) (r:V->Option Int->Option Int->Hp->VK->Prop):Prop:=
 ∀(pins:List (Addr×Obj)) (s:Shared) (σ:St) (H:Hp) (x:V) (v vl vu:Value) (lo hi:Option Int) (sl:Addr) (Q:VK),Inv X pins σ H s->RelV x v->s.heap.IsSliceOf sl vl vu .none->IsPart vl lo->IsPart vu hi->r x lo hi H Q->
  ∃T id,typeLookup (.type T) "__getitem__" = pure (some (.builtin id))/\s.TypeIs v T/\wpAny (model X.prog X.w) X.A (getItem v (.ref sl)) (EP X pins σ Q) X.xe s
theorem SlR.or {r r':V->Option Int->Option Int->Hp->VK->Prop} (h:SlR X r) (h':SlR X r'):SlR X (λx lo hi H Q=>r x lo hi H Q\/r' x lo hi H Q):=by
 intro pins s σ H x v vl vu lo hi sl Q I rx hs pl pu q
 rcases q with q | q
 ·exact h pins s σ H x v vl vu lo hi sl Q I rx hs pl pu q
 ·exact h' pins s σ H x v vl vu lo hi sl Q I rx hs pl pu q
noncomputable def tSl (r:V->Option Int->Option Int->Hp->VK->Prop) (te:TE) (tl th:TO):TE:=λσ H Q=>te σ H λx H1=>tl σ H1 λl H2=>th σ H2 λu H3=>r x l u H3 Q
theorem aB3 {r:V->Option Int->Option Int->Hp->VK->Prop} (hr:SlR X r) (he:PE X e te) (hl:PO X lo tl) (hu:PO X hi th):PE X (.Subscript e (.Slice lo hi none p2) pos) (tSl r te tl th):=by
 intro pins s σ H Q I h
 refine Subscript_ (thn (he pins s σ H _ I h) λv s1 ⟨x,H1,I1,r1,q1⟩=>?_)
 refine wpAny_Slice (thn (hl pins s1 σ H1 _ I1 q1) λvl s2 ⟨l,H2,I2,pl,q2⟩=>thn (hu pins s2 σ H2 _ I2 q2) λvu s3 ⟨u,H3,I3,pu,q3⟩=>?_)
 rw [evalPart_none]
 refine wpAny_pure ?_
 have I4:Inv X pins σ H3 { s3 with heap:=s3.heap.push { cls:=.type "slice",data:=.fields #[vl,vu,.none] } }:=I3.kept (t':=s3.toks) λb ob q=>Heap.get?_push_of_some _ q
 obtain⟨T,id,hT,ht,hg⟩:=hr pins { s3 with heap:=s3.heap.push { cls:=.type "slice",data:=.fields #[vl,vu,.none] } } σ H3 x v vl vu l u s3.heap.objs.size Q I4 r1 (Heap.IsSliceOf.new ..) pl pu q3
 show wpAny (model X.prog X.w) X.A (subscriptTail e (.Slice lo hi none p2) v (.ref s3.heap.objs.size)) (EP X pins σ Q) X.xe { s3 with heap:=s3.heap.push { cls:=.type "slice",data:=.fields #[vl,vu,.none] } }
 exact tail_any (ops:=[.ref s3.heap.objs.size,v]) ht hT hg (by with_unfolding_all rfl)
noncomputable def ad5 (xs:List V) (lo hi:Option Int):List V:=(xs.drop (HT.sIx xs.length 0 lo)).take (HT.sIx xs.length xs.length hi - HT.sIx xs.length 0 lo)
theorem i7 (xs:List V) (lo hi:Option Int):(ad5 xs lo hi).length<=xs.length:=by
 unfold ad5
 rw [List.length_take,List.length_drop]
 omega
noncomputable def a43 (K:PySem.W.Frag):V->Option Int->Option Int->Hp->VK->Prop:=λx lo hi H Q=>∃a xs,x=.ref a/\SqT K H a xs/\
 ¬(HT.sIx xs.length 0 lo=0/\HT.sIx xs.length xs.length hi=xs.length)/\∀p,H p=none->Q (.ref p) (upd H p (.tup (ad5 xs lo hi)))
theorem aS1:SlR X (a43 X.K):=by
 intro pins s σ H x v vl vu lo hi sl Q I rx hs pl pu h
 obtain⟨a,xs,rfl,hx,hw,q⟩:=h
 cases rx
 obtain⟨its,r,ht,hz⟩:=I.tuple hx
 have hlen:its.toArray.size=xs.length:=by rw [List.size_toArray];exact r.length.symm
 refine⟨"tuple",_,PyProof.Rows.slot_tuple_getitem.lookup,ht.typeIs,?_⟩
 refine HT.getItem_tuple_cut ht hs pl pu (by rw [hlen];exact hw) ?_ (by rw [hlen];exact hz)
 rw [hlen]
 refine⟨.ref s.heap.objs.size,_,I.laid (t':=s.toks) (o:=.tup (ad5 xs lo hi)) (λb ob q=>Heap.get?_push_of_some _ q) (Nat.le_refl _) ?_,rfl,q _ (I.hok.fresh (Nat.le_refl _))⟩
 exact⟨Nat.le_trans (i7 xs lo hi) hz,_,(r.drop (HT.sIx xs.length 0 lo)).take (HT.sIx xs.length xs.length hi - HT.sIx xs.length 0 lo),IsTup.new _ _⟩
noncomputable def aO2 (K:PySem.W.Frag):R2:=λx y H Q=>∃a b xs ys,x=.ref a/\y=.ref b/\SqT K H a xs/\SqT K H b ys/\xs≠[]/\xs.length+ys.length<=sizeLine/\
 (ys=[]->Q (.ref a) H)/\(ys≠[]->∀p,H p=none->Q (.ref p) (upd H p (.tup (xs++ys))))
theorem Vals.nil_iff {xs:List V} {us:List Value} (r:Vals xs us):us=[]↔xs=[]:=by
 cases r with
 | nil=>simp
 | cons _ _=>simp
theorem op_catT:OpR X (binaryOp .Add) (aO2 X.K):=by
 intro pins s σ H x y v u Q I rx ry h
 obtain⟨a,b,xs,ys,rfl,rfl,ha,hb,hx,hz,q1,q2⟩:=h
 cases rx
 cases ry
 obtain⟨its,r1,p1,_⟩:=I.tuple ha
 obtain⟨its2,r2,p2,_⟩:=I.tuple hb
 refine HT.cat_tup p1 p2 (λz=>hx (r1.nil_iff.mp z)) (λz=>⟨.ref a,H,I,rfl,q1 (r2.nil_iff.mp z)⟩) (λz=>?_) (by rw [←r1.length,←r2.length];exact hz)
 refine⟨.ref s.heap.objs.size,_,I.laid (t':=s.toks) (o:=.tup (xs++ys)) (λb ob q=>Heap.get?_push_of_some _ q) (Nat.le_refl _) ?_,rfl,q2 (λw=>z (r2.nil_iff.mpr w)) _ (I.hok.fresh (Nat.le_refl _))⟩
 exact⟨by rw [List.length_append];exact hz,_,r1.append r2,IsTup.new _ _⟩
end
end L2
namespace L2
open PySem PySem.Spec PyProof.Rows
noncomputable def ixN (n:Nat) (i:Int):Option Nat:=if 0<=i then (if i<n then some i.toNat else none) else if -(n:Int)<=i then some (i+n).toNat else none
noncomputable def atI {α:Type} (xs:List α) (i:Int):Option α:=(ixN xs.length i).bind λj=>xs[j]?
theorem aJ6 {n:Nat} {i:Int} {j:Nat} (h:ixN n i=some j):seqIndex? i n=some j/\j<n/\-(n:Int)<=i/\i<n:=by
 unfold ixN at h
 by_cases h0:0<=i
 ·rw [if_pos h0] at h
  by_cases h1:i<n
  ·rw [if_pos h1] at h
   have e:i.toNat=j:=Option.some.inj h
   exact⟨by rw [seqIndex_of h0 h1,e],by omega,by omega,h1⟩
  ·rw [if_neg h1] at h;cases h
 ·rw [if_neg h0] at h
  by_cases h1 : -(n:Int)<=i
  ·rw [if_pos h1] at h
   have e:(i+n).toNat=j:=Option.some.inj h
   exact⟨by rw [seqIndex_neg (by omega) h1,e],by omega,h1,by omega⟩
  ·rw [if_neg h1] at h;cases h
theorem aq3 {α:Type} {xs:List α} {i:Int} {v:α} (h:atI xs i=some v):∃j,seqIndex? i xs.length=some j/\xs[j]?=some v/\j<xs.length/\-(xs.length:Int)<=i/\i<xs.length:=by
 unfold atI at h
 cases e:ixN xs.length i with
 | none=>rw [e] at h;cases h
 | some j=>
   rw [e] at h
   obtain⟨h1,h2,h3,h4⟩:=aJ6 e
   exact⟨j,h1,h,h2,h3,h4⟩
noncomputable def aq4 (b:Expr):Prop:=∀o i,subscripted b false o i=operate [o,i] (getItem o i)
noncomputable def IxR (X:Cx) (r:R2):Prop:=
 ∀(value slice:Expr) (pins:List (Addr×Obj)) (s:Shared) (σ:St) (H:Hp) (x y:V) (v u:Value) (Q:VK),Inv X pins σ H s->RelV x v->RelV y u->r x y H Q->
  subscripted slice false v u=operate [v,u] (getItem v u)->wpAny (model X.prog X.w) X.A (subscriptTail value slice v u) (EP X pins σ Q) X.xe s
noncomputable def MtR (X:Cx) (id:String) (r:V->List V->Hp->VK->Prop):Prop:=
 ∀(pins:List (Addr×Obj)) (s:Shared) (σ:St) (H:Hp) (x:V) (xs:List V) (v:Value) (us:List Value) (Q:VK),Inv X pins σ H s->RelV x v->Vals xs us->r x xs H Q->
  wpAny (model X.prog X.w) X.A (call (.builtin id) (v::us)) (EP X pins σ Q) X.xe s
section
variable {X:Cx} {a b:Expr} {ta tb:TE} {pos:Pos}
theorem IxR.or {r r':R2} (h:IxR X r) (h':IxR X r'):IxR X (λx y H Q=>r x y H Q\/r' x y H Q):=by
 intro value slice pins s σ H x y v u Q I rx ry q hs
 rcases q with q | q
 ·exact h value slice pins s σ H x y v u Q I rx ry q hs
 ·exact h' value slice pins s σ H x y v u Q I rx ry q hs
theorem aY6 {r:R2} (hr:IxR X r) (ha:PE X a ta) (hb:PE X b tb) (hs:aq4 b):PE X (.Subscript a b pos) (tOp r ta tb):=by
 intro pins s σ H Q I h
 exact Subscript_ (aR3 ha hb I h λv u s2 x y H2 I2 rx ry q=>hr a b pins s2 σ H2 x y v u Q I2 rx ry q (hs _ _))
noncomputable def aY7 (K:PySem.W.Frag):R2:=λx y H Q=>∃p xs i v,x=.ref p/\y=.int i/\SqL K H p xs/\atI xs i=some v/\Q v H
noncomputable def aY8 (K:PySem.W.Frag):R2:=λx y H Q=>∃p xs i v,x=.ref p/\y=.int i/\SqT K H p xs/\atI xs i=some v/\Q v H
theorem ix_list:IxR X (aY7 X.K):=by
 intro value slice pins s σ H x y v u Q I rx ry h hs
 obtain⟨p,xs,i,z,rfl,rfl,hq,he,q⟩:=h
 cases rx
 obtain⟨t,rfl⟩:=ry
 obtain⟨its,r,pl,hz⟩:=I.list hq
 obtain⟨j,h1,h2,h3,h4,h5⟩:=aq3 he
 obtain⟨w,ew,rw'⟩:=r.get h2
 have hl:=r.length
 have hn:=am1
 have fin:EP X pins σ Q w s:=⟨z,H,I,rw',q⟩
 by_cases h0:0<=i
 ·have hj:i.toNat=j:=by
   rw [seqIndex_of h0 h5] at h1
   exact Option.some.inj h1
  exact item_listR pl.isList h0 (by omega) (by rw [hj];simpa using ew) fin hs
 ·have hj:(i+(its.toArray.size:Int)).toNat=j:=by
   rw [seqIndex_neg (by omega) h4] at h1
   rw [List.size_toArray,←hl]
   exact Option.some.inj h1
  exact subscriptTail_builtinR (x:=w) pl.isList.typeIs slot_list_getitem.lookup
   (wpAny_getItem_list_neg (Q:=λr s'=>r=w/\EP X pins σ Q r s') pl.isList (by omega) (by rw [List.size_toArray] <;> omega) (by omega) (by rw [hj];simpa using ew) ⟨rfl,fin⟩) hs
theorem aS2:IxR X (aY8 X.K):=by
 intro value slice pins s σ H x y v u Q I rx ry h hs
 obtain⟨p,xs,i,z,rfl,rfl,hq,he,q⟩:=h
 cases rx
 obtain⟨t,rfl⟩:=ry
 obtain⟨its,r,pl,hz⟩:=I.tuple hq
 obtain⟨j,h1,h2,h3,h4,h5⟩:=aq3 he
 obtain⟨w,ew,rw'⟩:=r.get h2
 have hl:=r.length
 have hn:=am1
 have fin:EP X pins σ Q w s:=⟨z,H,I,rw',q⟩
 exact subscriptTail_builtinR (x:=w) pl.typeIs slot_tuple_getitem.lookup
  (getItem_tuple (j:=j) (Q:=λr s'=>r=w/\EP X pins σ Q r s') pl (by omega) (by omega) (by rw [List.size_toArray,←hl];exact h1) (by simpa using ew) ⟨rfl,fin⟩) hs
theorem ad6 (lo hi:Option Int) (n:Nat):(sliceBounds lo hi none n).1=((HT.sIx n 0 lo:Nat):Int)/\(sliceBounds lo hi none n).2.1=((HT.sIx n n hi:Nat):Int)/\(sliceBounds lo hi none n).2.2=1:=by
 refine⟨?_,?_,rfl⟩
 ·cases lo with
  | none=>simp [sliceBounds,HT.sIx]
  | some i=>
    simp only [sliceBounds,HT.sIx,Option.getD_none,show (1:Int) > 0 by decide,if_true]
    by_cases h:i<0
    ·simp only [h,if_true] <;> omega
    ·simp only [h,if_false] <;> omega
 ·cases hi with
  | none=>simp [sliceBounds,HT.sIx]
  | some i=>
    simp only [sliceBounds,HT.sIx,Option.getD_none,show (1:Int) > 0 by decide,if_true]
    by_cases h:i<0
    ·simp only [h,if_true] <;> omega
    ·simp only [h,if_false] <;> omega
theorem aa1 (its:List Value) (lo hi:Option Int):slicePick its.toArray lo hi none=((its.drop (HT.sIx its.length 0 lo)).take (HT.sIx its.length its.length hi - HT.sIx its.length 0 lo)).toArray:=by
 obtain⟨h1,h2,h3⟩:=ad6 lo hi its.toArray.size
 unfold slicePick
 rw [h1,h2,h3]
 simp only [sliceRange_one,pick_run,List.size_toArray] <;> rfl
noncomputable def a44 (K:PySem.W.Frag):V->Option Int->Option Int->Hp->VK->Prop:=λx lo hi H Q=>∃a xs,x=.ref a/\SqL K H a xs/\∀p,H p=none->Q (.ref p) (upd H p (.lst (ad5 xs lo hi)))
theorem sl_list:SlR X (a44 X.K):=by
 intro pins s σ H x v vl vu lo hi sl Q I rx hs pl pu h
 obtain⟨a,xs,rfl,hx,q⟩:=h
 cases rx
 obtain⟨its,r,ht,hz⟩:=I.list hx
 have hlen:=r.length
 refine⟨"list",_,slot_list_getitem.lookup,ht.isList.typeIs,?_⟩
 refine wpAny_getItem_list_slice ht.isList hs pl pu .none (by simp) ?_ (by rw [List.size_toArray] <;> omega)
 rw [aa1,←hlen]
 refine⟨.ref s.heap.objs.size,_,I.laid (t':=s.toks) (o:=.lst (ad5 xs lo hi)) (λb ob q=>Heap.get?_push_of_some _ q) (Nat.le_refl _) ?_,rfl,q _ (I.hok.fresh (Nat.le_refl _))⟩
 exact⟨Nat.le_trans (i7 xs lo hi) hz,_,0,(r.drop (HT.sIx xs.length 0 lo)).take (HT.sIx xs.length xs.length hi - HT.sIx xs.length 0 lo),Heap.get?_push_size _ rfl⟩
noncomputable def aq5:V->Bool
 | .non=>true
 | .bl _=>true
 | .int _=>true
 | .str _=>true
 | _=>false
noncomputable def eqV:V->V->Bool
 | .non,.non=>true
 | .bl a,.bl b=>a == b
 | .bl a,.int b=>(if a then 1 else 0) == b
 | .int a,.bl b=>a == (if b then 1 else 0)
 | .int a,.int b=>a == b
 | .str a,.str b=>a == b
 | _,_=>false
theorem aS3 {A:Around} {s:Shared} {y x:V} {u v:Value} (ry:RelV y u) (rx:RelV x v) (fy:aq5 y=true) (fx:aq5 x=true):SeqAt.EqAt A s u v (eqV y x):=by
 cases y with
 | non=>
   cases ry
   cases x with
   | non=>cases rx;exact SeqAt.EqAt.same _
   | bl b=>cases rx;exact SeqAt.EqAt.none_bool b
   | int b=>obtain⟨t,rfl⟩:=rx;exact SeqAt.EqAt.none_int b t
   | str b=>obtain⟨t,rfl⟩:=rx;exact SeqAt.EqAt.none_str b t
   | _=>exact absurd (show false=true from fx) Bool.false_ne_true
 | bl a=>
   cases ry
   cases x with
   | non=>cases rx;exact SeqAt.EqAt.bool_none a
   | bl b=>cases rx;exact SeqAt.EqAt.bool_bool a b
   | int b=>obtain⟨t,rfl⟩:=rx;exact SeqAt.EqAt.bool_int a b t
   | str b=>obtain⟨t,rfl⟩:=rx;exact SeqAt.EqAt.bool_str a b t
   | _=>exact absurd (show false=true from fx) Bool.false_ne_true
 | int a=>
   obtain⟨t',rfl⟩:=ry
   cases x with
   | non=>cases rx;exact SeqAt.EqAt.int_none a t'
   | bl b=>cases rx;exact SeqAt.EqAt.int_bool a t' b
   | int b=>obtain⟨t,rfl⟩:=rx;exact SeqAt.EqAt.int_int a t' b t
   | str b=>obtain⟨t,rfl⟩:=rx;exact SeqAt.EqAt.int_str a t' b t
   | _=>exact absurd (show false=true from fx) Bool.false_ne_true
 | str a=>
   obtain⟨t',rfl⟩:=ry
   cases x with
   | non=>cases rx;exact SeqAt.EqAt.str_none a t'
   | bl b=>cases rx;exact SeqAt.EqAt.str_bool a t' b
   | int b=>obtain⟨t,rfl⟩:=rx;exact SeqAt.EqAt.str_int a t' b t
   | str b=>obtain⟨t,rfl⟩:=rx;exact SeqAt.EqAt.str_str a t' b t
   | _=>exact absurd (show false=true from fx) Bool.false_ne_true
 | _=>exact absurd (show false=true from fy) Bool.false_ne_true
theorem ad7:CallR X (.builtin "len") (λxs H Q=>∃p ys,xs=[.ref p]/\(SqL X.K H p ys\/SqT X.K H p ys)/\Q (.int ys.length) H):=by
 intro pins s σ H xs us Q I r h
 obtain⟨p,ys,rfl,hq,q⟩:=h
 obtain⟨u,rfl,rx⟩:=X1 r
 cases rx
 have hn:=am1
 rcases hq with hq | hq
 ·obtain⟨its,r',pl,hz⟩:=I.list hq
  have hlen:=r'.length
  exact Calls.call_len_list pl.isList (by simp only [List.size_toArray] <;> omega) ⟨.int ys.length,H,I.tok _,⟨s.toks+1,by rw [List.size_toArray,hlen]⟩,q⟩
 ·obtain⟨its,r',pl,hz⟩:=I.tuple hq
  have hlen:=r'.length
  exact len_tuple pl (by simp only [List.size_toArray] <;> omega) ⟨.int ys.length,H,I.tok _,⟨s.toks+1,by rw [List.size_toArray,hlen]⟩,q⟩
theorem CallR.or {f:Value} {r r':List V->Hp->VK->Prop} (h:CallR X f r) (h':CallR X f r'):CallR X f (λxs H Q=>r xs H Q\/r' xs H Q):=by
 intro pins s σ H xs us Q I rs q
 rcases q with q | q
 ·exact h pins s σ H xs us Q I rs q
 ·exact h' pins s σ H xs us Q I rs q
theorem ad8:CallR X (.type "list") (λxs H Q=>∃p ys,xs=[.ref p]/\(SqL X.K H p ys\/SqT X.K H p ys)/\∀l,H l=none->Q (.ref l) (upd H l (.lst ys))):=by
 intro pins s σ H xs us Q I r h
 obtain⟨p,ys,rfl,hq,q⟩:=h
 obtain⟨u,rfl,rx⟩:=X1 r
 cases rx
 have fin:∀(its:List Value),Vals ys its->ys.length<=sizeLine->∀(h':Heap) (c':Nat),(∀b o',s.heap.get? b=some o'->h'.get? b=some o')->
  h'.get? s.heap.objs.size=some { cls:=.type "list",dict:=none,data:=.seq its.toArray c',slots:=#[] }->EP X pins σ Q (.ref s.heap.objs.size) { s with heap:=h' }:=λits r' hz h' c' kp e=>
  ⟨.ref s.heap.objs.size,_,I.laid (t':=s.toks) kp (Nat.le_refl _) (show ObjOk X.prog X.w _ h' _ (.lst ys) from ⟨hz,its,c',r',e⟩),rfl,q _ (I.hok.fresh (Nat.le_refl _))⟩
 rcases hq with hq | hq
 ·obtain⟨its,r',pl,hz⟩:=I.list hq
  have hlen:=r'.length
  obtain⟨o,ho,hc,n,hd⟩:=pl.isList
  exact call_list_seq p (.inl rfl) ho hc hd (λh' c' kp e=>fin its r' hz h' c' kp e) (by simp only [List.size_toArray] <;> omega)
 ·obtain⟨its,r',pl,hz⟩:=I.tuple hq
  have hlen:=r'.length
  obtain⟨o,ho,hc,n,hd⟩:=pl
  exact call_list_seq p (.inr rfl) ho hc hd (λh' c' kp e=>fin its r' hz h' c' kp e) (by simp only [List.size_toArray] <;> omega)
noncomputable def tyV (K:PySem.W.Frag) (T:String) (x:V) (H:Hp):Prop:=match x with
 | .str _=>T="str"
 | .int _=>T="int"
 | .ref p=>(T="list"/\∃xs,SqL K H p xs)\/(T="tuple"/\∃o,K.lookup p=some o/\o.cls=.type "tuple"/\o.dict=none)\/
  (T="dict"/\((∃kvs,H p=some (.dK kvs))\/∃kvs,H p=some (.dT kvs)))\/(T="set"/\∃S n,H p=some (.set S n))
 | _=>False
theorem aS4 {pins:List (Addr×Obj)} {σ:St} {H:Hp} {s:Shared} {T:String} {x:V} {v:Value} (I:Inv X pins σ H s) (r:RelV x v) (ty:tyV X.K T x H) :
 s.TypeIs v T/\∀a,v=.ref a->∃ob,s.heap.get? a=some ob/\ob.dict=none:=by
 cases x with
 | str z=>
   obtain⟨t,rfl⟩:=r
   cases (show T="str" from ty)
   exact⟨typeIs_str s z t,λ_ e=>nomatch e⟩
 | int i=>
   obtain⟨t,rfl⟩:=r
   cases (show T="int" from ty)
   exact⟨typeIs_int s i t,λ_ e=>nomatch e⟩
 | ref p=>
   cases r
   rcases ty with ⟨rfl,xs,hq⟩ | ⟨rfl,o,hk,hc,hd⟩ | ⟨rfl,hk⟩ | ⟨rfl,S,n,hk⟩
   ·obtain⟨its,_,pl,_⟩:=I.list hq
    refine⟨pl.isList.typeIs,λa e=>?_⟩
    cases e
    obtain⟨o,n,e,c,hd,_⟩:=pl
    exact⟨o,e,hd⟩
   ·refine⟨⟨o,I.kIn p o hk,hc⟩,λa e=>?_⟩
    cases e
    exact⟨o,I.kIn _ o hk,hd⟩
   ·have z:∃o,s.heap.get? p=some o/\o.ExactDict:=by
     rcases hk with ⟨kvs,hk⟩ | ⟨kvs,hk⟩
     ·obtain⟨_,_,_,_,o,_,_,e,ex,_⟩:=I.hok p _ hk
      exact⟨o,e,ex⟩
     ·obtain⟨_,_,_,_,o,_,_,e,ex,_⟩:=I.hok p _ hk
      exact⟨o,e,ex⟩
    obtain⟨o,e,ex⟩:=z
    refine⟨⟨o,e,ex.1⟩,λa e2=>?_⟩
    cases e2
    exact⟨o,e,ex.2.1⟩
   ·obtain⟨o,_,_,_,e,ex,_⟩:=I.hok p _ hk
    refine⟨⟨o,e,ex.1⟩,λa e2=>?_⟩
    cases e2
    exact⟨o,e,ex.2.1⟩
 | _=>exact False.elim ty
noncomputable def tBM (K:PySem.W.Frag) (T:String) (r:V->List V->Hp->VK->Prop) (to:TE) (t:TA):TE:=λσ H Q=>to σ H λx H1=>tyV K T x H1/\t σ H1 λxs H2=>r x xs H2 Q
variable {o e:Expr} {es:List Expr} {to:TE} {t:TA} {name:Str} {apos cpos:Pos} {T id:String} {r:V->List V->Hp->VK->Prop}
theorem aY9 (pa:PlainAttrs T) (slot:Slot T name id) (hty:typeOf (.builtin id)=pure (.type "method_descriptor")) (hm:MtR X id r) (ho:PE X o to) (ha:PA X (e::es) t)
 (hbase:attributeBase o name X.env (eval o X.env)=eval o X.env:=by rfl)
 (hfew:((backTo cpos (starEach (e::es) X.env)).all (λx=>!x.1)&&(backToKw cpos (keywordEach [] X.env)).all (λx=>x.1.isSome)
  &&decide ((e::es).length+([]:List Keyword).length+(if ([]:List Keyword).isEmpty then 0 else 1)<30))=true:=by rfl)
 (hline:(apos.endLine == cpos.line)=true:=by rfl) (hs:starEach (e::es) X.env=(false,eval e X.env)::starEach es X.env:=by rfl) (hplain:(backTo cpos (starEach es X.env)).any (·.1)=false:=by rfl) :
 PE X (.Call (.Attribute o name apos) (e::es) [] cpos) (tBM X.K T r to t):=by
 intro pins s σ H Q I h
 refine wpAny_Call_method_late hbase hfew hline rfl (thn (ho pins s σ H _ I h) λv s1 ⟨x,H1,I1,r1,ty,q1⟩=>?_)
 obtain⟨h1,h2⟩:=aS4 I1 r1 ty
 refine⟨T,id,pa,slot,hty,h1,h2,?_⟩
 have hA:=ha cpos pins s1 σ H1 _ I1 q1
 rw [hs] at hA ⊢
 refine Calls.callWith_builtin (by show (false||(backTo cpos (starEach es X.env)).any (·.1))=false;rw [hplain] <;> rfl) (Calls.evalArgs_plain ?_)
 exact thn hA λus s2 ⟨vs,H2,I2,r2,q2⟩=>hm pins s2 σ H2 x vs v us Q I2 r1 r2 q2
/- xs.append(e),list.index on a module's tuple .. are MtR facts of 06m -/
end
end L2
namespace L2
open PySem PySem.Spec PyProof.Rows
noncomputable def MtM (X:Cx) (id:String) (r:V->List V->Hp->VK->Prop):Prop:=
 ∀(pins:List (Addr×Obj)) (s:Shared) (σ:St) (H:Hp) (x:V) (xs:List V) (v:Value) (us:List Value) (Q:VK),Inv X pins σ H s->RelV x v->Vals xs us->r x xs H Q->
  wpAny (model X.prog X.w) X.A (call (.builtin id) (v::us)) (EP X pins σ Q) X.xe s
theorem Vals.one:∀{x:V} {us:List Value},Vals [x] us->∃u,us=[u]/\RelV x u
 | _,_,.cons r .nil=>⟨_,rfl,r⟩
section
variable {X:Cx} {pins:List (Addr×Obj)} {σ:St} {H:Hp} {s:Shared} {l b:Addr} {xs ys zs:List V}
theorem Inv.lset {its its':List Value} {n:Nat} {f:Array Value->Array Value} {t':Nat} (I:Inv X pins σ H s) (hH:H l=some (.lst xs))
 (e:s.heap.get? l=some { cls:=.type "list",data:=.seq its.toArray n }) (hf:f its.toArray=its'.toArray) (hv:Vals ys its') (hz:ys.length<=sizeLine) :
 Inv X pins σ (upd H l (.lst ys)) { s with heap:=s.heap.update l (Obj.mapSeq f),toks:=t' }:=by
 have q:=PySem.IsL.update e f
 rw [hf] at q
 refine I.write (x:=l) (e:=l) (by rw [hH];exact trivial) (.inl rfl) (λb' u hb hu=>(Heap.get?_update_other s.heap (Obj.mapSeq f) (Ne.symm hb)).trans hu) ⟨_,q⟩ ?_
 exact⟨hz,its',_,hv,q⟩
theorem Inv.lnew {its:List Value} {t':Nat} (I:Inv X pins σ H s) (hv:Vals ys its) (hz:ys.length<=sizeLine) :
 Inv X pins σ (upd H s.heap.objs.size (.lst ys)) { s with heap:=s.heap.push { cls:=.type "list",data:=.seq its.toArray },toks:=t' }:=
 I.laid (λ_ _ q=>Heap.get?_push_of_some _ q) (Nat.le_refl _) ⟨hz,its,0,hv,Heap.get?_push_size _ rfl⟩
theorem Inv.fresh (I:Inv X pins σ H s):H s.heap.objs.size=none:=I.hok.fresh (Nat.le_refl _)
theorem Inv.lstM (I:Inv X pins σ H s) (hH:H l=some (.lst xs)):xs.length<=sizeLine/\∃(its:List Value) (n:Nat),Vals xs its/\xs.length=its.length/\s.heap.get? l=some { cls:=.type "list",data:=.seq its.toArray n }:=by
 obtain⟨z,its,n,r,e⟩:=I.hok l _ hH
 exact⟨z,its,n,r,r.length,e⟩
end
section
variable {X:Cx}
noncomputable def rAppend:V->List V->Hp->VK->Prop:=λx vs H Q=>∃l xs y,x=.ref l/\vs=[y]/\H l=some (.lst xs)/\xs.length<sizeLine/\Q .non (upd H l (.lst (xs++[y])))
theorem av8:MtM X "list.append" rAppend:=by
 intro pins s σ H x vs v us Q I rx rv h
 obtain⟨l,xs,y,rfl,rfl,hH,hz,q⟩:=h
 cases rx
 obtain⟨u,rfl,ru⟩:=rv.one
 obtain⟨z,its,n,r,hl,e⟩:=I.lstM hH
 refine call_meets F.slot_list_append ⟨_,e,rfl⟩ F.entry_list_append (F.args_list_append_2 _ _) (PySem.list_append l its.toArray n u (by rw [List.size_toArray];omega)) ⟨e,?_⟩
 refine⟨.non,_,I.lset (its':=its++[u]) hH e (by simp) (r.append (.cons ru .nil)) ?_,rfl,q⟩
 rw [List.length_append,List.length_singleton]
 omega
noncomputable def rCat:R2:=λx y H Q=>∃l b xs zs,x=.ref l/\y=.ref b/\H l=some (.lst xs)/\H b=some (.lst zs)/\xs.length+zs.length<=sizeLine/\∀p,H p=none->Q (.ref p) (upd H p (.lst (xs++zs)))
theorem aS5:OpR X (binaryOp .Add) rCat:=by
 intro pins s σ H x y v u Q I rx ry h
 obtain⟨l,b,xs,zs,rfl,rfl,hH,hB,hz,q⟩:=h
 cases rx
 cases ry
 obtain⟨z,its,n,r,hl,e⟩:=I.lstM hH
 obtain⟨z2,its2,n2,r2,hl2,e2⟩:=I.lstM hB
 refine PySem.P.add_list e e2 ?_ (by rw [List.size_toArray,List.size_toArray];omega)
 have ea:its.toArray++its2.toArray=(its++its2).toArray:=by simp
 rw [ea]
 exact⟨.ref _,_,I.lnew (t':=s.toks) (r.append r2) (by rw [List.length_append];omega),rfl,q _ I.fresh⟩
end
end L2
namespace Att
open PySem PySem.W PySem.Calls PyProof.Rows
theorem j5 {P:Params} {h:Heap}:∀(ns:List Int) (vs:List Value),WellAll P h vs (ns.map WData.int)->IntsAre vs ns:=by
 intro ns
 induction ns with
 | nil=>
   intro vs w
   rw [List.map_nil] at w
   cases w
   exact .nil
 | cons n ns ih=>
   intro vs w
   rw [List.map_cons] at w
   cases w with
   | cons a b=>
     cases a
     exact .cons _ _ (ih _ b)
theorem av9 {l:OpenLaw} {n:Nat} (hn:l.most=some n) {P:Params} {h:Heap} {args:List WData} {vals:List Value}
 (hpre:l.row.toRowW.claim.pre args=true) (hwl:WellAll P h vals args) :
 ∃a vs ns,vals=[Value.ref a]/\args=[WData.list (ns.map WData.int)]/\h.get? a=some { cls:=.type "list",data:=.seq vs.toArray }/\IntsAre vs ns/\ns.length<=n:=by
 have hsh:WShape.hasAll [] args [.list .int]=true:=(pre_splitW hpre).1
 have hc:l.pre.holds [] { args:=args }=true:=(pre_splitW hpre).2
 obtain⟨d,r,rfl,h1,h2⟩:=hasAllW_cons hsh
 obtain rfl:=hasAllW_nil h2
 obtain⟨xs,rfl,h3⟩:=hasW_list h1
 obtain⟨ns,rfl⟩:=items_int h3
 have hlen:ns.length<=n:=by
  unfold OpenLaw.pre at hc
  have h4:(WTm.not (.lt (.lit (.int (n:Int))) (.len (.arg 0)))).holds [] { args:=[.list (ns.map .int)] }=true:=by
   have h4:=(holds_andW hc).1
   rw [hn] at h4
   exact h4
  have h5:=condW_of h4 (w_not (w_lt w_lit (w_len_list (w_arg rfl))))
  rw [List.length_map] at h5
  refine Nat.le_of_not_lt λq=>?_
  have q':(n:Int)<((ns.length:Nat):Int):=by omega
  first
   | (rw [decide_eq_true q'] at h5;exact absurd h5 (by decide))
   | (simp at h5;omega)
 cases hwl with
 | cons w1 w2=>
   cases w2
   cases w1 with
   | list ho hall=>exact⟨_,_,ns,rfl,rfl,ho,j5 ns _ hall,hlen⟩
theorem aw0 (l:OpenLaw) (args:List WData):l.row.toRowW.claim.post args (.bool true) args=true:=
 postW_of (r:=l.row.toRowW) (X:=(true == true))
  (show WShape.has [] (.bool true) .bool=true by first | rfl | decide | simp [WShape.has,WShape.arms,WShape.armsAll])
  (show (WTm.eq .res (.lit (.bool true))).value [] { args:=args,res:=some (.bool true),after:=args }=some (.bool (true == true)) from w_eq_bool (w_res rfl) w_lit) rfl
theorem ah4 {l:OpenLaw} {n:Nat} {q:Program} {loose:List Str} {XP:(Str->Option Value)->Heap->Prop} {YP:World->Heap->Prop} {d:DefRec}
 (hn:l.most=some n) (hdf:d.params.defaults=[])
 (call:∀(w:World) (s₀ s₁:Shared) (mg mb:Str->Option Value) (fa:Addr) (o:Obj) (pm cd doc:Value) (a:Addr) (vs:List Value) (ns:List Int),
  Ground q loose [] XP w s₀ mg mb s₁.heap->YP w s₁.heap->
  s₁.heap.get? fa=some o->o.data=.func (docDef d.name d.params d.body d.scope pm cd doc)->s₁.heap.CodeRec cd d.name->mg d.name=some (.ref fa)->
  s₁.heap.get? a=some { cls:=.type "list",data:=.seq vs.toArray }->IntsAre vs ns->ns.length<=n->s₁.gens=#[]->
  codeAny (model l.prog w) callerA (.call (.ref fa) ⟨[.ref a],[]⟩) (λr s'=>r=.ok (.ret (.bool true))/\OldK s₁.heap s'.heap/\s'.os=s₁.os/\AllBare s'.gens) s₁) :
 WalkO q loose XP YP l.row.toRowW d [] (λf vs=>PySem.call f vs):=by
 intro w s₀ s₁ mg mb G Y fa o pm cd doc dV kV ho hd hcd hD hmg hg args vals as hpre hlay hrd hwl hlo
 obtain rfl:dV=.none:=Dflts.none hD hdf
 obtain rfl:kV=.none:=Dflts.noKw hD
 obtain⟨a,vs,ns,rfl,rfl,hobj,hints,hlen⟩:=av9 hn hpre hwl
 refine enter_call (codeAny_mono (call w s₀ s₁ mg mb fa o pm cd doc a vs ns G Y ho (fd_plain hd) hcd hmg hobj hints hlen hg) λr s' hq=>?_)
 obtain⟨rfl,h2,h3,h4⟩:=hq
 exact⟨.inl ⟨.bool true,.bool true,[],rfl,λ_=>rfl,.bool true,aw0 l _,λ_=>⟨List.Pairwise.nil,λ_ hm=>(nomatch hm)⟩⟩,h2,h3,h4⟩
end Att
namespace L2
open PySem PySem.Spec PyProof.Rows
theorem d4:∀{vs:List Value} {ns:List Int},IntsAre vs ns->Vals (ns.map V.int) vs
 | _,_,.nil=>.nil
 | _,_,.cons n t h=>.cons ⟨t,rfl⟩ (d4 h)
noncomputable def aS6 (H:Hp):Prop:=∀b,H b=none\/∃o xs,H b=some (.frz o (.lst xs))
theorem aB4 {P:Program} {w:World} {K:PySem.W.Frag} {mg mb:Str->Option Value} {CX:CXT} {k:Nat} {fa a:Addr} {fd:FuncData} {x:Str} {sp:Sp} {s₁:Shared} {vs:List Value} {ns:List Int}
 (KX:K.In s₁.heap) (hns:s₁.heap.Ns mainGlobals mg) (hb:s₁.heap.Ns builtinsNs mb) (hbb:∀x:Str,x≠"__name__"->mb x=bootBuiltins x) (hlim:s₁.heap.NoLimit) (hg:s₁.gens=#[])
 (ha:s₁.heap.get? a=some { cls:=.type "list",data:=.seq vs.toArray }) (hi:IntsAre vs ns) (hl:ns.length<=sizeLine) (hr:Room k callerA)
 (F:∀base:Heap,K.In base->base.Ns mainGlobals mg->FnOk P w K mg base CX k fa fd [x] sp) (hbind:∀(s:Shared) (u:Value),BindsTo s fd ⟨[u],[]⟩ [(x,u)])
 (hsp:∀H:Hp,aS6 H->SqL K H a (ns.map V.int)->sp [.ref a] H (λv _=>v=.bl true) λ_ _ _=>False)
 (hCX:∀H e s',CX [] H s₁ (λ_ _ _=>False) e s'->False) :
 codeAny (model P w) callerA (.call (.ref fa) ⟨[.ref a],[]⟩) (λr s'=>r=.ok (.ret (.bool true))/\OldK s₁.heap s'.heap/\s'.os=s₁.os/\AllBare s'.gens) s₁:=by
 have rv:=d4 hi
 have lenV:=hi.length
 have core:∀H:Hp,aS6 H->SqL K H a (ns.map V.int)->HOk P w H s₁.heap->(∀b,H b≠none->b=a)->(H a≠none->K.lookup a=none)->
  codeAny (model P w) callerA (.call (.ref fa) ⟨[.ref a],[]⟩) (λr s'=>r=.ok (.ret (.bool true))/\OldK s₁.heap s'.heap/\s'.os=s₁.os/\AllBare s'.gens) s₁:=by
  intro H hO hS hok hA hK
  have base_of:∀{b:Addr} {o:Obj},s₁.heap.get? b=some o->H b=none->(ad3 s₁.heap H).get? b=some o:=λe n=>az2 e n
  have noA:∀{b:Addr} {o:Obj} {es:Array DictEntry} {ep:Nat},s₁.heap.get? b=some o->o.data=.dict es ep->H b=none:=λ{b o es ep} e d=>by
   cases q:H b with
   | none=>rfl
   | some u=>
     have e':b=a:=hA b (by rw [q];simp)
     subst e'
     rw [ha] at e;cases e
     have d':Data.seq vs.toArray _=Data.dict es ep:=d
     cases d'
  have nsK:∀{b:Addr} {m:Str->Option Value},s₁.heap.Ns b m->(ad3 s₁.heap H).Ns b m:=λ{b m} ⟨o,es,ep,e,d,r⟩=>⟨o,es,ep,base_of e (noA e d),d,r⟩
  have hKb:K.In (ad3 s₁.heap H):=λb o e=>base_of (KX b o e) (by
   cases q:H b with
   | none=>rfl
   | some u=>
     have e':b=a:=hA b (by rw [q];simp)
     subst e'
     rw [hK (by rw [q];simp)] at e;cases e)
  have hM:Mod K mg (ad3 s₁.heap H):=⟨hKb,nsK hns,⟨mb,nsK hb,hbb⟩,let ⟨mc,h1,h2⟩:=hlim;⟨mc,nsK h1,h2⟩⟩
  have e0:Env0 P w K mg (ad3 s₁.heap H) callerA [] s₁ H:=⟨rfl,hM,λb o e=>aH8 e,Nat.le_of_eq (au9 _ _),trivial,λb hb=>absurd (show b∈([]:List Addr) from hb) (by simp),hok,.of_eq hg⟩
  refine codeAny_mono ((F _ hKb (nsK hns)).run callerA [] s₁ H ⟨[.ref a],[]⟩ [.ref a] [.ref a] _ _ hr e0 (hbind s₁ (.ref a)) (.cons rfl .nil) (hsp H hO hS)) λr s' h=>?_
  cases r with
  | error e=>exact (hCX H e s' h).elim
  | ok fl=>
    cases fl with
    | next=>exact False.elim h
    | brk=>exact False.elim h
    | cont=>exact False.elim h
    | ret u=>
      obtain⟨v,H',os,bare,un,hok',r',q⟩:=h
      have q':v=.bl true:=q
      subst q'
      obtain rfl:u=Value.bool true:=r'
      refine⟨rfl,OldK.of_keep λb o e=>?_,os,bare⟩
      cases q:H b with
      | none=>exact un.keep b o e q (by intro z;exact absurd (show b∈([]:List Addr) from z) (by simp)) (by simp)
      | some u=>
        rcases hO b with z | ⟨ob,xs,z⟩
        ·rw [q] at z;cases z
        ·have z2:=un.frzs b ob _ z
         obtain⟨e1,_⟩:=hok b _ z
         obtain⟨e2,_⟩:=hok' b _ z2
         rw [e] at e1;cases e1
         exact e2
 cases hk:K.lookup a with
 | some o=>
   have e:=KX a o hk
   rw [ha] at e
   cases e
   refine core (λ_=>none) (λ_=>.inl rfl) (.inr ⟨_,vs.toArray,_,hk,rfl,rfl,rfl,by rw [List.size_toArray,lenV];exact hl,by simpa using rv⟩) (λb u z=>by have z':(none:Option HO)=some u:=z;cases z') (λb z=>absurd rfl z) λz=>absurd rfl z
 | none=>
   refine core (λb=>if b=a then some (.frz { cls:=.type "list",data:=.seq vs.toArray } (.lst (ns.map V.int))) else none) (λb=>?_) (.inl (.inr ⟨{ cls:=.type "list",data:=.seq vs.toArray },if_pos rfl⟩)) (λb u z=>?_) (λb z=>?_) λ_=>hk
   ·by_cases hb:b=a
    ·exact .inr ⟨_,_,if_pos hb⟩
    ·exact .inl (if_neg hb)
   ·by_cases hb:b=a
    ·have z':=(if_pos hb).symm.trans z
     cases z'
     subst hb
     exact⟨ha,by rw [List.length_map];exact hl,vs,_,rv,ha⟩
    ·have z':=(if_neg hb).symm.trans z
     cases z'
   ·by_cases hb:b=a
    ·exact hb
    ·exact absurd (if_neg hb) z
end L2
namespace L2
open PySem PySem.Spec PyProof.Rows
end L2
namespace L2
open PySem PySem.Spec PyProof.Rows
noncomputable def B9 (s:Stmt) (j:Nat):Stmt:=match s with
 | .ClassDef _ _ _ body _ _ _ _ _ _ _=>body.getD j (.Pass ⟨0,0,0,0⟩)
 | _=>.Pass ⟨0,0,0,0⟩
noncomputable def C3 (s:Stmt):Arguments:=match s with
 | .FunctionDef _ a _ _ _ _ _ _ _ _=>a
 | _=>{ posonlyargs:=[],args:=[],vararg:=none,kwonlyargs:=[],kw_defaults:=[],kwarg:=none,defaults:=[] }
noncomputable def C2 (s:Stmt):List Stmt:=match s with
 | .FunctionDef _ _ b _ _ _ _ _ _ _=>b
 | _=>[]
noncomputable def B6 (s:Stmt):Scope:=match s with
 | .FunctionDef _ _ _ _ _ _ sc _ _ _=>sc
 | _=>{ kind:=.function,names:=[],isGenerator:=false,isCoroutine:=false }
noncomputable abbrev CX0:CXT:=λ_ _ _ _ _ _=>False
noncomputable abbrev E0:XK:=λ_ _ _=>False
theorem aq6 {X:Cx}:W0 CX0 X E0:=λ_ _ _ _ _ _ _ h=>h.elim
structure Fun (K:PySem.W.Frag) (x qual:Str) (st:Stmt) (f:Addr) (fd:FuncData):Prop where
 ex:∃(oc:Value) (od:Option Addr) (kV doc pm:Value) (an:Option Addr) (cdv ct:Value) (osl:Array (Option Value)),
  fd=PySem.W.fnOf x qual (C3 st) (C2 st) (B6 st) .none kV doc pm an cdv ct/\K.lookup f=some ⟨oc,od,.func fd,osl⟩/\PySem.W.codeIn K cdv qual=true
 kp:PySem.W.keepIn K (.ref f)=true
section
variable {P:Program} {w:World} {K:PySem.W.Frag} {mg:Str->Option Value} {base:Heap}
theorem Fun.ok {x qual:Str} {st:Stmt} {f:Addr} {fd:FuncData} {N ps:List Str} {k:Nat} {sp:Sp} (F:Fun K x qual st f fd) (S:D1 N ps (B6 st)) (len:∀vs H Q E,sp vs H Q E->vs.length=ps.length)
 (hbody:∀(cdv:Value) (A:Around) (outer:List Env) (s:Shared) (H:Hp) (vs:List V) (Q:VK) (E:XK),Room k (A.deeper (envOfC qual (B6 st) s.heap.objs.size f cdv))->sp vs H Q E->
  ∃t,PSs (ah2 CX0 P w K mg base N qual (B6 st) f cdv A outer s H E).nox (C2 st) t/\t { nx:=λ_ H'=>Q .non H',rt:=Q } (start N vs) H):FnOk P w K mg base CX0 (k+1) f fd ps sp:=by
 obtain⟨oc,od,kV,doc,pm,an,cdv,ct,osl,rfl,lk,hcd⟩:=F.ex
 refine aO1 lk hcd S len λA outer s H vs Q E hr hsp=>?_
 obtain⟨t,h,q⟩:=hbody cdv A outer s H vs Q E hr hsp
 exact⟨t,h.nox,q⟩
theorem Fun.binds {x qual:Str} {st:Stmt} {f:Addr} {fd:FuncData} {ps:List Str} (F:Fun K x qual st f fd)
 (h:∀(kV doc pm:Value) (an:Option Addr) (cdv ct:Value) (us:List Value),us.length=ps.length->bindArgs (PySem.W.fnOf x qual (C3 st) (C2 st) (B6 st) .none kV doc pm an cdv ct) ⟨us,[]⟩=pure (ps.zip us)):Binds K fd ps []:=by
 obtain⟨oc,od,kV,doc,pm,an,cdv,ct,osl,rfl,lk,hcd⟩:=F.ex
 exact .all (h kV doc pm an cdv ct)
theorem G0 {x qual:Str} {st:Stmt} {f:Addr} {oc:Value} {od an:Option Addr} {osl:Array (Option Value)} {kV doc pm cdv ct:Value} (l:K.lookup f=some ⟨oc,od,.func (PySem.W.fnOf x qual (C3 st) (C2 st) (B6 st) .none kV doc pm an cdv ct),osl⟩)
 (c:PySem.W.codeIn K cdv qual=true) (k:PySem.W.keepIn K (.ref f)=true):Fun K x qual st f (PySem.W.fnOf x qual (C3 st) (C2 st) (B6 st) .none kV doc pm an cdv ct):=⟨⟨oc,od,kV,doc,pm,an,cdv,ct,osl,rfl,l,c⟩,k⟩
end
section
variable {X:Cx}
theorem pv (i:Nat) {x:Str} {pos:Pos} (hN:X.N[i]?=some x:=by rfl) (hv:Vis X.env.scope x:=by first | exact Or.inl rfl | exact Or.inr (Or.inl rfl) | exact Or.inr (Or.inr rfl)) (hd:(x == ("__debug__" : Str))=false:=by decide)
 (hcd:(x == ("__classdict__" : Str))=false:=by decide):PE X (.Name x pos) (aP7 i):=aP8 hN hv hd hcd
end
end L2
namespace L2
open PySem PySem.Spec PyProof.Rows
section
variable {κ:Type} [DecidableEq κ]
noncomputable def X4 (kvs:List (κ×V)) (k:κ):Option V:=(kvs.find? λkv=>decide (kv.1=k)).map (·.2)
noncomputable def N5 (kvs:List (κ×V)) (k:κ) (v:V):List (κ×V):=
 if (kvs.any λkv=>decide (kv.1=k))=true then kvs.map (λkv=>if kv.1=k then (kv.1,v) else kv) else kvs++[(k,v)]
theorem X5 {p:κ×V} {r:List (κ×V)} {k:κ} (e:p.1=k):X4 (p::r) k=some p.2:=by simp [X4,List.find?_cons,e]
theorem X6 {p:κ×V} {r:List (κ×V)} {k:κ} (e:¬p.1=k):X4 (p::r) k=X4 r k:=by simp [X4,List.find?_cons,e]
theorem n6 (k:κ):∀kvs:List (κ×V),(kvs.any λkv=>decide (kv.1=k))=(X4 kvs k).isSome
 | []=>rfl
 | p::r=>by
   rw [List.any_cons]
   by_cases e:p.1=k
   ·simp only [X5 e,decide_eq_true e,Bool.true_or,Option.isSome_some]
   ·rw [X6 e,decide_eq_false e,Bool.false_or];exact n6 k r
theorem P8 (kvs:List (κ×V)) (k:κ) (v:V):(N5 kvs k v).length<=kvs.length+1:=by
 unfold N5
 split
 ·rw [List.length_map];omega
 ·rw [List.length_append,List.length_cons,List.length_nil];omega
theorem RelO.isSome_eq {o:Option V} {u:Option Value} (r:RelO o u):o.isSome=u.isSome:=by
 cases o with
 | none=>cases u with
   | none=>rfl
   | some _=>exact (show False from r).elim
 | some _=>cases u with
   | none=>exact (show False from r).elim
   | some _=>rfl
theorem RelO.getD {o:Option V} {u:Option Value} {d:V} {d':Value} (r:RelO o u) (rd:RelV d d'):RelV (o.getD d) (u.getD d'):=by
 cases o with
 | none=>cases u with
   | none=>exact rd
   | some _=>exact (show False from r).elim
 | some _=>cases u with
   | none=>exact (show False from r).elim
   | some _=>exact r
theorem KV.val {kvs:List (κ×V)} {vs:List (κ×Value)} (r:KV kvs vs) (k:κ):RelO (X4 kvs k) (valueAt vs k):=by
 unfold KV at r
 induction r with
 | nil=>exact True.intro
 | @cons p q ps qs h t ih=>
   obtain⟨h1,h2⟩:=h
   by_cases e:p.1=k
   ·have e':q.1=k:=h1.symm.trans e
    have b:valueAt (q::qs) k=some q.2:=by simp [valueAt,List.find?_cons,e']
    rw [X5 e,b];exact h2
   ·have e':¬q.1=k:=λz=>e (h1.trans z)
    have b:valueAt (q::qs) k=valueAt qs k:=by simp [valueAt,List.find?_cons,e']
    rw [X6 e,b];exact ih
theorem KV.any {kvs:List (κ×V)} {vs:List (κ×Value)} (r:KV kvs vs) (k:κ):(kvs.any λkv=>decide (kv.1=k))=vs.any λkv=>decide (kv.1=k):=by
 unfold KV at r
 induction r with
 | nil=>rfl
 | cons h t ih=>rw [List.any_cons,List.any_cons,ih,h.1]
theorem KV.repl {kvs:List (κ×V)} {vs:List (κ×Value)} (r:KV kvs vs) (k:κ) {y:V} {u:Value} (ry:RelV y u) :
 KV (kvs.map λkv=>if kv.1=k then (kv.1,y) else kv) (vs.map λkv=>if kv.1=k then (kv.1,u) else kv):=by
 unfold KV at r ⊢
 induction r with
 | nil=>exact .nil
 | @cons p q ps qs h t ih=>
   rw [List.map_cons,List.map_cons]
   refine .cons ?_ ih
   obtain⟨h1,h2⟩:=h
   by_cases e:p.1=k
   ·rw [if_pos e,if_pos (h1.symm.trans e)];exact⟨h1,ry⟩
   ·rw [if_neg e,if_neg (λz=>e (h1.trans z))];exact⟨h1,h2⟩
theorem KV.put {kvs:List (κ×V)} {vs:List (κ×Value)} (r:KV kvs vs) (k:κ) {y:V} {u:Value} (ry:RelV y u):KV (N5 kvs k y) (stored vs k u):=by
 unfold N5 stored
 rw [r.any k]
 by_cases e:(vs.any λkv=>decide (kv.1=k))=true
 ·rw [if_pos e,if_pos e];exact r.repl k ry
 ·rw [if_neg e,if_neg e];exact Paired.snoc r ⟨rfl,ry⟩
theorem KV.length {kvs:List (κ×V)} {vs:List (κ×Value)} (r:KV kvs vs):kvs.length=vs.length:=Paired.length r
end
theorem aq7 {P:Program} {w:World} {k:Key} {u:Value} (r:RelV (kV k) u):(G5 P w).is k u=true:=by
 cases k with
 | inl i=>obtain⟨t,e⟩:=(show ∃t,u=Value.int i t from r);subst e;exact ag8 P w i t
 | inr x=>obtain⟨t,e⟩:=(show ∃t,u=Value.str x t from r);subst e;exact ag9 P w x t
theorem ab8 {P:Program} {w:World}:∀{ks:List Key} {us:List Value},Vals (ks.map kV) us->ItemsAre (G5 P w) ks us
 | [],_,r=>by rw [List.map_nil] at r;cases r;exact .nil
 | k::ks,_,r=>by
   rw [List.map_cons] at r
   cases r with
   | cons h t=>exact .cons (aq7 h) (ab8 t)
noncomputable abbrev KT (H:Hp):List (List Key×V)->List (List Key×Addr×Value)->Prop:=Paired λp q=>p.1=q.1/\H q.2.1=some (.tup (p.1.map kV))/\RelV p.2 q.2.2
theorem KT.val {H:Hp} {kvs:List (List Key×V)} {xs:List (List Key×Addr×Value)} (r:KT H kvs xs) (k:List Key):RelO (X4 kvs k) ((atKey xs k).map (·.2)):=by
 induction r with
 | nil=>exact True.intro
 | @cons p q ps qs h t ih=>
   obtain⟨h1,_,h2⟩:=h
   by_cases e:p.1=k
   ·have e':q.1=k:=h1.symm.trans e
    have b:atKey (q::qs) k=some q.2:=by simp [atKey,List.find?_cons,e']
    rw [X5 e,b];exact h2
   ·have e':¬q.1=k:=λz=>e (h1.trans z)
    have b:atKey (q::qs) k=atKey qs k:=by simp [atKey,List.find?_cons,e']
    rw [X6 e,b];exact ih
theorem KT.repl {H:Hp} {kvs:List (List Key×V)} {xs:List (List Key×Addr×Value)} (r:KT H kvs xs) (k:List Key) {y:V} {u:Value} (ry:RelV y u) :
 KT H (kvs.map λkv=>if kv.1=k then (kv.1,y) else kv) (xs.map (putAt k u)):=by
 induction r with
 | nil=>exact .nil
 | @cons p q ps qs h t ih=>
   rw [List.map_cons,List.map_cons]
   refine .cons ?_ ih
   obtain⟨h1,h2,h3⟩:=h
   unfold putAt
   by_cases e:p.1=k
   ·rw [if_pos e,if_pos (h1.symm.trans e)];exact⟨h1,h2,ry⟩
   ·rw [if_neg e,if_neg (λz=>e (h1.trans z))];exact⟨h1,h2,h3⟩
theorem KT.put {H:Hp} {kvs:List (List Key×V)} {xs:List (List Key×Addr×Value)} (r:KT H kvs xs) (k:List Key) {b:Addr} {y:V} {u:Value} (hb:H b=some (.tup (k.map kV))) (ry:RelV y u) :
 KT H (N5 kvs k y) (storedH xs k b u):=by
 have e:(kvs.any λkv=>decide (kv.1=k))=(atKey xs k).isSome:=by
  rw [n6,(r.val k).isSome_eq,Option.isSome_map]
 unfold N5 storedH
 rw [e]
 by_cases q:(atKey xs k).isSome=true
 ·rw [if_pos q,if_pos q];exact r.repl k ry
 ·rw [if_neg q,if_neg q];exact Paired.snoc r ⟨rfl,hb,ry⟩
theorem KT.keeps {H H':Hp} {kvs:List (List Key×V)} {xs:List (List Key×Addr×Value)} (r:KT H kvs xs) (ht:∀b ys,H b=some (.tup ys)->H' b=some (.tup ys)):KT H' kvs xs:=
 Paired.mapP r λ_ _ z=>⟨z.1,ht _ _ z.2.1,z.2.2⟩
section
variable {P:Program} {w:World} {H:Hp} {h:Heap} {a:Addr}
theorem aO3 {u:HO} (ok:HOk P w H h) (e:Rd H a u):ObjOk P w H h a u:=e.ok ok
theorem ah5 {kvs:List (Key×V)} (ok:HOk P w H h) (e:Rd H a (.dK kvs)):kvs.length<=sizeLine/\(a == sysModules)=false/\∃vs,KV kvs vs/\h.DictOf (G5 P w) a vs:=
 show ObjOk P w H h a (.dK kvs) from aO3 ok e
theorem aZ0 {kvs:List (Key×V)} (ok:HOk P w H h) (e:H a=some (.dK kvs)):kvs.length<=sizeLine/\(a == sysModules)=false/\∃vs,KV kvs vs/\h.DictOf (G5 P w) a vs:=ah5 ok (.inl e)
theorem n8 {ks:List Key} (ok:HOk P w H h) (e:H a=some (.tup (ks.map kV))):(tupleKind (G5 P w)).is h ks a:=by
 obtain⟨_,its,r,o,h1,h2,n,h3⟩:=(show ObjOk P w H h a (.tup (ks.map kV)) from ok a _ e)
 exact⟨o,its.toArray,n,h1,h2,h3,by simpa using ab8 r⟩
theorem ah6 {kvs:List (List Key×V)} (ok:HOk P w H h) (e:Rd H a (.dT kvs)):kvs.length<=sizeLine/\(a == sysModules)=false/\
 ∃xs,KT H kvs xs/\h.DictOfH (tupleKind (G5 P w)) a xs:=by
 obtain⟨z,y,xs,r,o,es,ep,h1,h2,h3,h4,h5⟩:=(show ObjOk P w H h a (.dT kvs) from aO3 ok e)
 refine⟨z,y,xs,r,o,es,ep,h1,h2,h3,h4,λx hx=>?_,h5⟩
 have all:∀{l:List (List Key×V)} {m:List (List Key×Addr×Value)},KT H l m->∀x∈m,(tupleKind (G5 P w)).is h x.1 x.2.1:=by
  intro l m q
  induction q with
  | nil=>intro x hx;exact nomatch hx
  | @cons p q ps qs hq t ih=>
    intro x hx
    rcases List.mem_cons.mp hx with e | hx
    ·subst e
     exact n8 ok (by rw [←hq.1];exact hq.2.1)
    ·exact ih x hx
 exact all r x hx
theorem aq8 {kvs:List (List Key×V)} (ok:HOk P w H h) (e:H a=some (.dT kvs)):kvs.length<=sizeLine/\(a == sysModules)=false/\
 ∃xs,KT H kvs xs/\h.DictOfH (tupleKind (G5 P w)) a xs:=ah6 ok (.inl e)
end
noncomputable def DGet (H:Hp) (a:Addr) (y:V) (r:Option V):Prop:=
 (∃kvs k,Rd H a (.dK kvs)/\y=kV k/\r=X4 kvs k)\/∃kvs k b,Rd H a (.dT kvs)/\y=.ref b/\H b=some (.tup (k.map kV))/\r=X4 kvs k
noncomputable def DPut (H:Hp) (a:Addr) (y v:V) (H':Hp):Prop:=
 (∃kvs k,H a=some (.dK kvs)/\y=kV k/\kvs.length<sizeLine/\H'=upd H a (.dK (N5 kvs k v)))\/
 ∃kvs k b,H a=some (.dT kvs)/\y=.ref b/\H b=some (.tup (k.map kV))/\kvs.length<sizeLine/\H'=upd H a (.dT (N5 kvs k v))
theorem DGet.t {H:Hp} {a b:Addr} {kvs:List (List Key×V)} {k:List Key} (e:H a=some (.dT kvs)) (eb:H b=some (.tup (k.map kV))):DGet H a (.ref b) (X4 kvs k):=.inr ⟨kvs,k,b,.inl e,rfl,eb,rfl⟩
theorem DPut.t {H:Hp} {a b:Addr} {kvs:List (List Key×V)} {k:List Key} {v:V} (e:H a=some (.dT kvs)) (eb:H b=some (.tup (k.map kV))) (hl:kvs.length<sizeLine) :
 DPut H a (.ref b) v (upd H a (.dT (N5 kvs k v))):=.inr ⟨kvs,k,b,e,rfl,eb,hl,rfl⟩
section
variable {X:Cx} {pins:List (Addr×Obj)} {σ:St} {H:Hp} {s:Shared} {a:Addr} {y v:V} {u r:Value} {o:Option V} {A:Around} {E:Value->Shared->Prop}
theorem Inv.big (I:Inv X pins σ H s):sysModules<s.heap.objs.size:=by
 have h:mainGlobals<s.heap.objs.size:=(I.mod.glob.keeps I.bk).lt
 exact Nat.lt_trans (by decide) h
theorem aw1 {Q:Value->Shared->Prop} (hu:A.units+1<cLine) (I:Inv X pins σ H s) (g:DGet H a y (some v)) (ry:RelV y u) (h:∀w' s',Inv X pins σ H s'->RelV v w'->Q w' s') :
 wpAny (model X.prog X.w) A (getItem (.ref a) u) Q E s:=by
 rcases g with ⟨kvs,k,e,ey,l⟩ | ⟨kvs,k,b,e,ey,eb,l⟩
 ·subst ey
  obtain⟨z,hd,vs,rel,dd⟩:=ah5 I.hok e
  obtain⟨w',hw,rw'⟩:=RelO.some_of (v:=v) (o:=valueAt vs k) (by rw [l];exact rel.val k)
  exact wpAny_getItem_of (aq7 ry) dd.mapOf hw (h w' _ (I.tok _) rw')
 ·subst ey
  cases (show u=Value.ref b from ry)
  obtain⟨z,hd,xs,rel,dd⟩:=ah6 I.hok e
  obtain⟨w',hw,rw'⟩:=RelO.some_of (v:=v) (o:=(atKey xs k).map (·.2)) (by rw [l];exact rel.val k)
  obtain⟨p,hp,hp2⟩:=Option.map_eq_some_iff.mp hw
  refine wpAny_getItem_heap (tupleKind_room_in1 hu) (n8 I.hok eb) dd hp ?_
  rw [hp2]
  exact h w' _ (I.tok _) rw'
theorem ad9 {h':Heap} {t':Nat} {ob:HO} (I:Inv X pins σ H s) (mu:Mut (H a)) (hs:Heap.SameBut a s.heap h') (he:∃q,h'.get? a=some q) (new:ObjOk X.prog X.w (upd H a ob) h' a ob) :
 Inv X pins σ (upd H a ob) { s with heap:=h',toks:=t' }:=
 I.write (x:=a) (e:=a) mu (.inl rfl) (λb q hb z=>(hs.2 b hb).trans z) he new
theorem aS7 {P:Program} {w:World} {H':Hp} {h':Heap} {kvs:List (Key×V)} {vs:List (Key×Value)} (z:kvs.length<=sizeLine) (hd:(a == sysModules)=false) (rel:KV kvs vs) (dd:h'.DictOf (G5 P w) a vs) :
 ObjOk P w H' h' a (.dK kvs):=⟨z,hd,vs,rel,dd⟩
theorem aw2 {H':Hp} {Q:Unit->Shared->Prop} (hu:A.units+1<cLine) (I:Inv X pins σ H s) (g:DPut H a y v H') (ry:RelV y u) (rv:RelV v r) (h:∀s',Inv X pins σ H' s'->Q () s') :
 wpAny (model X.prog X.w) A (setItem (.ref a) u r) Q E s:=by
 rcases g with ⟨kvs,k,e,ey,l,eH⟩ | ⟨kvs,k,b,e,ey,eb,l,eH⟩
 ·subst ey eH
  obtain⟨z,hd,vs,rel,dd⟩:=aZ0 I.hok e
  have hz:vs.length<=sizeLine:=by rw [←rel.length];exact z
  have hl:(N5 kvs k v).length<=sizeLine:=by have:=P8 kvs k v;omega
  refine wpAny_setItem_pairs (hsz:=hz) (aq7 ry) dd λh' dd' hs=>h _ ?_
  have he:∃q,h'.get? a=some q:=let ⟨q,_,_,hq,_⟩:=dd';⟨q,hq⟩
  exact ad9 I (by rw [e];exact True.intro) hs he (aS7 hl hd (rel.put k rv) dd')
 ·subst ey eH
  cases (show u=Value.ref b from ry)
  obtain⟨z,hd,xs,rel,dd⟩:=aq8 I.hok e
  have hz:xs.length<=sizeLine:=by rw [←Paired.length rel];exact z
  have hl:(N5 kvs k v).length<=sizeLine:=by have:=P8 kvs k v;omega
  refine wpAny_setItem_heap (hsz:=hz) (tupleKind_room_in1 hu) (n8 I.hok eb) dd λh' dd' hs=>h _ ?_
  obtain⟨q,es,ep,hq,h2,h3,h4,_,h5⟩:=dd'
  refine ad9 I (by rw [e];exact True.intro) hs ⟨q,hq⟩ ⟨hl,hd,_,(rel.put k eb rv).keeps λc ys ec=>?_,q,es,ep,hq,h2,h3,h4,h5⟩
  rw [C9 (aN6 ec e (λz=>nomatch z))]
  exact ec
end
noncomputable def aS8 (i:Expr):Prop:=∀ov iv,subscripted i false ov iv=operate [ov,iv] (getItem ov iv)
theorem aJ7 {prog:Program} {w:World} {A:Around} {E:Value->Shared->Prop} {s:Shared} {env:Env} {value slice:Expr} {pos:Pos} {T id:String} {Q:Value->Shared->Prop}
 (hl:typeLookup (.type T) "__getitem__" = pure (some (.builtin id))) (hs:aS8 slice)
 (h:wpAny (model prog w) A (eval value env) (λo s₁=>wpAny (model prog w) A (eval slice env) (λi s₂=>s₂.TypeIs o T/\wpAny (model prog w) A (getItem o i) Q E s₂) E s₁) E s) :
 wpAny (model prog w) A (eval (.Subscript value slice pos) env) Q E s:=by
 refine Subscript_ (wpAny_mono h (λo s₁ h₁=>wpAny_mono h₁ (λi s₂ h₂=>?_) λ_ _ x=>x) λ_ _ x=>x)
 obtain⟨hT,h₂⟩:=h₂
 unfold subscriptTail
 refine wpAny_bind ?_
 rw [getitemInPython_of_ne hT.not_modules]
 refine wpAny_bind (wpAny_specialOf hT hl ?_)
 have fin:wpAny (model prog w) A (subscripted slice false o i) (λr s₃=>wpAny (model prog w) A (letTemporaryGo value o r>>=λ_=>pure r) Q E s₃) E s₂:=by
  rw [hs o i]
  exact wpAny_operating (wpAny_mono h₂ (λr s₃ h₃=>wpAny_bind (wpAny_letTemporaryGo (wpAny_pure h₃))) λ_ _ x=>x)
 first
  | exact wpAny_pure (wpAny_bind fin)
  | exact wpAny_bind (wpAny_pure (wpAny_bind fin))
  | exact wpAny_bind fin
theorem ah7 {X:Cx} {pins:List (Addr×Obj)} {σ:St} {H:Hp} {s:Shared} {a:Addr} {y:V} {o:Option V} (I:Inv X pins σ H s) (g:DGet H a y o):s.TypeIs (.ref a) "dict":=by
 rcases g with ⟨kvs,k,e,_,_⟩ | ⟨kvs,k,b,e,_,_,_⟩
 ·obtain⟨_,_,vs,_,dd⟩:=ah5 I.hok e
  exact dd.typeIs
 ·obtain⟨_,_,xs,_,dd⟩:=ah6 I.hok e
  exact dd.typeIs
noncomputable def aZ1 (td ty:TE):TE:=λσ H Q=>td σ H λx H1=>ty σ H1 λy H2=>∃a v,x=.ref a/\DGet H2 a y (some v)/\Q v H2
noncomputable def aZ2 (td ty tv:TE):TS:=λD σ H=>tv σ H λv H1=>td σ H1 λx H2=>ty σ H2 λy H3=>∃a H4,x=.ref a/\DPut H3 a y v H4/\D.nx σ H4
section
variable {X:Cx} {o i e value:Expr} {pos pos' tpos:Pos} {td ty tv:TE}
theorem aJ8 (hu:X.A.units+1<cLine) (ho:PE X o td) (hi:PE X i ty) (hs:aS8 i):PE X (.Subscript o i pos) (aZ1 td ty):=by
 intro pins s σ H Q I h
 refine aJ7 PySem.F.slot_dict_getitem.lookup hs (thn (ho pins s σ H _ I h) λu s1 ⟨x,H1,I1,rx,q1⟩=>thn (hi pins s1 σ H1 _ I1 q1) λiv s2 ⟨y,H2,I2,ry,a,v,ex,g,q2⟩=>?_)
 subst ex
 obtain rfl:u=Value.ref a:=rx
 exact⟨ah7 I2 g,aw1 hu I2 g ry λw' s3 I3 rw'=>⟨v,H2,I3,rw',q2⟩⟩
theorem aJ9 (hu:X.A.units+1<cLine) (ho:PE X o td) (hi:PE X i ty) (hv:PE X value tv) (hs:swapsWith value (some (.Subscript o i pos')) pos.line X.env=pure false) :
 PS X (.Assign [.Subscript o i pos'] value pos) (aZ2 td ty tv):=by
 intro pins s σ H D I h
 refine wpAny_Assign_Subscript (thn (hv pins s σ H _ I h) λr s1 ⟨v,H1,I1,rv,q1⟩=>thn (ho pins s1 σ H1 _ I1 q1) λu s2 ⟨x,H2,I2,rx,q2⟩=>thn (hi pins s2 σ H2 _ I2 q2) λiv s3 ⟨y,H3,I3,ry,a,H4,ex,g,q3⟩=>?_) hs
 subst ex
 obtain rfl:u=Value.ref a:=rx
 exact aw2 hu I3 g ry rv λs4 I4=>⟨σ,H4,I4,q3⟩
end
theorem ah8 {P:Program} {w:World} {H:Hp} (h:Heap) (hb:sysModules<h.objs.size):ObjOk P w H (h.push { cls:=.type "dict",data:=.dict #[] }) h.objs.size (.dT []):=
 ⟨Nat.zero_le _,beq_eq_false_iff_ne.mpr (Ne.symm (Nat.ne_of_lt hb)),[],.nil,_,#[],0,Heap.get?_push_size _ rfl,⟨rfl,rfl,rfl⟩,rfl,rfl,List.nodup_nil⟩
noncomputable def tDNewT:TE:=λ_ H Q=>∀p,H p=none->Q (.ref p) (upd H p (.dT []))
section
variable {X:Cx} {pos:Pos}
theorem aB5:PE X (.Dict [] [] pos) tDNewT:=λpins s σ H Q I h=>
 wpAny_Dict_empty ⟨.ref s.heap.objs.size,_,I.laid (a:=s.heap.objs.size) (o:=.dT []) (t':=s.toks) (λ_ _ q=>Heap.get?_push_of_some _ q) (Nat.le_refl _) (ah8 s.heap I.big),rfl,h _ (I.hok.fresh (Nat.le_refl _))⟩
end
structure M1 (X:Cx) (o:Expr) (m:Str) (apos:Pos) (e:Expr) (cpos:Pos):Prop where
 base:attributeBase o m X.env (eval o X.env)=eval o X.env
 few:((backTo cpos (starEach [e] X.env)).all (λx=>!x.1)&&(backToKw cpos (keywordEach [] X.env)).all (λx=>x.1.isSome)
  &&decide (([e]:List Expr).length+([]:List Keyword).length+(if ([]:List Keyword).isEmpty then 0 else 1)<30))=true
 line:(apos.endLine == cpos.line)=true
 trees:backTo cpos (starEach [e] X.env)=[(false,eval e X.env)]
noncomputable def IsD (H:Hp) (a:Addr):Prop:=(∃kvs,Rd H a (.dK kvs))\/∃kvs,Rd H a (.dT kvs)
theorem aS9 {X:Cx} {pins:List (Addr×Obj)} {σ:St} {H:Hp} {s:Shared} {a:Addr} (I:Inv X pins σ H s) (d:IsD H a) :
 s.TypeIs (.ref a) "dict"/\(∀b,Value.ref a=.ref b->∃ob,s.heap.get? b=some ob/\ob.dict=none)/\(a == sysModules)=false:=by
 rcases d with ⟨kvs,e⟩ | ⟨kvs,e⟩
 ·obtain⟨_,hd,vs,_,dd⟩:=ah5 I.hok e
  refine⟨dd.typeIs,λb q=>?_,hd⟩
  cases q
  obtain⟨ob,_,_,h1,h2,_⟩:=dd
  exact⟨ob,h1,h2.2.1⟩
 ·obtain⟨_,hd,xs,_,dd⟩:=ah6 I.hok e
  refine⟨dd.typeIs,λb q=>?_,hd⟩
  cases q
  obtain⟨ob,_,_,h1,h2,_⟩:=dd
  exact⟨ob,h1,h2.2.1⟩
section
variable {X:Cx} {pins:List (Addr×Obj)} {σ:St} {H:Hp} {s:Shared} {a:Addr} {y d:V} {u r:Value} {o:Option V} {A:Around} {E:Value->Shared->Prop}
theorem aT0 {Q:Value->Shared->Prop} (hu:A.units+1<cLine) (I:Inv X pins σ H s) (g:DGet H a y o) (ry:RelV y u) (h:∀w' s',Inv X pins σ H s'->RelV (o.getD .non) w'->Q w' s') :
 wpAny (model X.prog X.w) A (call (.builtin "dict.get") [.ref a,u]) Q E s:=by
 rcases g with ⟨kvs,k,e,ey,l⟩ | ⟨kvs,k,b,e,ey,eb,l⟩
 ·subst ey
  obtain⟨z,hd,vs,rel,dd⟩:=ah5 I.hok e
  refine call_meetsIn PySem.F.slot_dict_get dd.typeIs PySem.F.entry_dict_get (PySem.F.args_dict_get_2 _ _) (meets_dict_get (G5 X.prog X.w) a (aq7 ry) hd) ⟨_,dd.mapOf,h _ _ (I.tok _) ?_⟩
  rw [l]
  exact (rel.val k).getD rfl
 ·subst ey
  cases (show u=Value.ref b from ry)
  obtain⟨z,hd,xs,rel,dd⟩:=ah6 I.hok e
  refine call_meetsIn PySem.F.slot_dict_get dd.typeIs PySem.F.entry_dict_get (PySem.F.args_dict_get_2 _ _) (meetsH_dict_get (tupleKind (G5 X.prog X.w)) a b hd) ⟨tupleKind_room_in1 hu,k,xs,n8 I.hok eb,dd,h _ _ (I.tok _) ?_⟩
  rw [l]
  exact (rel.val k).getD rfl
end
noncomputable def aT1 (td ty:TE):TE:=λσ H Q=>td σ H λx H1=>∃a,x=.ref a/\IsD H1 a/\ty σ H1 λy H2=>∃o,DGet H2 a y o/\Q (o.getD .non) H2
section
variable {X:Cx} {o e f:Expr} {apos cpos:Pos} {td ty tx:TE}
theorem aB6 (hu:X.A.units+1<cLine) (ho:PE X o td) (he:PE X e ty) (m:M1 X o "get" apos e cpos):PE X (.Call (.Attribute o "get" apos) [e] [] cpos) (aT1 td ty):=by
 intro pins s σ H Q I h
 refine wpAny_Call_method m.base m.few m.line PySem.F.plainAttrs_dict PySem.F.slot_dict_get PySem.F.type_dict_get (thn (ho pins s σ H _ I h) λu s1 ⟨x,H1,I1,rx,a,ex,d,q1⟩=>?_)
 subst ex
 obtain rfl:u=Value.ref a:=rx
 obtain⟨t1,t2,_⟩:=aS9 I1 d
 refine⟨t1,t2,?_⟩
 rw [m.trees]
 refine Calls.callWith_builtin rfl (Calls.evalArgs_plain (Calls.spliced_cons (thn (he pins s1 σ H1 _ I1 q1) λiv s2 ⟨y,H2,I2,ry,ov,g,q2⟩=>Calls.spliced_nil ?_)))
 exact aT0 hu I2 g ry λw' s3 I3 rw'=>⟨_,H2,I3,rw',q2⟩
end
end L2
set_option maxRecDepth 100000
namespace Ws
noncomputable section
inductive PV where
 | non | bl (b:Bool) | int (i:Int) | str (x:PySem.Str) | tup (l:List PV) | ref (n:Nat)
inductive PO where
 | lst (l:List PV)
 | ro (l:List PV)
 | dI (kvs:List (Int×PV))
 | ins (c:Nat) (fs:List (Nat×PV))
   | dT (kvs:List (List Int×PV))
   | exc (c:Nat) (v:PV)
noncomputable abbrev PHp:=List PO
inductive R (α:Type) where
 | ok (a:α) (A:PHp)
 | ex (c:Nat) (v:PV) (A:PHp)
 | no
noncomputable abbrev M (α:Type):=PHp->R α
@[simp] noncomputable def ret {α:Type} (a:α):M α:=λA=>.ok a A
@[simp] noncomputable def stuck {α:Type}:M α:=λ_=>.no
@[simp] noncomputable def bnd {α β:Type} (m:M α) (f:α->M β):M β:=λA=>match m A with
  | .ok a A'=>f a A'
  | .ex c v A'=>.ex c v A'
  | .no=>.no
noncomputable def E3 {α:Type} (P:Prop) (m:M α):M α:=@ite _ P (Classical.propDecidable P) m stuck
theorem U3 {α:Type} {P:Prop} {m:M α} (h:P):E3 P m=m:=if_pos h
@[simp] theorem aT2 {α:Type} {m:M α}:E3 True m=m:=if_pos trivial
theorem C6 {α:Type} {P:Prop} {m:M α} {A A':PHp} {a:α} (h:E3 P m A=.ok a A'):P/\m A=.ok a A':=by
 by_cases p:P
 ·rw [U3 p] at h;exact⟨p,h⟩
 ·rw [show E3 P m=stuck from if_neg p] at h;cases h
theorem bnd_ok {α β:Type} {m:M α} {f:α->M β} {A A':PHp} {a:α} (h:m A=.ok a A'):bnd m f A=f a A':=by unfold bnd;rw [h]
theorem B0 {α β:Type} {m:M α} {f:α->M β} {A A':PHp} {b:β} (h:bnd m f A=.ok b A'):∃a A1,m A=.ok a A1/\f a A1=.ok b A':=by
 unfold bnd at h
 cases e:m A with
 | ok a A1=>rw [e] at h;exact⟨a,A1,rfl,h⟩
 | ex c v A1=>rw [e] at h;cases h
 | no=>rw [e] at h;cases h
noncomputable abbrev PSt:=List (Option PV)
noncomputable abbrev ED:=PSt->M PV
noncomputable abbrev TD:=PSt->M Bool
noncomputable abbrev AD:=PSt->M (List PV)
noncomputable abbrev Fun:=List PV->M PV
inductive Fl where
 | nx (σ:PSt) | rt (v:PV) | bk (σ:PSt) | ct (σ:PSt)
noncomputable abbrev SD:=PSt->M Fl
noncomputable abbrev GD:=PV->PSt->M PSt
@[irreducible] noncomputable def LIM:Nat:=100000
theorem L9 {n:Nat} (h:n<=10000):n<=LIM:=by unfold LIM;omega
theorem aB7 {n:Nat} (h:n<10000):n<LIM:=by unfold LIM;omega
@[simp] theorem a70:0<=LIM:=Nat.zero_le _
@[simp] theorem a71:1<=LIM:=L9 (by omega)
@[simp] theorem a72:2<=LIM:=L9 (by omega)
@[simp] theorem a73:3<=LIM:=L9 (by omega)
@[simp] theorem a74:4<=LIM:=L9 (by omega)
mutual
noncomputable def eqv:PV->PV->Bool
 | .non,.non=>true
 | .bl a,.bl b=>a == b
 | .int i,.int j=>decide (i=j)
 | .str x,.str y=>decide (x=y)
 | .tup l,.tup m=>N8 l m
 | _,_=>false
noncomputable def N8:List PV->List PV->Bool
 | [],[]=>true
 | x::xs,y::ys=>eqv x y&&N8 xs ys
 | _,_=>false
end
mutual
noncomputable def R5:PV->Bool
 | .non=>true
 | .int _=>true
 | .str _=>true
 | .tup l=>X7 l
 | _=>false
noncomputable def X7:List PV->Bool
 | []=>true
 | x::xs=>R5 x&&X7 xs
end
@[simp] noncomputable def J1:PV->Bool
  | .non=>true
  | .int _=>true
  | .str _=>true
  | _=>false
noncomputable def aq9:PV->Bool
 | .tup l=>l.all J1
 | x=>J1 x
noncomputable def n9:PV->Bool
 | .tup l=>l.all aq9
 | x=>J1 x
noncomputable def plain:PV->Bool
 | .tup l=>l.all n9
 | x=>J1 x
noncomputable def G8 (l:List PV):Bool:=l.all plain
@[simp] theorem aW8 (i:Int):plain (.int i)=true:=rfl
@[simp] theorem aW9:plain .non=true:=rfl
@[simp] noncomputable def alloc (o:PO):M PV:=λA=>.ok (.ref A.length) (A++[o])
@[simp] noncomputable def D3 (n:Nat):M (List PV):=λA=>match A[n]? with
  | some (.lst l)=>.ok l A
  | some (.ro l)=>.ok l A
  | _=>.no
@[simp] noncomputable def Q6 (n:Nat):M (List PV):=λA=>match A[n]? with
  | some (.lst l)=>.ok l A
  | _=>.no
@[simp] noncomputable def put (n:Nat) (o:PO):M Unit:=λA=>.ok () (A.set n o)
@[simp] noncomputable def P9 (n:Nat):M (Nat×List (Nat×PV)):=λA=>match A[n]? with
  | some (.ins c fs)=>.ok (c,fs) A
  | _=>.no
@[simp] noncomputable def L6 (v:PV):M (List PV):=match v with
  | .ref n=>D3 n
  | .tup l=>ret l
  | _=>stuck
@[simp] noncomputable def eVar (i:Nat):ED:=λσ=>match σ[i]? with
  | some (some v)=>ret v
  | _=>stuck
@[simp] noncomputable def eK (v:PV):ED:=λ_=>ret v
@[simp] noncomputable def aNil:AD:=λ_=>ret []
@[simp] noncomputable def aCons (e:ED) (es:AD):AD:=λσ=>bnd (e σ) λx=>bnd (es σ) λxs=>ret (x::xs)
@[simp] noncomputable def N6 (es:AD):ED:=λσ=>bnd (es σ) λxs=>E3 (xs.length<=LIM) (ret (.tup xs))
@[simp] noncomputable def o0 (es:AD):ED:=λσ=>bnd (es σ) λxs=>E3 (xs.length<=LIM) (alloc (.lst xs))
noncomputable abbrev OD:=PV->PV->M PV
@[simp] noncomputable def I9 (f:OD) (a b:ED):ED:=λσ=>bnd (a σ) λx=>bnd (b σ) λy=>f x y
@[simp] noncomputable def aB8:OD
  | .int i,.int j=>ret (.int (i+j))
  | .tup l,.tup m=>E3 (l≠[]/\l.length+m.length<=LIM) (ret (.tup (l++m)))
  | .ref n,.ref k=>bnd (Q6 n) λl=>bnd (Q6 k) λm=>E3 (l.length+m.length<=LIM) (alloc (.lst (l++m)))
  | _,_=>stuck
@[simp] noncomputable def aB9:OD
  | .int i,.int j=>E3 (0<j) (ret (.int (i%j)))
  | _,_=>stuck
@[simp] noncomputable def aC0:OD
  | .int i,.int j=>E3 (0<j/\j<1073741824) (ret (.int (i / j)))
  | _,_=>stuck
@[simp] noncomputable def oLt:OD
  | .int i,.int j=>ret (.bl (decide (i<j)))
  | _,_=>stuck
@[simp] noncomputable def oLe:OD
  | .int i,.int j=>ret (.bl (decide (i<=j)))
  | _,_=>stuck
@[simp] noncomputable def oGe:OD
  | .int i,.int j=>ret (.bl (decide (j<=i)))
  | _,_=>stuck
@[simp] noncomputable def ae0:PV->PV->Bool
  | .bl _,.bl _=>true
  | _,_=>false
@[simp] noncomputable def pEq (x y:PV):M Bool:=match x,y with
  | .ref n,.ref k=>bnd (D3 n) λl=>bnd (D3 k) λm=>E3 (G8 l=true/\G8 m=true) (ret (N8 l m))
  | x,y=>E3 (ae0 x y=true\/(plain x=true/\plain y=true)) (ret (eqv x y))
@[simp] noncomputable def oEq:OD:=λx y=>bnd (pEq x y) λb=>ret (.bl b)
@[simp] noncomputable def oNe:OD:=λx y=>bnd (pEq x y) λb=>ret (.bl (!b))
noncomputable def pIn (x:PV) (l:List PV):Bool:=l.any λy=>eqv y x
@[simp] noncomputable def oIn:OD:=λx y=>bnd (L6 y) λl=>E3 (plain x=true/\G8 l=true) (ret (.bl (pIn x l)))
@[simp] noncomputable def ah9:PV->Bool
  | .non=>true
  | _=>false
@[simp] noncomputable def aw3 (a:ED):ED:=λσ=>bnd (a σ) λx=>ret (.bl (ah9 x))
@[simp] noncomputable def aO4 (a:ED):ED:=λσ=>bnd (a σ) λx=>ret (.bl (!ah9 x))
@[simp] noncomputable def ae1 (f g:OD) (a b c:ED):ED:=λσ=>bnd (a σ) λx=>bnd (b σ) λy=>bnd (f x y) λz=>match z with
  | .bl true=>bnd (c σ) λu=>g y u
  | .bl false=>ret (.bl false)
  | _=>stuck
@[simp] noncomputable def asB (v:PV):M Bool:=match v with
  | .bl b=>ret b
  | _=>stuck
@[simp] noncomputable def J2 (e:ED):TD:=λσ=>bnd (e σ) asB
@[simp] noncomputable def tOr (a b:TD):TD:=λσ=>bnd (a σ) λc=>if c=true then ret true else b σ
@[simp] noncomputable def tNot (a:TD):TD:=λσ=>bnd (a σ) λc=>ret (!c)
@[simp] noncomputable def d5 (a b:ED):ED:=λσ=>bnd (bnd (a σ) asB) λc=>if c=true then b σ else ret (.bl false)
@[simp] noncomputable def aT3 (a:ED):ED:=λσ=>bnd (bnd (a σ) asB) λc=>ret (.bl (!c))
@[simp] noncomputable def eIf (t:TD) (a b:ED):ED:=λσ=>bnd (t σ) λc=>if c=true then a σ else b σ
noncomputable def ixN (n:Nat) (i:Int):Option Nat:=if 0<=i then (if i<n then some i.toNat else none) else if -(n:Int)<=i then some (i+n).toNat else none
noncomputable def atI {α:Type} (xs:List α) (i:Int):Option α:=(ixN xs.length i).bind λj=>xs[j]?
@[simp] noncomputable def oIx:OD:=λx y=>match y with
  | .int i=>bnd (L6 x) λl=>match atI l i with
    | some v=>ret v
    | none=>stuck
  | _=>stuck
noncomputable def M8 (n d:Nat):Option Int->Nat
 | none=>d
 | some v=>if v<0 then (max (v+n) 0).toNat else (min v n).toNat
noncomputable def cut {α:Type} (xs:List α) (lo hi:Option Int):List α:=(xs.drop (M8 xs.length 0 lo)).take (M8 xs.length xs.length hi - M8 xs.length 0 lo)
noncomputable abbrev LD:=PSt->M (Option Int)
@[simp] noncomputable def lNo:LD:=λ_=>ret none
@[simp] noncomputable def lAt (e:ED):LD:=λσ=>bnd (e σ) λx=>match x with
  | .int i=>ret (some i)
  | _=>stuck
@[simp] noncomputable def aw4 (a:ED) (lo hi:LD):ED:=λσ=>bnd (a σ) λx=>bnd (lo σ) λl=>bnd (hi σ) λh=>match x with
  | .ref n=>bnd (D3 n) λxs=>alloc (.lst (cut xs l h))
  | .tup xs=>E3 (¬(M8 xs.length 0 l=0/\M8 xs.length xs.length h=xs.length)) (ret (.tup (cut xs l h)))
  | _=>stuck
@[simp] noncomputable def ai0 (a:ED):ED:=λσ=>bnd (a σ) λx=>bnd (L6 x) λl=>ret (.int l.length)
@[simp] noncomputable def U4 (a:ED):ED:=λσ=>bnd (a σ) λx=>bnd (L6 x) λl=>alloc (.lst l)
noncomputable def K5:List PV->Option (List Int)
 | []=>some []
 | .int i::r=>(K5 r).map (i :: ·)
 | _=>none
noncomputable def N9:List PV->Option (List (List Int))
 | []=>some []
 | .tup (x::l)::r=>match K5 (x::l),N9 r with
   | some z,some zs=>some (z::zs)
   | _,_=>none
 | _=>none
noncomputable def D8:List Int->List Int->Bool
 | _,[]=>false
 | [],_::_=>true
 | x::xs,y::ys=>if x=y then D8 xs ys else decide (x<y)
noncomputable def V2 {α:Type} (lt:α->α->Bool) (a:α):List α->List α
 | []=>[a]
 | b::r=>if lt b a=true then b::V2 lt a r else a::b::r
noncomputable def D9 {α:Type} (lt:α->α->Bool):List α->List α
 | []=>[]
 | a::r=>V2 lt a (D9 lt r)
noncomputable def ltI (i j:Int):Bool:=decide (i<j)
noncomputable def X8 (l:List PV):M (List PV):=E3 (l.length<64) (match K5 l with
 | some ns=>ret ((D9 ltI ns).map .int)
 | none=>match N9 l with
   | some ts=>ret ((D9 D8 ts).map λt=>.tup (t.map .int))
   | none=>stuck)
@[simp] noncomputable def ar0 (a:ED):ED:=λσ=>bnd (a σ) λx=>match x with
  | .ref n=>bnd (D3 n) λl=>bnd (X8 l) λm=>alloc (.lst m)
  | _=>stuck
inductive Ty where
 | int | bool | tuple | list
@[simp] noncomputable def ai1 (t:Ty) (v:PV):M Bool:=match t,v with
  | .int,.int _=>ret true
  | .int,.bl _=>ret true
  | .bool,.bl _=>ret true
  | .tuple,.tup _=>ret true
  | .list,.ref n=>bnd (Q6 n) λ_=>ret true
  | _,.ref n=>bnd (Q6 n) λ_=>ret false
  | _,_=>ret false
@[simp] noncomputable def S8 (a:ED) (t:Ty):ED:=λσ=>bnd (a σ) λx=>bnd (ai1 t x) λb=>ret (.bl b)
@[simp] noncomputable def Q3 (f:Nat):List (Nat×PV)->Option PV
  | []=>none
  | (g,u)::r=>if g=f then some u else Q3 f r
@[simp] noncomputable def ae2 (a:ED) (f:Nat):ED:=λσ=>bnd (a σ) λx=>match x with
  | .ref n=>bnd (P9 n) λo=>match Q3 f o.2 with
    | some v=>ret v
    | none=>stuck
  | _=>stuck
@[simp] noncomputable def putFld (f:Nat) (v:PV):List (Nat×PV)->List (Nat×PV)
  | []=>[(f,v)]
  | (g,u)::r=>if g=f then (g,v)::r else (g,u)::putFld f v r
@[simp] noncomputable def sFld (a:ED) (f:Nat) (e:ED):SD:=λσ=>bnd (e σ) λv=>bnd (a σ) λx=>match x with
  | .ref n=>bnd (P9 n) λo=>E3 (o.2.length<900) (bnd (put n (.ins o.1 (putFld f v o.2))) λ_=>ret (.nx σ))
  | _=>stuck
@[simp] noncomputable def L3 (f:Fun) (es:AD):ED:=λσ=>bnd (es σ) f
@[simp] noncomputable def V3 (c:Nat) (init:Fun) (es:AD):ED:=λσ=>bnd (es σ) λvs=>bnd (alloc (.ins c [])) λx=>bnd (init (x::vs)) λ_=>ret x
@[simp] noncomputable def S9 (c:Nat) (f:Fun) (a:ED) (es:AD):ED:=λσ=>bnd (a σ) λx=>match x with
  | .ref n=>bnd (P9 n) λo=>E3 (o.1=c) (bnd (es σ) λvs=>f (x::vs))
  | _=>stuck
@[simp] noncomputable def j9 (a e:ED):ED:=λσ=>bnd (a σ) λx=>match x with
  | .ref n=>bnd (Q6 n) λ_=>bnd (e σ) λv=>bnd (Q6 n) λl=>E3 (l.length<LIM) (bnd (put n (.lst (l++[v]))) λ_=>ret .non)
  | _=>stuck
@[simp] noncomputable def gName (i:Nat):GD:=λv σ=>ret (σ.set i (some v))
noncomputable abbrev GDs:=List PV->PSt->M PSt
@[simp] noncomputable def gNil:GDs:=λvs σ=>match vs with
  | []=>ret σ
  | _=>stuck
@[simp] noncomputable def gCons (g:GD) (r:GDs):GDs:=λvs σ=>match vs with
  | v::w=>bnd (g v σ) λσ'=>r w σ'
  | _=>stuck
@[simp] noncomputable def gTup (n:Nat) (g:GDs):GD:=λv σ=>match v with
  | .tup l=>E3 (l.length=n) (g l σ)
  | _=>stuck
inductive It where
 | rng (lo:Int) (n:Nat) | lst (n:Nat) | tup (l:List PV) | enm (n:Nat)
   | fix (l:List PV)
   | zip (x y:PV)
   | enk (k n:Nat)
noncomputable abbrev ID:=PSt->M It
@[simp] noncomputable def am9 (a:ED):ID:=λσ=>bnd (a σ) λx=>match x with
  | .ref n=>bnd (D3 n) λ_=>ret (.lst n)
  | .tup l=>ret (.tup l)
  | _=>stuck
@[simp] noncomputable def iRng1 (a:ED):ID:=λσ=>bnd (a σ) λx=>match x with
  | .int j=>E3 (-(2 ^ 62)<=j/\j<2 ^ 62) (ret (.rng 0 j.toNat))
  | _=>stuck
@[simp] noncomputable def iRng2 (a b:ED):ID:=λσ=>bnd (a σ) λx=>bnd (b σ) λy=>match x,y with
  | .int i,.int j=>E3 ((-(2 ^ 62)<=i/\i<2 ^ 62)/\-(2 ^ 62)<=j/\j<2 ^ 62) (ret (.rng i (j - i).toNat))
  | _,_=>stuck
@[simp] noncomputable def aZ3 (a:ED):ID:=λσ=>bnd (a σ) λx=>match x with
  | .ref n=>bnd (D3 n) λ_=>ret (.enm n)
  | _=>stuck
@[simp] noncomputable def item (J:It) (i:Nat):M (Option PV):=match J with
  | .rng lo n=>ret (if i<n then some (.int (lo+i)) else none)
  | .lst a=>bnd (D3 a) λl=>ret l[i]?
  | .tup l=>ret l[i]?
  | .enm a=>bnd (D3 a) λl=>ret (l[i]?.map λx=>.tup [.int i,x])
  | .fix l=>ret l[i]?
  | .zip x y=>bnd (L6 x) λl=>bnd (L6 y) λm=>ret (match l[i]?,m[i]? with
    | some u,some v=>some (.tup [u,v])
    | _,_=>none)
  | .enk k a=>bnd (D3 a) λl=>ret (l[i]?.map λx=>.tup [.int ((k+i:Nat):Int),x])
@[simp] noncomputable def W3 (J:It):M Nat:=match J with
  | .rng _ n=>ret n
  | .lst a=>bnd (D3 a) λl=>ret l.length
  | .tup l=>ret l.length
  | .enm a=>bnd (D3 a) λl=>ret l.length
  | .fix l=>ret l.length
  | .zip x _=>bnd (L6 x) λl=>ret l.length
  | .enk _ a=>bnd (D3 a) λl=>ret l.length
@[simp] noncomputable def sPass:SD:=λσ=>ret (.nx σ)
@[simp] noncomputable def E6 (a b:SD):SD:=λσ=>bnd (a σ) λf=>match f with
  | .nx σ'=>b σ'
  | o=>ret o
@[simp] noncomputable def ai2 (e:ED):SD:=λσ=>bnd (e σ) λ_=>ret (.nx σ)
@[simp] noncomputable def K7 (e:ED):SD:=λσ=>bnd (e σ) λv=>ret (.rt v)
@[simp] noncomputable def sIf (t:TD) (a b:SD):SD:=λσ=>bnd (t σ) λc=>if c=true then a σ else b σ
@[simp] noncomputable def V0 (e:ED) (g:GD):SD:=λσ=>bnd (e σ) λv=>bnd (g v σ) λσ'=>ret (.nx σ')
@[simp] noncomputable def sNever:SD:=λ_=>stuck
noncomputable def ao0 (J:It) (g:GD) (body:SD):Nat->Nat->PSt->M Fl
 | 0,_,_=>stuck
 | f+1,i,σ=>bnd (item J i) λx=>match x with
   | none=>ret (.nx σ)
   | some v=>bnd (g v σ) λσ1=>bnd (body σ1) λo=>match o with
     | .nx σ2=>ao0 J g body f (i+1) σ2
     | .ct σ2=>ao0 J g body f (i+1) σ2
     | .bk σ2=>ret (.nx σ2)
     | .rt v=>ret (.rt v)
theorem o1:∃T:It->GD->SD->Nat->Nat->PSt->M Fl,(∀J g body i σ,T J g body 0 i σ=stuck)/\∀J g body f i σ,T J g body (f+1) i σ=bnd (item J i) λx=>match x with
 | none=>ret (.nx σ)
 | some v=>bnd (g v σ) λσ1=>bnd (body σ1) λo=>match o with
   | .nx σ2=>T J g body f (i+1) σ2
   | .ct σ2=>T J g body f (i+1) σ2
   | .bk σ2=>ret (.nx σ2)
   | .rt v=>ret (.rt v):=⟨ao0,λ_ _ _ _ _=>rfl,λ_ _ _ _ _ _=>rfl⟩
noncomputable def Q7:It->GD->SD->Nat->Nat->PSt->M Fl:=Classical.choose o1
theorem o2 (J:It) (g:GD) (body:SD) (i:Nat) (σ:PSt):Q7 J g body 0 i σ=stuck:=(Classical.choose_spec o1).1 J g body i σ
theorem M0 (J:It) (g:GD) (body:SD) (f i:Nat) (σ:PSt):Q7 J g body (f+1) i σ=bnd (item J i) λx=>match x with
 | none=>ret (.nx σ)
 | some v=>bnd (g v σ) λσ1=>bnd (body σ1) λo=>match o with
   | .nx σ2=>Q7 J g body f (i+1) σ2
   | .ct σ2=>Q7 J g body f (i+1) σ2
   | .bk σ2=>ret (.nx σ2)
   | .rt v=>ret (.rt v):=(Classical.choose_spec o1).2 J g body f i σ
@[simp] noncomputable def ai3 (it:ID) (g:GD) (body:SD):SD:=λσ=>bnd (it σ) λJ=>bnd (W3 J) λn=>Q7 J g body (n+1) 0 σ
noncomputable def bst {α:Type} (js:List (Option Nat)) (σ:List (Option α)):List (Option α):=js.map λo=>match o with
 | none=>none
 | some j=>σ.getD j none
noncomputable def ae3 (J:It) (g:GD) (t:TD) (e:ED):Nat->Nat->PSt->M (List PV)
 | 0,_,_=>stuck
 | f+1,i,σ=>bnd (item J i) λx=>match x with
   | none=>ret []
   | some v=>bnd (g v σ) λσ1=>bnd (t σ1) λc=>if c=true then bnd (e σ1) λy=>bnd (ae3 J g t e f (i+1) σ1) λys=>ret (y::ys)
     else ae3 J g t e f (i+1) σ1
theorem d6:∃T:It->GD->TD->ED->Nat->Nat->PSt->M (List PV),(∀J g t e i σ,T J g t e 0 i σ=stuck)/\∀J g t e f i σ,T J g t e (f+1) i σ=bnd (item J i) λx=>match x with
 | none=>ret []
 | some v=>bnd (g v σ) λσ1=>bnd (t σ1) λc=>if c=true then bnd (e σ1) λy=>bnd (T J g t e f (i+1) σ1) λys=>ret (y::ys)
   else T J g t e f (i+1) σ1:=⟨ae3,λ_ _ _ _ _ _=>rfl,λ_ _ _ _ _ _ _=>rfl⟩
noncomputable def T0:It->GD->TD->ED->Nat->Nat->PSt->M (List PV):=Classical.choose d6
theorem i8 (J:It) (g:GD) (t:TD) (e:ED) (i:Nat) (σ:PSt):T0 J g t e 0 i σ=stuck:=(Classical.choose_spec d6).1 J g t e i σ
theorem j0 (J:It) (g:GD) (t:TD) (e:ED) (f i:Nat) (σ:PSt):T0 J g t e (f+1) i σ=bnd (item J i) λx=>match x with
 | none=>ret []
 | some v=>bnd (g v σ) λσ1=>bnd (t σ1) λc=>if c=true then bnd (e σ1) λy=>bnd (T0 J g t e f (i+1) σ1) λys=>ret (y::ys)
   else T0 J g t e f (i+1) σ1:=(Classical.choose_spec d6).2 J g t e f i σ
@[simp] noncomputable def o3:TD:=λ_=>ret true
@[simp] noncomputable def T1 (it:ID) (mk:PSt->PSt) (g:GD) (t:TD) (e:ED):ED:=λσ=>bnd (it σ) λJ=>bnd (W3 J) λn=>bnd (T0 J g t e (n+1) 0 (mk σ)) λys=>E3 (ys.length<=LIM) (alloc (.lst ys))
@[simp] noncomputable def start (n:Nat) (vs:List PV):PSt:=vs.map some++List.replicate (n - vs.length) none
noncomputable def fin (o:Fl):M PV:=match o with
 | .rt v=>ret v
 | .nx _=>ret .non
 | _=>stuck
@[simp] theorem a45 (v:PV):fin (.rt v)=ret v:=rfl
@[simp] theorem a46 (σ:PSt):fin (.nx σ)=ret .non:=rfl
@[simp] noncomputable def fn (n p:Nat) (body:SD):Fun:=λvs=>E3 (vs.length=p) (bnd (body (start n vs)) fin)
end
end Ws
namespace Ws
theorem pre_get {A B:PHp} {n:Nat} {o:PO} (h:A<+:B) (e:A[n]?=some o):B[n]?=some o:=by
 obtain⟨t,rfl⟩:=h
 rw [List.getElem?_append_left (List.getElem?_eq_some_iff.mp e).1];exact e
theorem L7 {A:PHp} {n:Nat} {o:PO} (e:A[n]?=some o):n<A.length:=(List.getElem?_eq_some_iff.mp e).1
theorem m3 {A B:PHp} {n:Nat} {o:PO} (h:A<+:B) (e:A.length<=n):A<+:B.set n o:=by
 obtain⟨t,rfl⟩:=h
 rw [List.set_append_right _ _ e];exact List.prefix_append _ _
theorem Q0 {A B:PHp} {o:PO} (h:A<+:B):A<+:B++[o]:=h.trans (List.prefix_append _ _)
theorem aK0 {A B:PHp} (h:A<+:B):A.length<=B.length:=h.length_le
theorem get_app {A:PHp} {o:PO}:(A++[o])[A.length]?=some o:=by simp
theorem get_app_of {A:PHp} {o p:PO} {n:Nat} (e:A[n]?=some p):(A++[o])[n]?=some p:=pre_get (List.prefix_append _ _) e
theorem get_set_ne {A:PHp} {o:PO} {n m:Nat} (h:m≠n):(A.set n o)[m]?=A[m]?:=by
 rw [List.getElem?_set];simp [Ne.symm h]
theorem get_set {A:PHp} {o p:PO} {n:Nat} (h:A[n]?=some p):(A.set n o)[n]?=some o:=by
 rw [List.getElem?_set];simp [L7 h]
noncomputable def Comes (r:R Fl) (P:PSt->PHp->Prop) (Q:PV->PHp->Prop):Prop:=
 (∃σ A,r=.ok (.nx σ) A/\P σ A)\/∃v A,r=.ok (.rt v) A/\Q v A
noncomputable def Turns (r:R Fl) (P:PSt->PHp->Prop) (Q:PV->PHp->Prop):Prop:=
 (∃σ A,(r=.ok (.nx σ) A\/r=.ok (.ct σ) A)/\P σ A)\/∃v A,r=.ok (.rt v) A/\Q v A
theorem turns_inv {J:It} {g:GD} {body:SD} {n:Nat} (P:Nat->PSt->PHp->Prop) (Q:PV->PHp->Prop)
 (hend:∀σ A,P n σ A->item J n A=.ok none A)
 (hs:∀i σ A,i<n->P i σ A->∃v,item J i A=.ok (some v) A/\Turns (bnd (g v σ) body A) (P (i+1)) Q) :
 ∀k i σ A,i+k=n->P i σ A->Comes (Q7 J g body (k+1) i σ A) (P n) Q
 | 0,i,σ,A,e,h=>by
   obtain rfl:i=n:=by omega
   refine .inl ⟨σ,A,?_,h⟩
   rw [M0,bnd_ok (hend σ A h)];rfl
 | k+1,i,σ,A,e,h=>by
   obtain⟨v,hv,t⟩:=hs i σ A (by omega) h
   have key:Q7 J g body (k+1+1) i σ A=bnd (bnd (g v σ) body) (λo=>match o with
    | .nx σ2=>Q7 J g body (k+1) (i+1) σ2
    | .ct σ2=>Q7 J g body (k+1) (i+1) σ2
    | .bk σ2=>ret (.nx σ2)
    | .rt v=>ret (.rt v)) A:=by
    rw [M0,bnd_ok hv]
    show bnd (g v σ) _ A=_
    unfold bnd
    cases g v σ A <;> rfl
   rw [key]
   rcases t with ⟨σ2,A2,e2,h2⟩ | ⟨u,A2,e2,h2⟩
   ·rcases e2 with e2 | e2 <;> (rw [bnd_ok e2];exact turns_inv P Q hend hs k (i+1) σ2 A2 (by omega) h2)
   ·rw [bnd_ok e2];exact .inr ⟨u,A2,rfl,h2⟩
theorem aK1 {it:ID} {g:GD} {body:SD} {a:Nat} {l:List PV} {σ:PSt} {A A1:PHp} (hi:it σ A=.ok (.enm a) A1) (P:Nat->PSt->PHp->Prop) (Q:PV->PHp->Prop) (h0:P 0 σ A1)
 (hl:∀i σ A,P i σ A->D3 a A=.ok l A)
 (hs:∀(i:Nat) v σ A,l[i]?=some v->P i σ A->Turns (bnd (g (.tup [.int i,v]) σ) body A) (P (i+1)) Q):Comes (ai3 it g body σ A) (P l.length) Q:=by
 show Comes (bnd (it σ) _ A) _ _
 rw [bnd_ok hi]
 show Comes (bnd (bnd (D3 a) _) _ A1) _ _
 rw [bnd_ok (show bnd (D3 a) (λl=>ret l.length) A1=.ok l.length A1 by rw [bnd_ok (hl 0 σ A1 h0)];rfl)]
 refine turns_inv (J:=.enm a) P Q (λσ A h=>?_) (λi σ A hi h=>⟨.tup [.int i,l[i]],?_,hs i _ σ A (by simp [hi]) h⟩) l.length 0 σ A1 (by omega) h0
 ·show bnd (D3 a) _ A=_
  rw [bnd_ok (hl _ _ _ h)];simp
 ·show bnd (D3 a) _ A=_
  rw [bnd_ok (hl _ _ _ h)];simp [hi]
theorem Comes.end {r:R Fl} {P:PSt->PHp->Prop} (h:Comes r P λ_ _=>False):∃σ A,r=.ok (.nx σ) A/\P σ A:=by
 rcases h with h | ⟨_,_,_,h⟩
 ·exact h
 ·exact h.elim
theorem Turns.nx {r:R Fl} {P:PSt->PHp->Prop} {Q:PV->PHp->Prop} {σ:PSt} {A:PHp} (e:r=.ok (.nx σ) A) (h:P σ A):Turns r P Q:=.inl ⟨σ,A,.inl e,h⟩
theorem Comes.mono {r:R Fl} {P P':PSt->PHp->Prop} {Q Q':PV->PHp->Prop} (h:Comes r P Q) (hp:∀σ A,P σ A->P' σ A) (hq:∀v A,Q v A->Q' v A):Comes r P' Q':=by
 rcases h with ⟨σ,A,e,h⟩ | ⟨v,A,e,h⟩
 ·exact .inl ⟨σ,A,e,hp _ _ h⟩
 ·exact .inr ⟨v,A,e,hq _ _ h⟩
theorem ai4 {A:PHp} {o p:PO}:(A++[o]).set A.length p=A++[p]:=by
 rw [List.set_append_right _ _ (Nat.le_refl _)];simp
theorem K0 {A:PHp} {n:Nat} {l:List PV} (h:A[n]?=some (.lst l)):D3 n A=.ok l A:=by
 unfold D3;rw [h]
theorem aw5 {A:PHp} {n:Nat} {l:List PV} (h:A[n]?=some (.lst l)):Q6 n A=.ok l A:=by
 unfold Q6;rw [h]
mutual
theorem ai5:∀x y:PV,R5 x=true->(eqv x y=true↔x=y)
 | .non,y,_=>by cases y <;> simp [eqv]
 | .bl _,_,h=>by simp [R5] at h
 | .int i,y,_=>by cases y <;> simp [eqv]
 | .str s,y,_=>by cases y <;> simp [eqv]
 | .tup l,y,h=>by
   cases y with
   | tup m=>simp only [eqv,PV.tup.injEq];exact U5 l m (by simpa [R5] using h)
   | _=>simp [eqv]
 | .ref _,_,h=>by simp [R5] at h
theorem U5:∀l m:List PV,X7 l=true->(N8 l m=true↔l=m)
 | [],m,_=>by cases m <;> simp [N8]
 | x::xs,m,h=>by
   cases m with
   | nil=>simp [N8]
   | cons y ys=>
     simp only [X7,Bool.and_eq_true] at h
     simp only [N8,Bool.and_eq_true,List.cons.injEq]
     rw [ai5 x y h.1,U5 xs ys h.2]
end
theorem M9 {f:PV->Bool} (h:∀x,f x=true->R5 x=true):∀l:List PV,l.all f=true->X7 l=true
 | [],_=>rfl
 | x::xs,e=>by
   rw [List.all_cons,Bool.and_eq_true] at e
   simp only [X7,Bool.and_eq_true]
   exact⟨h x e.1,M9 h xs e.2⟩
theorem ai6 (x:PV) (h:J1 x=true):R5 x=true:=by cases x <;> simp_all [J1,R5]
theorem aO5 (x:PV) (h:aq9 x=true):R5 x=true:=by
 cases x with
 | tup l=>exact M9 ai6 l h
 | _=>exact ai6 _ h
theorem aO6 (x:PV) (h:n9 x=true):R5 x=true:=by
 cases x with
 | tup l=>exact M9 aO5 l h
 | _=>exact ai6 _ h
theorem R6 (x:PV) (h:plain x=true):R5 x=true:=by
 cases x with
 | tup l=>exact M9 aO6 l h
 | _=>exact ai6 _ h
theorem ar1 (x y:PV) (h:plain x=true):eqv x y=true↔x=y:=ai5 x y (R6 x h)
theorem ai7 (l m:List PV) (h:G8 l=true):N8 l m=true↔l=m:=U5 l m (M9 R6 l h)
theorem W4 (l:List PV):G8 l=true↔∀x∈l,plain x=true:=List.all_eq_true
theorem j3 (ns:List Int):G8 (ns.map .int)=true:=by
 rw [W4];intro x hx;obtain⟨i,_,rfl⟩:=List.mem_map.mp hx;rfl
theorem insBy_perm {α:Type} (lt:α->α->Bool) (a:α):∀l:List α,(V2 lt a l).Perm (a::l)
 | []=>.refl _
 | b::r=>by
   unfold V2
   split
   ·exact ((insBy_perm lt a r).cons b).trans (.swap a b r)
   ·exact .refl _
theorem L4 {α:Type} (lt:α->α->Bool):∀l:List α,(D9 lt l).Perm l
 | []=>.refl _
 | a::r=>(insBy_perm lt a _).trans ((L4 lt r).cons a)
theorem W5 (ns:List Int):K5 (ns.map .int)=some ns:=by
 induction ns with
 | nil=>rfl
 | cons i r ih=>simp [K5,ih]
theorem o4:∀(ts:List (List Int)),(∀t∈ts,t≠[])->N9 (ts.map λt=>PV.tup (t.map .int))=some ts
 | [],_=>rfl
 | t::r,h=>by
   have ih:=o4 r λu hu=>h u (List.mem_cons_of_mem _ hu)
   cases t with
   | nil=>exact absurd rfl (h [] List.mem_cons_self)
   | cons x l=>
     have e:=W5 (x::l)
     simp only [List.map_cons] at e
     simp only [List.map_cons,N9,e,ih]
theorem ae4 {ts:List (List Int)} {A:PHp} (h:ts.length<64) (h0:∀t∈ts,t≠[]):X8 (ts.map λt=>PV.tup (t.map .int)) A=.ok ((D9 D8 ts).map λt=>PV.tup (t.map .int)) A:=by
 unfold X8
 rw [List.length_map,U3 h]
 cases ts with
 | nil=>rfl
 | cons t r=>
   have e:K5 ((t::r).map λt=>PV.tup (t.map .int))=none:=by simp [K5]
   rw [e,o4 _ h0];rfl
theorem X9 {α:Type} {lt:α->α->Bool} (asym:∀a b,lt a b=true->lt b a=false) (tr:∀a b c,lt b a=false->lt c b=false->lt c a=false) (a:α) :
 ∀l:List α,l.Pairwise (λx y=>lt y x=false)->(V2 lt a l).Pairwise (λx y=>lt y x=false)
 | [],_=>by simp [V2]
 | b::r,h=>by
   rw [List.pairwise_cons] at h
   unfold V2
   split
   ·rename_i hb
    rw [List.pairwise_cons]
    refine⟨λc hc=>?_,X9 asym tr a r h.2⟩
    rcases List.mem_cons.mp ((insBy_perm lt a r).mem_iff.mp hc) with rfl | hc
    ·exact asym _ _ hb
    ·exact h.1 c hc
   ·rename_i hb
    have hb':lt b a=false:=by simpa using hb
    rw [List.pairwise_cons]
    refine⟨λc hc=>?_,List.pairwise_cons.mpr h⟩
    rcases List.mem_cons.mp hc with rfl | hc
    ·exact hb'
    ·exact tr a b c hb' (h.1 c hc)
theorem Q4 {α:Type} {lt:α->α->Bool} (asym:∀a b,lt a b=true->lt b a=false) (tr:∀a b c,lt b a=false->lt c b=false->lt c a=false) :
 ∀l:List α,(D9 lt l).Pairwise (λx y=>lt y x=false)
 | []=>by simp [D9]
 | a::r=>X9 asym tr a _ (Q4 asym tr r)
theorem ae5 (l:List Int):(D9 ltI l).Pairwise (·<=·):=by
 refine (Q4 (lt:=ltI) ?_ ?_ l).imp ?_
 ·intro a b h;simp [ltI] at *;omega
 ·intro a b c h1 h2;simp [ltI] at *;omega
 ·intro a b h;simp [ltI] at h;exact h
theorem ab9:∀{l m:List Int},l.Perm m->l.Pairwise (·<=·)->m.Pairwise (·<=·)->l=m
 | [],m,h,_,_=>(List.nil_perm.mp h).symm
 | x::l,[],h,_,_=>absurd h.length_eq (by simp)
 | x::l,y::m,h,h1,h2=>by
   rw [List.pairwise_cons] at h1 h2
   have e:x=y:=by
    have a1:x∈y::m:=h.mem_iff.mp List.mem_cons_self
    have a2:y∈x::l:=h.mem_iff.mpr List.mem_cons_self
    rcases List.mem_cons.mp a1 with e | e
    ·exact e
    ·rcases List.mem_cons.mp a2 with e' | e'
     ·exact e'.symm
     ·have:=h2.1 x e;have:=h1.1 y e';omega
   subst e
   rw [ab9 (List.perm_cons _ |>.mp h) h1.2 h2.2]
theorem d7 {α:Type} {lt:α->α->Bool} (tot:∀a b,lt a b=false->lt b a=false->a=b):∀{l m:List α},l.Perm m->l.Pairwise (λx y=>lt y x=false)->m.Pairwise (λx y=>lt y x=false)->l=m
 | [],m,h,_,_=>(List.nil_perm.mp h).symm
 | x::l,[],h,_,_=>absurd h.length_eq (by simp)
 | x::l,y::m,h,h1,h2=>by
   rw [List.pairwise_cons] at h1 h2
   have e:x=y:=by
    have a1:x∈y::m:=h.mem_iff.mp List.mem_cons_self
    have a2:y∈x::l:=h.mem_iff.mpr List.mem_cons_self
    rcases List.mem_cons.mp a1 with e | e
    ·exact e
    ·rcases List.mem_cons.mp a2 with e' | e'
     ·exact e'.symm
     ·exact tot _ _ (h2.1 x e) (h1.1 y e') |>.symm ▸ rfl
   subst e
   rw [d7 tot (List.perm_cons _ |>.mp h) h1.2 h2.2]
theorem o5:∀a b:List Int,D8 a b=true->D8 b a=false
 | _,[],h=>by simp [D8] at h
 | [],_::_,_=>rfl
 | x::xs,y::ys,h=>by
   simp only [D8] at h ⊢
   by_cases e:x=y
   ·subst e;simp only [if_true] at h ⊢;exact o5 xs ys h
   ·rw [if_neg e] at h;rw [if_neg (Ne.symm e)];simp at h ⊢;omega
theorem m4:∀a b:List Int,D8 a b=false->D8 b a=false->a=b
 | [],[],_,_=>rfl
 | [],_::_,h,_=>by simp [D8] at h
 | _::_,[],_,h=>by simp [D8] at h
 | x::xs,y::ys,h,h'=>by
   simp only [D8] at h h'
   by_cases e:x=y
   ·subst e;simp only [if_true] at h h';rw [m4 xs ys h h']
   ·rw [if_neg e] at h;rw [if_neg (Ne.symm e)] at h';simp at h h';omega
theorem ao1:∀a b c:List Int,D8 b a=false->D8 c b=false->D8 c a=false
 | [],_,_,_,_=>by simp [D8]
 | _::_,[],_,h,_=>by simp [D8] at h
 | _::_,_::_,[],_,h=>by simp [D8] at h
 | x::xs,y::ys,z::zs,h,h'=>by
   simp only [D8] at h h' ⊢
   by_cases e:y=x
   ·subst e
    simp only [if_true] at h
    by_cases e2:z=y
    ·subst e2;simp only [if_true] at h' ⊢;exact ao1 xs ys zs h h'
    ·rw [if_neg e2] at h' ⊢;exact h'
   ·rw [if_neg e] at h
    by_cases e2:z=y
    ·subst e2;rw [if_neg e];exact h
    ·rw [if_neg e2] at h'
     simp at h h'
     rw [if_neg (by omega)];simp;omega
theorem o6 (ts:List (List Int)):(D9 D8 ts).Pairwise (λx y=>D8 y x=false):=Q4 o5 ao1 ts
end Ws
namespace Ws
@[simp] noncomputable def a76 (a:ED):ED:=λσ=>bnd (a σ) λx=>match x with
  | .ref n=>bnd (Q6 n) λl=>match l[l.length - 1]? with
    | some y=>bnd (put n (.lst l.dropLast)) λ_=>ret y
    | none=>stuck
  | _=>stuck
end Ws
namespace Ws
noncomputable def V4:List PV->Option (List Bool)
 | []=>some []
 | .bl b::r=>(V4 r).map (b :: ·)
 | _=>none
@[simp] noncomputable def aC1 (a:ED):ED:=λσ=>bnd (a σ) λx=>match x with
  | .ref n=>bnd (D3 n) λl=>match V4 l with
    | some bs=>ret (.bl (bs.all id))
    | none=>stuck
  | _=>stuck
@[simp] noncomputable def Y0 (a:ED):ED:=λσ=>bnd (a σ) λx=>match x with
  | .ref n=>bnd (D3 n) λl=>E3 (l.length<=LIM) (ret (.tup l))
  | _=>stuck
end Ws
namespace Ws
@[simp] noncomputable def aT4 (a b:ED):ID:=λσ=>bnd (a σ) λx=>bnd (b σ) λy=>bnd (L6 x) λ_=>bnd (L6 y) λ_=>ret (.zip x y)
end Ws
namespace Ws
end Ws
namespace Ws
noncomputable section
end
end Ws
namespace Ws
noncomputable section
end
end Ws
namespace Ws
noncomputable section
end
end Ws
namespace Ws
noncomputable section
noncomputable def N2:PV->Option (List Int)
 | .tup l=>K5 l
 | _=>none
noncomputable def P0 (n:Nat):M (List (List Int×PV)):=λA=>match A[n]? with
 | some (.dT m)=>.ok m A
 | _=>.no
noncomputable def R7:List (List Int×PV)->List Int->Option PV
 | [],_=>none
 | p::r,k=>if p.1=k then some p.2 else R7 r k
noncomputable def V1 (kvs:List (List Int×PV)) (k:List Int) (x:PV):List (List Int×PV):=
 if (kvs.any λp=>decide (p.1=k))=true then kvs.map (λp=>if p.1=k then (p.1,x) else p) else kvs++[(k,x)]
noncomputable def a77 (y d:ED):ED:=λσ=>bnd (y σ) λk=>bnd (d σ) λx=>match N2 k,x with
 | some i,.ref n=>bnd (P0 n) λm=>ret (.bl (R7 m i).isSome)
 | _,_=>stuck
noncomputable def ar2 (d y e:ED):SD:=λσ=>bnd (e σ) λv=>bnd (d σ) λx=>bnd (y σ) λk=>match x,N2 k with
 | .ref n,some i=>bnd (P0 n) λm=>E3 (m.length<LIM) (bnd (put n (.dT (V1 m i v))) λ_=>ret (.nx σ))
 | _,_=>stuck
noncomputable def aC2 (d y:ED):ED:=λσ=>bnd (d σ) λx=>bnd (y σ) λk=>match x,N2 k with
 | .ref n,some i=>bnd (P0 n) λm=>match R7 m i with
   | some v=>ret v
   | none=>stuck
 | _,_=>stuck
noncomputable def ac0:ED:=λ_=>alloc (.dT [])
noncomputable def ao2 (d y:ED):ED:=λσ=>bnd (d σ) λx=>match x with
 | .ref n=>bnd (P0 n) λ_=>bnd (y σ) λk=>match N2 k with
   | some i=>bnd (P0 n) λm=>ret ((R7 m i).getD .non)
   | _=>stuck
 | _=>stuck
end
end Ws
namespace Ws
noncomputable section
noncomputable def small:List (List Int):=((List.range 10).map λa=>(List.range 10).map λb=>[((a:Nat):Int),((b:Nat):Int)]).flatten
noncomputable def a75 (a:ED):ED:=λσ=>bnd (a σ) λx=>match x with
 | .ref n=>bnd (P0 n) λm=>ret (.int m.length)
 | _=>stuck
noncomputable def ao3 (a:ED):ED:=λσ=>bnd (a σ) λx=>match x with
 | .ref n=>bnd (P0 n) λm=>E3 ((m.map (·.1)).Nodup/\∀p∈m,p.1∈small) (alloc (.dT m))
 | _=>stuck
end
end Ws
namespace Ws
noncomputable section
end
end Ws
namespace Ws
noncomputable section
end
end Ws
namespace Ws
noncomputable section
noncomputable def ae6 (y1 d1 y2 d2:ED):ED:=λσ=>bnd (alloc (.dT [])) λx=>bnd (y1 σ) λk1=>bnd (d1 σ) λv1=>bnd (y2 σ) λk2=>bnd (d2 σ) λv2=>match x,N2 k1,N2 k2 with
 | .ref n,some i,some j=>bnd (P0 n) λm=>match m with
   | []=>bnd (put n (.dT (V1 (V1 [] i v1) j v2))) λ_=>ret x
   | _=>stuck
 | _,_,_=>stuck
end
end Ws
namespace Ws
noncomputable section
end
end Ws
namespace Ws
noncomputable section
noncomputable def o7 (x:PV):M Bool:=match x with
 | .str _=>ret true
 | .ref n=>bnd (Q6 n) λ_=>ret false
 | _=>ret false
noncomputable def ae7 (a:ED):ED:=λσ=>bnd (a σ) λx=>bnd (o7 x) λb=>ret (.bl b)
end
end Ws
namespace Ws
noncomputable section
end
end Ws
namespace Ws
noncomputable section
noncomputable def o8 (a:ED):ED:=λσ=>bnd (a σ) λx=>match x with
 | .ref n=>bnd (P0 n) λm=>E3 (m.length<64/\∀p∈m,p.1≠[]) (alloc (.lst ((D9 D8 (m.map (·.1))).map λt=>.tup (t.map .int))))
 | _=>stuck
noncomputable def aT5 (c:Nat):ED:=λ_=>alloc (.ins c [])
noncomputable def ai8 (c k:Nat):Bool:=decide (c=k)||(decide (k=3)&&(decide (c=4)||decide (c=5)))
noncomputable def aw6 (cs:List Nat) (d:ED) (k:Nat):ED:=λσ=>bnd (d σ) λx=>match x with
 | .ref n=>bnd (P9 n) λp=>E3 (p.1∈cs) (ret (.bl (ai8 p.1 k)))
 | _=>stuck
end
end Ws
namespace Ws
noncomputable section
end
end Ws
namespace Ws
noncomputable section
end
end Ws
namespace Ws
noncomputable section
end
end Ws
namespace Ws
open PySem
noncomputable def aT6:Expr->Bool
 | .Starred _ _=>true
 | _=>false
theorem C1 {e:Expr} {es:List Expr} {env:Env} (h:aT6 e=false):starEach (e::es) env=(false,eval e env)::starEach es env:=by
 cases e <;> first | rfl | cases h
mutual
inductive RV (ρ:List Addr) (H:L2.Hp):PV->L2.V->Prop
 | non:RV ρ H .non .non
 | bl (b:Bool):RV ρ H (.bl b) (.bl b)
 | int (i:Int):RV ρ H (.int i) (.int i)
 | str (x:Str):RV ρ H (.str x) (.str x)
 | tup {l:List PV} {a:Addr} {vs:List L2.V} (h:H a=some (.tup vs)) (r:RVs ρ H l vs):RV ρ H (.tup l) (.ref a)
 | ref {n:Nat} {a:Addr} (h:ρ[n]?=some a):RV ρ H (.ref n) (.ref a)
inductive RVs (ρ:List Addr) (H:L2.Hp):List PV->List L2.V->Prop
 | nil:RVs ρ H [] []
 | cons {x:PV} {v:L2.V} {l:List PV} {vs:List L2.V} (h:RV ρ H x v) (r:RVs ρ H l vs):RVs ρ H (x::l) (v::vs)
end
structure Ext (ρ:List Addr) (H:L2.Hp) (ρ':List Addr) (H':L2.Hp):Prop where
 pre:ρ<+:ρ'
 tup:∀a vs,H a=some (.tup vs)->H' a=some (.tup vs)
 xd:∀a fs,H a=some (.xd fs)->H' a=some (.xd fs)
theorem Ext.refl (ρ:List Addr) (H:L2.Hp):Ext ρ H ρ H:=⟨List.prefix_refl _,λ_ _ h=>h,λ_ _ h=>h⟩
theorem Ext.trans {ρ ρ1 ρ2:List Addr} {H H1 H2:L2.Hp} (a:Ext ρ H ρ1 H1) (b:Ext ρ1 H1 ρ2 H2):Ext ρ H ρ2 H2:=⟨a.pre.trans b.pre,λc vs h=>b.tup c vs (a.tup c vs h),λc vs h=>b.xd c vs (a.xd c vs h)⟩
theorem o9 {ρ ρ':List Addr} {n:Nat} {a:Addr} (h:ρ<+:ρ') (e:ρ[n]?=some a):ρ'[n]?=some a:=by
 obtain⟨t,rfl⟩:=h
 rw [List.getElem?_append_left (List.getElem?_eq_some_iff.mp e).1];exact e
section
variable {ρ ρ':List Addr} {H H':L2.Hp}
mutual
theorem RV.mono (e:Ext ρ H ρ' H'):∀{x:PV} {v:L2.V},RV ρ H x v->RV ρ' H' x v
 | _,_,.non=>.non
 | _,_,.bl b=>.bl b
 | _,_,.int i=>.int i
 | _,_,.str x=>.str x
 | _,_,.tup h r=>.tup (e.tup _ _ h) (RVs.mono e r)
 | _,_,.ref h=>.ref (o9 e.pre h)
theorem RVs.mono (e:Ext ρ H ρ' H'):∀{l:List PV} {vs:List L2.V},RVs ρ H l vs->RVs ρ' H' l vs
 | _,_,.nil=>.nil
 | _,_,.cons h r=>.cons (RV.mono e h) (RVs.mono e r)
end
theorem RVs.length:∀{l:List PV} {vs:List L2.V},RVs ρ H l vs->l.length=vs.length
 | _,_,.nil=>rfl
 | _,_,.cons _ r=>by simp [RVs.length r]
theorem RVs.get:∀{l:List PV} {vs:List L2.V} {i:Nat} {x:PV},RVs ρ H l vs->l[i]?=some x->∃v,vs[i]?=some v/\RV ρ H x v
 | _,_,_,_,.nil,e=>by simp at e
 | _,_,0,_,.cons h _,e=>by simp at e;subst e;exact⟨_,rfl,h⟩
 | _,_,i+1,_,.cons _ r,e=>by
   obtain⟨v,h1,h2⟩:=RVs.get (i:=i) r (by simpa using e)
   exact⟨v,by simpa using h1,h2⟩
theorem RVs.get':∀{l:List PV} {vs:List L2.V} {i:Nat} {v:L2.V},RVs ρ H l vs->vs[i]?=some v->∃x,l[i]?=some x/\RV ρ H x v
 | _,_,_,_,.nil,e=>by simp at e
 | _,_,0,_,.cons h _,e=>by simp at e;subst e;exact⟨_,rfl,h⟩
 | _,_,i+1,_,.cons _ r,e=>by
   obtain⟨x,h1,h2⟩:=RVs.get' (i:=i) r (by simpa using e)
   exact⟨x,by simpa using h1,h2⟩
theorem RVs.append:∀{l m:List PV} {vs ws:List L2.V},RVs ρ H l vs->RVs ρ H m ws->RVs ρ H (l++m) (vs++ws)
 | _,_,_,_,.nil,s=>s
 | _,_,_,_,.cons h r,s=>.cons h (RVs.append r s)
theorem RVs.take:∀{l:List PV} {vs:List L2.V} (n:Nat),RVs ρ H l vs->RVs ρ H (l.take n) (vs.take n)
 | _,_,0,_=>by simpa using .nil
 | _,_,_+1,.nil=>.nil
 | _,_,n+1,.cons h r=>.cons h (RVs.take n r)
theorem RVs.drop:∀{l:List PV} {vs:List L2.V} (n:Nat),RVs ρ H l vs->RVs ρ H (l.drop n) (vs.drop n)
 | _,_,0,r=>r
 | _,_,_+1,.nil=>.nil
 | _,_,n+1,.cons _ r=>RVs.drop n r
theorem RVs.ints (ns:List Int):RVs ρ H (ns.map .int) (ns.map .int):=by
 induction ns with
 | nil=>exact .nil
 | cons i r ih=>exact .cons (.int i) ih
end
noncomputable def fnm (i:Nat):Str:=(["number","passings","at","web","leaders","limits","plan","free","ledger","kept_leaders","kept_limits","kept_free","now","turns_of_lays","sayings","first_turns","does","me","open_boxes"]:List Str).getD i "?"
noncomputable def Fz (K:PySem.W.Frag) (H:L2.Hp) (a:Addr) (xs:List L2.V):Prop:=
 (∃o,H a=some (.frz o (.lst xs)))\/∃(o:Obj) (its:Array Value) (n:Nat),K.lookup a=some o/\o.cls=.type "list"/\o.dict=none/\o.data=.seq its n/\its.size<=sizeLine/\L2.Vals xs its.toList
theorem Fz.sq {K:PySem.W.Frag} {H:L2.Hp} {a:Addr} {xs:List L2.V} (h:Fz K H a xs):L2.SqL K H a xs:=by
 rcases h with ⟨o,h⟩ | h
 ·exact .inl (.inr ⟨o,h⟩)
 ·exact .inr h
noncomputable def P1:PO->Bool
 | .ro _=>false
 | _=>true
structure Pairs {κ κ':Type} (f:κ->κ') (ρ:List Addr) (H:L2.Hp) (kvs:List (κ×PV)) (kv:List (κ'×L2.V)):Prop where
 keys:kv.map (·.1)=kvs.map λp=>f p.1
 vals:RVs ρ H (kvs.map (·.2)) (kv.map (·.2))
theorem Pairs.mono {κ κ':Type} {f:κ->κ'} {ρ ρ':List Addr} {H H':L2.Hp} {kvs:List (κ×PV)} {kv:List (κ'×L2.V)} (h:Pairs f ρ H kvs kv) (e:Ext ρ H ρ' H'):Pairs f ρ' H' kvs kv:=⟨h.keys,h.vals.mono e⟩
section
variable (K:PySem.W.Frag) (cm:Nat->Addr)
noncomputable def RO (ρ:List Addr) (H:L2.Hp) (a:Addr):PO->Prop
 | .lst l=>∃xs,H a=some (.lst xs)/\RVs ρ H l xs
 | .ro l=>∃xs,Fz K H a xs/\RVs ρ H l xs
 | .dI kvs=>∃kv,H a=some (.dK kv)/\Pairs (Sum.inl:Int->L2.Key) ρ H kvs kv
 | .ins c fs=>(c<7/\∀p∈fs,p.1<19)/\∃dx kv,H a=some (.ins (cm c) dx kv)/\Pairs fnm ρ H fs kv
 | .dT kvs=>∃kv,H a=some (.dT kv)/\Pairs (List.map Sum.inl:List Int->List L2.Key) ρ H kvs kv
 | .exc c v=>∃o d v',H a=some (.frz o (.own a))/\o.cls=.ref (cm c)/\o.dict=some d/\(∃vs,o.data=.fields vs)/\H d=some (.xd [("at",v')])/\RV ρ H v v'
structure Rel (ρ:List Addr) (A:PHp) (H:L2.Hp):Prop where
 len:ρ.length=A.length
 obj:∀(n:Nat) (o:PO) (a:Addr),A[n]?=some o->ρ[n]?=some a->RO K cm ρ H a o
 inj:∀(m n:Nat) (a:Addr) (o p:PO),ρ[m]?=some a->ρ[n]?=some a->A[m]?=some o->A[n]?=some p->P1 o=true->P1 p=true->m=n
end
section
variable {K:PySem.W.Frag} {cm:Nat->Addr} {ρ ρ':List Addr} {H H':L2.Hp} {A:PHp} {a p:Addr} {o:PO} {n:Nat}
theorem RO.keep (r:RO K cm ρ H a o) (e:Ext ρ H ρ' H') (hk:∀u,H a=some u->H' a=some u):RO K cm ρ' H' a o:=by
 cases o with
 | lst l=>obtain⟨xs,h,q⟩:=r;exact⟨xs,hk _ h,q.mono e⟩
 | ro l=>
   obtain⟨xs,h,q⟩:=r
   rcases h with ⟨u,h⟩ | h
   ·exact⟨xs,.inl ⟨u,hk _ h⟩,q.mono e⟩
   ·exact⟨xs,.inr h,q.mono e⟩
 | dI kvs=>obtain⟨kv,h,q⟩:=r;exact⟨kv,hk _ h,q.mono e⟩
 | ins c fs=>obtain⟨hs,dx,kv,h,q⟩:=r;exact⟨hs,dx,kv,hk _ h,q.mono e⟩
 | dT kvs=>obtain⟨kv,h,q⟩:=r;exact⟨kv,hk _ h,q.mono e⟩
 | exc c v=>obtain⟨o,d,v',h,h1,h2,h3,h4,q⟩:=r;exact⟨o,d,v',hk _ h,h1,h2,h3,e.xd _ _ h4,q.mono e⟩
theorem RO.some (r:RO K cm ρ H a o) (m:P1 o=true):∃u,H a=some u:=by
 cases o with
 | lst l=>obtain⟨xs,h,q⟩:=r;exact⟨_,h⟩
 | ro l=>simp [P1] at m
 | dI kvs=>obtain⟨kv,h,q⟩:=r;exact⟨_,h⟩
 | ins c fs=>obtain⟨_,dx,kv,h,q⟩:=r;exact⟨_,h⟩
 | dT kvs=>obtain⟨kv,h,q⟩:=r;exact⟨_,h⟩
 | exc c v=>obtain⟨o,d,v',h,q⟩:=r;exact⟨_,h⟩
theorem N0 {u:L2.HO} (hp:H p=none):∀b v,H b=some v->L2.upd H p u b=some v:=λb v h=>by
 rw [L2.C9 (L2.E7 h hp)];exact h
theorem Ext.same {u:L2.HO} (hp:H p=none):Ext ρ H ρ (L2.upd H p u):=⟨List.prefix_refl _,λa vs h=>N0 hp a _ h,λa vs h=>N0 hp a _ h⟩
theorem Ext.new {u:L2.HO} (hp:H p=none):Ext ρ H (ρ++[p]) (L2.upd H p u):=⟨List.prefix_append _ _,λa vs h=>N0 hp a _ h,λa vs h=>N0 hp a _ h⟩
theorem Rel.grow (r:Rel K cm ρ A H) (e:Ext ρ H ρ H') (hk:∀b v,H b=some v->H' b=some v):Rel K cm ρ A H':=
 ⟨r.len,λn o a h1 h2=>(r.obj n o a h1 h2).keep e (hk a),r.inj⟩
theorem Rel.tup {vs:List L2.V} (r:Rel K cm ρ A H) (hp:H p=none):Rel K cm ρ A (L2.upd H p (.tup vs)):=r.grow (Ext.same hp) (N0 hp)
theorem Rel.alloc {u:L2.HO} (r:Rel K cm ρ A H) (hp:H p=none) (hn:RO K cm (ρ++[p]) (L2.upd H p u) p o) (hm:P1 o=true):Rel K cm (ρ++[p]) (A++[o]) (L2.upd H p u):=by
 have e:Ext ρ H (ρ++[p]) (L2.upd H p u):=Ext.new hp
 have none_new:∀(n:Nat) (q:PO),ρ[n]?=some p->A[n]?=some q->P1 q=true->False:=λn q h1 h2 hq=>by
  obtain⟨v,hv⟩:=(r.obj n q p h2 h1).some hq
  rw [hp] at hv;cases hv
 have split:∀{α:Type} {l:List α} {x y:α} {n:Nat},(l++[x])[n]?=some y->l[n]?=some y\/(n=l.length/\y=x):=λ{α l x y n} h=>by
  by_cases hn:n<l.length
  ·rw [List.getElem?_append_left hn] at h;exact .inl h
  ·rw [List.getElem?_append_right (by omega)] at h
   have:n - l.length=0:=by
    by_cases z:n - l.length=0
    ·exact z
    ·rw [List.getElem?_eq_none (by simp;omega)] at h;cases h
   rw [this] at h
   simp at h
   exact .inr ⟨by omega,h.symm⟩
 refine⟨by simp [r.len],λn q a h1 h2=>?_,λm n a q q' h1 h2 h3 h4 m1 m2=>?_⟩
 ·rcases split h1 with h1 | ⟨rfl,rfl⟩
  ·rcases split h2 with h2 | ⟨rfl,rfl⟩
   ·exact (r.obj n q a h1 h2).keep e (N0 hp a)
   ·rw [r.len,List.getElem?_eq_none (Nat.le_refl _)] at h1;cases h1
  ·rcases split h2 with h2 | ⟨_,rfl⟩
   ·rw [←r.len,List.getElem?_eq_none (Nat.le_refl _)] at h2;cases h2
   ·exact hn
 ·rcases split h1 with g1 | ⟨rfl,ha1⟩ <;> rcases split h2 with g2 | ⟨rfl,ha2⟩
  ·have h3':A[m]?=some q:=by
    rcases split h3 with h3 | ⟨rfl,_⟩
    ·exact h3
    ·rw [←r.len,List.getElem?_eq_none (Nat.le_refl _)] at g1;cases g1
   have h4':A[n]?=some q':=by
    rcases split h4 with h4 | ⟨rfl,_⟩
    ·exact h4
    ·rw [←r.len,List.getElem?_eq_none (Nat.le_refl _)] at g2;cases g2
   exact r.inj m n a q q' g1 g2 h3' h4' m1 m2
  ·have h3':A[m]?=some q:=by
    rcases split h3 with h3 | ⟨rfl,_⟩
    ·exact h3
    ·rw [←r.len,List.getElem?_eq_none (Nat.le_refl _)] at g1;cases g1
   rw [ha2] at g1
   exact (none_new m q g1 h3' m1).elim
  ·have h4':A[n]?=some q':=by
    rcases split h4 with h4 | ⟨rfl,_⟩
    ·exact h4
    ·rw [←r.len,List.getElem?_eq_none (Nat.le_refl _)] at g2;cases g2
   rw [ha1] at g2
   exact (none_new n q' g2 h4' m2).elim
  ·rfl
theorem Ext.put {u:L2.HO} (r:Rel K cm ρ A H) (h1:ρ[n]?=some a) (h2:A[n]?=some o) (m:P1 o=true):Ext ρ H ρ (L2.upd H a u):=by
 have key:∀b w,H b=some w->((∃vs,w=.tup vs)\/∃fs,w=.xd fs)->L2.upd H a u b=some w:=λb w h hw=>by
  have ne:b≠a:=by
   rintro rfl
   have q:=r.obj n o b h2 h1
   cases o with
   | lst l=>obtain⟨xs,z,_⟩:=q;rw [h] at z;cases z;rcases hw with ⟨_,y⟩ | ⟨_,y⟩ <;> cases y
   | ro l=>simp [P1] at m
   | dI kvs=>obtain⟨xs,z,_⟩:=q;rw [h] at z;cases z;rcases hw with ⟨_,y⟩ | ⟨_,y⟩ <;> cases y
   | ins c fs=>obtain⟨_,dx,xs,z,_⟩:=q;rw [h] at z;cases z;rcases hw with ⟨_,y⟩ | ⟨_,y⟩ <;> cases y
   | dT kvs=>obtain⟨xs,z,_⟩:=q;rw [h] at z;cases z;rcases hw with ⟨_,y⟩ | ⟨_,y⟩ <;> cases y
   | exc c v=>obtain⟨o,d,v',z,_⟩:=q;rw [h] at z;cases z;rcases hw with ⟨_,y⟩ | ⟨_,y⟩ <;> cases y
  rw [L2.C9 ne];exact h
 exact⟨List.prefix_refl _,λb vs h=>key b _ h (.inl ⟨_,rfl⟩),λb vs h=>key b _ h (.inr ⟨_,rfl⟩)⟩
theorem Rel.put {u:L2.HO} {o':PO} (r:Rel K cm ρ A H) (h1:ρ[n]?=some a) (h2:A[n]?=some o) (m:P1 o=true) (m':P1 o'=true) (hn:RO K cm ρ (L2.upd H a u) a o'):Rel K cm ρ (A.set n o') (L2.upd H a u):=by
 have e:Ext ρ H ρ (L2.upd H a u):=Ext.put r h1 h2 m
 have hlt:=L7 h2
 refine⟨by simp [r.len],λk q b hk hb=>?_,λi j b q q' e1 e2 e3 e4 m1 m2=>?_⟩
 ·by_cases hkn:k=n
  ·subst hkn
   rw [get_set h2] at hk;cases hk
   rw [h1] at hb;cases hb
   exact hn
  ·rw [get_set_ne hkn] at hk
   have q0:=r.obj k q b hk hb
   by_cases hba:b=a
   ·subst hba
    cases hq:P1 q with
    | true=>exact absurd (r.inj k n b q o hb h1 hk h2 hq m) hkn
    | false=>
      cases q with
      | ro l=>
        obtain⟨xs,z,w⟩:=q0
        rcases z with ⟨v,z⟩ | z
        ·obtain⟨v',z'⟩:=(r.obj n o b h2 h1).some m
         have:=r.obj n o b h2 h1
         rw [z] at z';cases z'
         cases o with
         | lst l=>obtain⟨xs,zz,_⟩:=this;rw [z] at zz;cases zz
         | ro l=>simp [P1] at m
         | dI kvs=>obtain⟨xs,zz,_⟩:=this;rw [z] at zz;cases zz
         | ins c fs=>obtain⟨_,dx,xs,zz,_⟩:=this;rw [z] at zz;cases zz
         | dT kvs=>obtain⟨xs,zz,_⟩:=this;rw [z] at zz;cases zz
         | exc c v=>obtain⟨o,d,v',zz,_⟩:=this;rw [z] at zz;cases zz
        ·exact⟨xs,.inr z,w.mono e⟩
      | _=>simp [P1] at hq
   ·exact q0.keep e λv hv=>by rw [L2.C9 hba];exact hv
 ·have f3:∀(k:Nat) (x:PO),(A.set n o')[k]?=some x->P1 x=true->∃y,A[k]?=some y/\P1 y=true:=λk x hk hx=>by
   by_cases hkn:k=n
   ·subst hkn;exact⟨o,h2,m⟩
   ·rw [get_set_ne hkn] at hk;exact⟨x,hk,hx⟩
  obtain⟨y,y1,y2⟩:=f3 i q e3 m1
  obtain⟨z,z1,z2⟩:=f3 j q' e4 m2
  exact r.inj i j b y z e1 e2 y1 z1 y2 z2
end
end Ws
namespace Ws
open PySem
structure RSt (ρ:List Addr) (H:L2.Hp) (σp:PSt) (σ:L2.St):Prop where
 len:σ.length=σp.length
 get:∀(i:Nat) (p:PV),σp[i]?=some (some p)->∃v,σ[i]?=some (some v)/\RV ρ H p v
theorem RSt.mono {ρ ρ':List Addr} {H H':L2.Hp} {σp:PSt} {σ:L2.St} (h:RSt ρ H σp σ) (e:Ext ρ H ρ' H'):RSt ρ' H' σp σ:=
 ⟨h.len,λi p hp=>let ⟨v,h1,h2⟩:=h.get i p hp;⟨v,h1,h2.mono e⟩⟩
theorem RSt.set {ρ:List Addr} {H:L2.Hp} {σp:PSt} {σ:L2.St} (h:RSt ρ H σp σ) (i:Nat) {x:PV} {v:L2.V} (r:RV ρ H x v):RSt ρ H (σp.set i (some x)) (σ.set i (some v)):=by
 refine⟨by simp [h.len],λj p hp=>?_⟩
 by_cases hij:i=j
 ·subst hij
  by_cases hl:i<σp.length
  ·rw [List.getElem?_set] at hp
   simp [hl] at hp
   subst hp
   exact⟨v,by rw [List.getElem?_set];simp [h.len,hl],r⟩
  ·rw [List.getElem?_eq_none (by simp;omega)] at hp;cases hp
 ·rw [List.getElem?_set_ne hij] at hp ⊢
  exact h.get j p hp
section
variable (K:PySem.W.Frag) (cm:Nat->Addr)
noncomputable def EvE (d:ED):L2.TE:=λσ H Q=>∃(ρ:List Addr) (A:PHp) (σp:PSt) (v:PV) (A':PHp),Rel K cm ρ A H/\RSt ρ H σp σ/\d σp A=.ok v A'/\
 ∀ρ' H' v',Ext ρ H ρ' H'->Rel K cm ρ' A' H'->RV ρ' H' v v'->Q v' H'
noncomputable def EvT (d:TD):L2.TT:=λσ H Q=>∃(ρ:List Addr) (A:PHp) (σp:PSt) (b:Bool) (A':PHp),Rel K cm ρ A H/\RSt ρ H σp σ/\d σp A=.ok b A'/\
 ∀ρ' H',Ext ρ H ρ' H'->Rel K cm ρ' A' H'->Q b H'
noncomputable def EvA (d:AD):L2.TA:=λσ H Q=>∃(ρ:List Addr) (A:PHp) (σp:PSt) (vs:List PV) (A':PHp),Rel K cm ρ A H/\RSt ρ H σp σ/\d σp A=.ok vs A'/\
 ∀ρ' H' vs',Ext ρ H ρ' H'->Rel K cm ρ' A' H'->RVs ρ' H' vs vs'->Q vs' H'
noncomputable def EvG (g:GD):L2.TG:=λv σ H Q=>∃(ρ:List Addr) (A:PHp) (σp:PSt) (x:PV) (σp':PSt) (A':PHp),Rel K cm ρ A H/\RSt ρ H σp σ/\RV ρ H x v/\g x σp A=.ok σp' A'/\
 ∀ρ' H' σ',Ext ρ H ρ' H'->Rel K cm ρ' A' H'->RSt ρ' H' σp' σ'->Q σ' H'
noncomputable def aK2 (g:GDs):L2.TGs:=λvs σ H Q=>∃(ρ:List Addr) (A:PHp) (σp:PSt) (xs:List PV) (σp':PSt) (A':PHp),Rel K cm ρ A H/\RSt ρ H σp σ/\RVs ρ H xs vs/\g xs σp A=.ok σp' A'/\
 ∀ρ' H' σ',Ext ρ H ρ' H'->Rel K cm ρ' A' H'->RSt ρ' H' σp' σ'->Q σ' H'
noncomputable def a47 (D:L2.al7) (ρ:List Addr) (H:L2.Hp):Fl->Prop
 | .nx σp=>∀σ,RSt ρ H σp σ->D.nx σ H
 | .bk σp=>∀σ,RSt ρ H σp σ->D.bk σ H
 | .ct σp=>∀σ,RSt ρ H σp σ->D.ct σ H
 | .rt v=>∀v',RV ρ H v v'->D.rt v' H
noncomputable def EvS (s:SD):L2.TS:=λD σ H=>∃(ρ:List Addr) (A:PHp) (σp:PSt) (f:Fl) (A':PHp),Rel K cm ρ A H/\RSt ρ H σp σ/\s σp A=.ok f A'/\
 ∀ρ' H',Ext ρ H ρ' H'->Rel K cm ρ' A' H'->a47 D ρ' H' f
end
section
variable {X:L2.Cx} {cm:Nat->Addr}
theorem D2 {e:Expr} {t t':L2.TE} (h:L2.PE X e t) (k:∀σ H Q,t' σ H Q->t σ H Q):L2.PE X e t':=λpins s σ H Q I q=>h pins s σ H Q I (k σ H Q q)
theorem p6 {e:Expr} {t t':L2.TT} (h:L2.PT X e t) (k:∀σ H Q,t' σ H Q->t σ H Q):L2.PT X e t':=λpins s σ H Q I q=>h pins s σ H Q I (k σ H Q q)
theorem aT7 {e:Expr} {t t':L2.TT} (h:L2.PW X e t) (k:∀σ H Q,t' σ H Q->t σ H Q):L2.PW X e t':=λw pins s σ H Q I q=>h w pins s σ H Q I (k σ H Q q)
theorem aC3 {es:List Expr} {t t':L2.TA} (h:L2.PA X es t) (k:∀σ H Q,t' σ H Q->t σ H Q):L2.PA X es t':=λpos pins s σ H Q I q=>h pos pins s σ H Q I (k σ H Q q)
theorem T2 {st:Stmt} {t t':L2.TS} (h:L2.PS X st t) (k:∀D σ H,t' D σ H->t D σ H):L2.PS X st t':=λpins s σ H D I q=>h pins s σ H D I (k D σ H q)
theorem ar3 {st:List Stmt} {t t':L2.TS} (h:L2.PSs X st t) (k:∀D σ H,t' D σ H->t D σ H):L2.PSs X st t':=λpins s σ H D I q=>h pins s σ H D I (k D σ H q)
theorem aC4 {e:Expr} {t t':L2.TG} (h:L2.PG X e t) (k:∀v σ H Q,t' v σ H Q->t v σ H Q):L2.PG X e t':=λpins s σ H v u Q I r q=>h pins s σ H v u Q I r (k v σ H Q q)
theorem ar4 {es:List Expr} {t t':L2.TGs} (h:L2.PGs X es t) (k:∀v σ H Q,t' v σ H Q->t v σ H Q):L2.PGs X es t':=λpins s σ H vs us Q I r q=>h pins s σ H vs us Q I r (k vs σ H Q q)
theorem r_var {i:Nat} {e:Expr} (h:L2.PE X e (L2.aP7 i)):L2.PE X e (EvE X.K cm (eVar i)):=D2 h λσ H Q ⟨ρ,A,σp,v,A',r,rs,ev,k⟩=>by
 have:∃p,σp[i]?=some (some p)/\v=p/\A'=A:=by
  unfold eVar at ev
  rcases hσ:σp[i]? with _ | (_ | p)
  ·rw [hσ] at ev;cases ev
  ·rw [hσ] at ev;cases ev
  ·rw [hσ] at ev;cases ev;exact⟨_,rfl,rfl,rfl⟩
 obtain⟨p,hp,rfl,rfl⟩:=this
 obtain⟨u,h1,h2⟩:=rs.get i _ hp
 exact⟨u,h1,k ρ H u (Ext.refl _ _) r h2⟩
theorem r_k {e:Expr} {x:PV} {u:L2.V} (h:L2.PE X e (L2.tC u)) (rv:∀ρ H,RV ρ H x u):L2.PE X e (EvE X.K cm (eK x)):=D2 h λσ H Q ⟨ρ,A,σp,v,A',r,rs,ev,k⟩=>by
 cases ev
 exact k ρ H u (Ext.refl _ _) r (rv ρ H)
theorem r_int {i:Int} {j pos}:L2.PE X (.Constant (.int i) j pos) (EvE X.K cm (eK (.int i))):=r_k L2.az3 λ_ _=>.int i
theorem ae8 {b:Bool} {j pos}:L2.PE X (.Constant (.bool b) j pos) (EvE X.K cm (eK (.bl b))):=r_k L2.aX1 λ_ _=>.bl b
theorem aZ4 {j pos}:L2.PE X (.Constant .none j pos) (EvE X.K cm (eK .non)):=r_k L2.aP9 λ_ _=>.non
noncomputable def Q8 (K:PySem.W.Frag) (cm:Nat->Addr) (f:OD) (r:L2.R2):Prop:=∀ρ A H x y z A' vx vy (Q:L2.VK),Rel K cm ρ A H->RV ρ H x vx->RV ρ H y vy->f x y A=.ok z A'->
 (∀ρ' H' v',Ext ρ H ρ' H'->Rel K cm ρ' A' H'->RV ρ' H' z v'->Q v' H')->r vx vy H Q
theorem ae9 {f:OD} {r:L2.R2} {a b:ED} (hf:Q8 X.K cm f r) {σ:L2.St} {H:L2.Hp} {Q:L2.VK} (h:EvE X.K cm (I9 f a b) σ H Q):L2.tOp r (EvE X.K cm a) (EvE X.K cm b) σ H Q:=by
 obtain⟨ρ,A,σp,z,A',rl,rs,ev,k⟩:=h
 obtain⟨x,A1,e1,ev⟩:=B0 ev
 obtain⟨y,A2,e2,ev⟩:=B0 ev
 exact⟨ρ,A,σp,x,A1,rl,rs,e1,λρ1 H1 vx x1 rl1 rv1=>⟨ρ1,A1,σp,y,A2,rl1,rs.mono x1,e2,λρ2 H2 vy x2 rl2 rv2=>hf ρ2 A2 H2 x y z A' vx vy Q rl2 (rv1.mono x2) rv2 ev λρ3 H3 v3 x3 rl3 rv3=>k ρ3 H3 v3 ((x1.trans x2).trans x3) rl3 rv3⟩⟩
theorem p7 {op:Operator} {f:OD} {r:L2.R2} {a b:Expr} {da db:ED} {pos:Pos} (ho:L2.OpR X (binaryOp op) r) (hf:Q8 X.K cm f r) (ha:L2.PE X a (EvE X.K cm da)) (hb:L2.PE X b (EvE X.K cm db)):L2.PE X (.BinOp a op b pos) (EvE X.K cm (I9 f da db)):=
 D2 (L2.aY0 ho ha hb) λσ H Q h=>ae9 hf h
theorem ac1 {op:CmpOp} {f:OD} {r:L2.R2} {a b:Expr} {da db:ED} {pos:Pos} (ho:L2.OpR X (compareOp op) r) (hf:Q8 X.K cm f r) (ha:L2.PE X a (EvE X.K cm da)) (hb:L2.PE X b (EvE X.K cm db)) (hm:behindInMarks op b=false):L2.PE X (.Compare a [op] [b] pos) (EvE X.K cm (I9 f da db)):=
 D2 (L2.aI6 ho ha hb hm) λσ H Q h=>ae9 hf h
theorem m5 {d:ED} {t:L2.TE} (h:∀σ H Q,EvE X.K cm d σ H Q->t σ H Q) {σ:L2.St} {H:L2.Hp} {Q:Bool->L2.Hp->Prop} (q:EvT X.K cm (J2 d) σ H Q):L2.aN8 t σ H Q:=by
 obtain⟨ρ,A,σp,b,A',rl,rs,ev,k⟩:=q
 obtain⟨x,A1,e1,ev⟩:=B0 ev
 refine h σ H _ ⟨ρ,A,σp,x,A1,rl,rs,e1,λρ1 H1 v1 x1 rl1 rv1=>?_⟩
 cases x with
 | bl c=>
   cases ev
   cases rv1
   exact⟨_,rfl,k ρ1 H1 x1 rl1⟩
 | _=>cases ev
theorem M2 {op:CmpOp} {f:OD} {r:L2.R2} {a b:Expr} {da db:ED} {pos:Pos} (ho:L2.OpR X (compareOp op) r) (hf:Q8 X.K cm f r) (ha:L2.PE X a (EvE X.K cm da)) (hb:L2.PE X b (EvE X.K cm db)) (hm:behindInMarks op b=false):L2.PT X (.Compare a [op] [b] pos) (EvT X.K cm (J2 (I9 f da db))):=
 p6 (L2.aI7 ho ha hb hm) λσ H Q h=>m5 (λ_ _ _=>ae9 hf) h
theorem K6 {e:Expr} {d:ED} (h:L2.PE X e (EvE X.K cm d)) (he:∀whole,isTrue e X.env whole=(do let v ←whole;standAt e.pos;holding [v] (truthy v)):=by intro _;rfl):L2.PT X e (EvT X.K cm (J2 d)):=
 p6 (L2.aQ2 h he) λσ H Q q=>m5 (λ_ _ _ z=>z) q
theorem okI {f:OD} {g:Int->Int->PV} {g':Int->Int->L2.V} {C:Int->Int->Prop} (h:∀x y A z A',f x y A=.ok z A'->∃i j,x=.int i/\y=.int j/\C i j/\z=g i j/\A'=A) (hg:∀ρ H i j,RV ρ H (g i j) (g' i j)) (K:PySem.W.Frag) (cm:Nat->Addr):Q8 K cm f (L2.rI C g'):=
 λρ A H x y z A' vx vy Q rl rx ry ev k=>by
  obtain⟨i,j,rfl,rfl,hc,rfl,rfl⟩:=h _ _ _ _ _ ev
  cases rx;cases ry
  exact⟨i,j,rfl,rfl,hc,k ρ H _ (Ext.refl _ _) rl (hg _ _ _ _)⟩
theorem aT8 {f:OD} {g:Int->Int->PV} {g':Int->Int->L2.V} (h:∀x y A z A',f x y A=.ok z A'->∃i j,x=.int i/\y=.int j/\z=g i j/\A'=A) (hg:∀ρ H i j,RV ρ H (g i j) (g' i j)) (K:PySem.W.Frag) (cm:Nat->Addr):Q8 K cm f (L2.rI0 g'):=
 λρ A H x y z A' vx vy Q rl rx ry ev k=>by
  obtain⟨i,j,rfl,rfl,rfl,rfl⟩:=h _ _ _ _ _ ev
  cases rx;cases ry
  exact⟨i,j,rfl,rfl,k ρ H _ (Ext.refl _ _) rl (hg _ _ _ _)⟩
theorem aC5:Q8 X.K cm oLt (L2.rI0 λi j=>.bl (decide (i<j))):=aT8 (g:=λi j=>.bl (decide (i<j))) (λx y A z A' h=>by cases x <;> cases y <;> first | (cases h;exact⟨_,_,rfl,rfl,rfl,rfl⟩) | cases h) (λ_ _ _ _=>.bl _) _ _
theorem aC6:Q8 X.K cm oLe (L2.rI0 λi j=>.bl (decide (i<=j))):=aT8 (g:=λi j=>.bl (decide (i<=j))) (λx y A z A' h=>by cases x <;> cases y <;> first | (cases h;exact⟨_,_,rfl,rfl,rfl,rfl⟩) | cases h) (λ_ _ _ _=>.bl _) _ _
theorem aZ5:Q8 X.K cm oGe (L2.rI0 λi j=>.bl (decide (j<=i))):=aT8 (g:=λi j=>.bl (decide (j<=i))) (λx y A z A' h=>by cases x <;> cases y <;> first | (cases h;exact⟨_,_,rfl,rfl,rfl,rfl⟩) | cases h) (λ_ _ _ _=>.bl _) _ _
theorem ao4:Q8 X.K cm aB9 (L2.rI (λ_ j=>0<j) λi j=>.int (i%j)):=okI (g:=λi j=>.int (i%j)) (λx y A z A' h=>by
 cases x <;> cases y <;> first | (obtain⟨c,h⟩:=C6 h;cases h;exact⟨_,_,rfl,rfl,c,rfl,rfl⟩) | cases h) (λ_ _ _ _=>.int _) _ _
theorem aK3:Q8 X.K cm aC0 (L2.rI L2.aY2 λi j=>.int (i / j)):=okI (g:=λi j=>.int (i / j)) (λx y A z A' h=>by
 cases x <;> cases y <;> first | (obtain⟨c,h⟩:=C6 h;cases h;exact⟨_,_,rfl,rfl,c,rfl,rfl⟩) | cases h) (λ_ _ _ _=>.int _) _ _
end
end Ws
namespace Ws
open PySem
section
variable {K:PySem.W.Frag} {ρ:List Addr} {H:L2.Hp} {A:PHp} {n:Nat} {v:L2.V} {l:List PV}
theorem G9 {cm:Nat->Addr} {A':PHp} (rl:Rel K cm ρ A H) (r:RV ρ H (.ref n) v) (h:D3 n A=.ok l A'):A'=A/\∃a xs,v=.ref a/\L2.SqL K H a xs/\RVs ρ H l xs:=by
 cases r with
 | ref hn=>
   unfold D3 at h
   rcases hA:A[n]? with _ | o
   ·rw [hA] at h;cases h
   ·have q:=rl.obj n o _ hA hn
    cases o with
    | lst m=>rw [hA] at h;cases h;obtain⟨xs,h1,h2⟩:=q;exact⟨rfl,_,xs,rfl,L2.SqL.of h1,h2⟩
    | ro m=>rw [hA] at h;cases h;obtain⟨xs,h1,h2⟩:=q;exact⟨rfl,_,xs,rfl,h1.sq,h2⟩
    | dI m=>rw [hA] at h;cases h
    | ins c m=>rw [hA] at h;cases h
    | dT m=>rw [hA] at h;cases h
    | exc c m=>rw [hA] at h;cases h
theorem Q9 {cm:Nat->Addr} {A':PHp} (rl:Rel K cm ρ A H) (r:RV ρ H (.ref n) v) (h:Q6 n A=.ok l A'):A'=A/\A[n]?=some (.lst l)/\∃a xs,v=.ref a/\ρ[n]?=some a/\H a=some (.lst xs)/\RVs ρ H l xs:=by
 cases r with
 | ref hn=>
   unfold Q6 at h
   rcases hA:A[n]? with _ | o
   ·rw [hA] at h;cases h
   ·have q:=rl.obj n o _ hA hn
    cases o with
    | lst m=>rw [hA] at h;cases h;obtain⟨xs,h1,h2⟩:=q;exact⟨rfl,rfl,_,xs,rfl,hn,h1,h2⟩
    | ro m=>rw [hA] at h;cases h
    | dI m=>rw [hA] at h;cases h
    | ins c m=>rw [hA] at h;cases h
    | dT m=>rw [hA] at h;cases h
    | exc c m=>rw [hA] at h;cases h
theorem p8 {cm:Nat->Addr} {c:Nat} {fs:List (Nat×PV)} {a:Addr} (rl:Rel K cm ρ A H) (hA:A[n]?=some (.ins c fs)) (hn:ρ[n]?=some a):c<7:=(rl.obj n _ _ hA hn).1.1
theorem Y1 {cm:Nat->Addr} {A':PHp} {o:Nat×List (Nat×PV)} (rl:Rel K cm ρ A H) (r:RV ρ H (.ref n) v) (h:P9 n A=.ok o A'):A'=A/\A[n]?=some (.ins o.1 o.2)/\∃a dx kv,v=.ref a/\ρ[n]?=some a/\H a=some (.ins (cm o.1) dx kv)/\Pairs fnm ρ H o.2 kv/\∀p∈o.2,p.1<19:=by
 cases r with
 | ref hn=>
   unfold P9 at h
   rcases hA:A[n]? with _ | o
   ·rw [hA] at h;cases h
   ·have q:=rl.obj n o _ hA hn
    cases o with
    | lst m=>rw [hA] at h;cases h
    | ro m=>rw [hA] at h;cases h
    | dI m=>rw [hA] at h;cases h
    | ins c m=>rw [hA] at h;cases h;obtain⟨hs,dx,kv,h1,h2⟩:=q;exact⟨rfl,rfl,_,dx,kv,rfl,hn,h1,h2,hs.2⟩
    | dT m=>rw [hA] at h;cases h
    | exc c m=>rw [hA] at h;cases h
theorem Y2 {cm:Nat->Addr} {x:PV} {A':PHp} (rl:Rel K cm ρ A H) (r:RV ρ H x v) (h:L6 x A=.ok l A'):A'=A/\∃a xs,v=.ref a/\(L2.SqL K H a xs\/L2.SqT K H a xs)/\RVs ρ H l xs:=by
 cases x with
 | ref n=>
   obtain⟨e,a,xs,h1,h2,h3⟩:=G9 rl r h
   exact⟨e,a,xs,h1,.inl h2,h3⟩
 | tup m=>
   cases h
   cases r with
   | tup h1 h2=>exact⟨rfl,_,_,rfl,.inr (L2.SqT.of h1),h2⟩
 | _=>cases h
theorem aT9 {α:Type} (xs:List α) (i:Int):L2.atI xs i=atI xs i:=rfl
theorem RVs.at {xs:List L2.V} {i:Int} {x:PV} (r:RVs ρ H l xs) (h:atI l i=some x):∃u,L2.atI xs i=some u/\RV ρ H x u:=by
 rw [aT9]
 unfold atI at h ⊢
 rw [←r.length]
 rcases e:ixN l.length i with _ | j
 ·rw [e] at h;cases h
 ·rw [e] at h
  obtain⟨u,h1,h2⟩:=r.get (i:=j) h
  exact⟨u,h1,h2⟩
theorem Y3 (n d:Nat) (o:Option Int):HT.sIx n d o=M8 n d o:=by
 cases o with
 | none=>rfl
 | some v=>
   have e:=HT.clip_eq v n d
   show HT.sIx n d (some v)=if v<0 then (max (v+n) 0).toNat else (min v n).toNat
   by_cases h:v<0
   ·rw [if_pos h] at e ⊢;omega
   ·rw [if_neg h] at e ⊢;omega
theorem RVs.slc {xs:List L2.V} (r:RVs ρ H l xs) (lo hi:Option Int):RVs ρ H (cut l lo hi) (L2.ad5 xs lo hi):=by
 unfold cut L2.ad5
 rw [Y3,Y3,←r.length]
 exact (r.drop _).take _
end
theorem R0 {n:Nat} (h:n<=LIM):n<=sizeLine:=Nat.le_trans h (by unfold LIM;rw [sizeLine_eq];decide)
theorem aC7 {n:Nat} (h:n<LIM):n<sizeLine:=Nat.lt_of_lt_of_le h (by unfold LIM;rw [sizeLine_eq];decide)
section
variable {X:L2.Cx} {cm:Nat->Addr}
noncomputable def aO7 (K:PySem.W.Frag):L2.R2:=λx y H Q=>(∃i j,x=.int i/\y=.int j/\Q (.int (i+j)) H)\/(L2.aO2 K x y H Q\/L2.rCat x y H Q)
theorem af0:L2.OpR X (binaryOp .Add) (aO7 X.K):=L2.op_add.or (L2.op_catT.or L2.aS5)
theorem ao5:Q8 X.K cm aB8 (aO7 X.K):=λρ A H x y z A' vx vy Q rl rx ry ev k=>by
 cases x with
 | int i=>
   cases y with
   | int j=>cases ev;cases rx;cases ry;exact .inl ⟨i,j,rfl,rfl,k ρ H _ (Ext.refl _ _) rl (.int _)⟩
   | _=>cases ev
 | tup l=>
   cases y with
   | tup m=>
     obtain⟨c,ev⟩:=C6 ev
     cases ev
     cases rx with
     | tup h1 r1=>
       cases ry with
       | tup h2 r2=>
         refine .inr (.inl ⟨_,_,_,_,rfl,rfl,L2.SqT.of h1,L2.SqT.of h2,?_,?_,?_⟩)
         ·intro e;subst e;have:=r1.length;exact c.1 (List.length_eq_zero_iff.mp (by simpa using this))
         ·rw [←r1.length,←r2.length];exact R0 c.2
         ·refine⟨λz=>?_,λ_ p hp=>?_⟩
          ·subst z
           cases r2
           refine k ρ H _ (Ext.refl _ _) rl ?_
           rw [List.append_nil];exact .tup h1 r1
          ·refine k ρ _ _ (Ext.same hp) (rl.tup hp) (.tup L2.C7 ?_)
           exact (r1.mono (Ext.same hp)).append (r2.mono (Ext.same hp))
   | _=>cases ev
 | ref n=>
   cases y with
   | ref m=>
     obtain⟨l1,A1,e1,ev1⟩:=B0 ev
     obtain⟨rfl,_,a,xs,rfl,_,ha,r1⟩:=Q9 rl rx e1
     obtain⟨l2,A2,e2,ev2⟩:=B0 ev1
     obtain⟨rfl,_,b,ys,rfl,_,hb,r2⟩:=Q9 rl ry e2
     obtain⟨c,ev3⟩:=C6 ev2
     cases ev3
     refine .inr (.inr ⟨a,b,xs,ys,rfl,rfl,ha,hb,?_,λp hp=>?_⟩)
     ·rw [←r1.length,←r2.length];exact R0 c
     ·have e:Ext ρ H (ρ++[p]) (L2.upd H p (.lst (xs++ys))):=Ext.new hp
      exact k (ρ++[p]) _ _ e (rl.alloc hp ⟨_,L2.C7,(r1.mono e).append (r2.mono e)⟩ rfl) (.ref (by rw [←rl.len];simp))
   | _=>cases ev
 | _=>cases y <;> cases ev
noncomputable def aZ6 (K:PySem.W.Frag):L2.R2:=λx y H Q=>L2.aY7 K x y H Q\/L2.aY8 K x y H Q
theorem ix2:L2.IxR X (aZ6 X.K):=L2.ix_list.or L2.aS2
theorem aZ7:Q8 X.K cm oIx (aZ6 X.K):=λρ A H x y z A' vx vy Q rl rx ry ev k=>by
 cases y with
 | int i=>
   obtain⟨l,A1,e1,ev1⟩:=B0 ev
   obtain⟨rfl,a,xs,rfl,hs,rs⟩:=Y2 rl rx e1
   rcases hi:atI l i with _ | u
   ·rw [hi] at ev1;cases ev1
   ·rw [hi] at ev1
    cases ev1
    cases ry
    obtain⟨w,hw,rw'⟩:=rs.at hi
    rcases hs with hs | hs
    ·exact .inl ⟨a,xs,i,w,rfl,rfl,hs,hw,k ρ H w (Ext.refl _ _) rl rw'⟩
    ·exact .inr ⟨a,xs,i,w,rfl,rfl,hs,hw,k ρ H w (Ext.refl _ _) rl rw'⟩
 | _=>cases ev
theorem ai9 {a b:Expr} {da db:ED} {pos:Pos} (ha:L2.PE X a (EvE X.K cm da)) (hb:L2.PE X b (EvE X.K cm db)) (hs:L2.aq4 b):L2.PE X (.Subscript a b pos) (EvE X.K cm (I9 oIx da db)):=
 D2 (L2.aY6 ix2 ha hb hs) λσ H Q h=>ae9 aZ7 h
theorem p9 {ρ:List Addr} {H:L2.Hp} {x:PV} {v:L2.V} (r:RV ρ H x v):decide (v=.non)=ah9 x:=by
 cases r <;> simp [ah9]
theorem aZ8 {a:Expr} {da:ED} {j:Nat} {pos pos':Pos} (ha:L2.PE X a (EvE X.K cm da)):L2.PE X (.Compare a [.Is] [.Constant .none j pos'] pos) (EvE X.K cm (aw3 da)):=
 D2 (L2.aQ1 (L2.az4 ha)) λσ H Q ⟨ρ,A,σp,v,A',rl,rs,ev,k⟩=>by
  obtain⟨x,A1,e1,ev⟩:=B0 ev
  cases ev
  exact⟨ρ,A,σp,x,A',rl,rs,e1,λρ1 H1 v1 x1 rl1 rv1=>k ρ1 H1 _ x1 rl1 (by rw [p9 rv1];exact .bl _)⟩
theorem aC8 {a:Expr} {da:ED} {j:Nat} {pos pos':Pos} (ha:L2.PE X a (EvE X.K cm da)):L2.PT X (.Compare a [.Is] [.Constant .none j pos'] pos) (EvT X.K cm (J2 (aw3 da))):=
 p6 (L2.az5 (L2.az4 ha)) λσ H Q q=>m5 (t:=L2.aX2 (EvE X.K cm da)) (λσ H Q ⟨ρ,A,σp,v,A',rl,rs,ev,k⟩=>by
  obtain⟨x,A1,e1,ev⟩:=B0 ev
  cases ev
  exact⟨ρ,A,σp,x,A',rl,rs,e1,λρ1 H1 v1 x1 rl1 rv1=>k ρ1 H1 _ x1 rl1 (by rw [p9 rv1];exact .bl _)⟩) q
theorem aK4 {a:Expr} {da:ED} {j:Nat} {pos pos':Pos} (ha:L2.PE X a (EvE X.K cm da)):L2.PT X (.Compare a [.IsNot] [.Constant .none j pos'] pos) (EvT X.K cm (J2 (aO4 da))):=
 p6 (L2.az5 (L2.aH9 ha)) λσ H Q q=>m5 (t:=L2.aN7 (EvE X.K cm da)) (λσ H Q ⟨ρ,A,σp,v,A',rl,rs,ev,k⟩=>by
  obtain⟨x,A1,e1,ev⟩:=B0 ev
  cases ev
  exact⟨ρ,A,σp,x,A',rl,rs,e1,λρ1 H1 v1 x1 rl1 rv1=>k ρ1 H1 _ x1 rl1 (by rw [p9 rv1];exact .bl _)⟩) q
theorem aC9 {f g:OD} {r r':L2.R2} {a b c:ED} (hf:Q8 X.K cm f r) (hg:Q8 X.K cm g r') {σ:L2.St} {H:L2.Hp} {Q:L2.VK} (h:EvE X.K cm (ae1 f g a b c) σ H Q):L2.aA3 r r' (EvE X.K cm a) (EvE X.K cm b) (EvE X.K cm c) σ H Q:=by
 obtain⟨ρ,A,σp,z,A',rl,rs,ev,k⟩:=h
 obtain⟨x,A1,e1,ev⟩:=B0 ev
 obtain⟨y,A2,e2,ev⟩:=B0 ev
 obtain⟨m,A3,e3,ev⟩:=B0 ev
 refine⟨ρ,A,σp,x,A1,rl,rs,e1,λρ1 H1 vx x1 rl1 rv1=>⟨ρ1,A1,σp,y,A2,rl1,rs.mono x1,e2,λρ2 H2 vy x2 rl2 rv2=>hf ρ2 A2 H2 x y m A3 vx vy _ rl2 (rv1.mono x2) rv2 e3 λρ3 H3 v3 x3 rl3 rv3=>?_⟩⟩
 have x13:=(x1.trans x2).trans x3
 cases m with
 | bl t=>
   cases rv3
   refine⟨t,rfl,?_⟩
   cases t with
   | true=>
     rw [if_pos rfl]
     obtain⟨u,A4,e4,ev⟩:=B0 ev
     exact⟨ρ3,A3,σp,u,A4,rl3,rs.mono x13,e4,λρ4 H4 v4 x4 rl4 rv4=>hg ρ4 A4 H4 y u z A' vy v4 Q rl4 ((rv2.mono x3).mono x4) rv4 ev λρ5 H5 v5 x5 rl5 rv5=>k ρ5 H5 v5 ((x13.trans x4).trans x5) rl5 rv5⟩
   | false=>
     rw [if_neg (by simp)]
     cases ev
     exact k ρ3 H3 _ x13 rl3 (.bl false)
 | _=>cases ev
theorem ar5 {op op':CmpOp} {f g:OD} {r r':L2.R2} {a b c:Expr} {da db dc:ED} {pos:Pos} (ho:L2.OpR X (compareOp op) r) (hf:Q8 X.K cm f r) (ho':L2.OpR X (compareOp op') r') (hg:Q8 X.K cm g r')
 (ha:L2.PE X a (EvE X.K cm da)) (hb:L2.PE X b (EvE X.K cm db)) (hc:L2.PE X c (EvE X.K cm dc)) (hm:lastMarks [op,op'] [b,c]=false:=by with_unfolding_all rfl):L2.PE X (.Compare a [op,op'] [b,c] pos) (EvE X.K cm (ae1 f g da db dc)):=
 D2 (L2.aA4 ho ho' ha hb hc hm) λσ H Q h=>aC9 hf hg h
theorem R8 {a:Expr} {t:TD} {pos:Pos} (h:L2.PT X a (EvT X.K cm t)):L2.PT X (.UnaryOp .Not a pos) (EvT X.K cm (tNot t)):=p6 (L2.aQ4 h) λσ H Q ⟨ρ,A,σp,b,A',rl,rs,ev,k⟩=>by
 obtain⟨c,A1,e1,ev⟩:=B0 ev
 cases ev
 exact⟨ρ,A,σp,c,A',rl,rs,e1,λρ1 H1 x1 rl1=>k ρ1 H1 x1 rl1⟩
theorem T3 {a:Expr} {t:TD} {pos:Pos} (h:L2.PT X a (EvT X.K cm t)):L2.PW X (.BoolOp .Or [a] pos) (EvT X.K cm t):=L2.aQ3 h
theorem Y4 {a b:Expr} {rest:List Expr} {t u:TD} {pos:Pos} (ha:L2.PT X a (EvT X.K cm t)) (hb:L2.PW X (.BoolOp .Or (b::rest) pos) (EvT X.K cm u)):L2.PW X (.BoolOp .Or (a::b::rest) pos) (EvT X.K cm (tOr t u)):=
 aT7 (L2.aX3 ha hb) λσ H Q ⟨ρ,A,σp,z,A',rl,rs,ev,k⟩=>by
  obtain⟨c,A1,e1,ev⟩:=B0 ev
  refine⟨ρ,A,σp,c,A1,rl,rs,e1,λρ1 H1 x1 rl1=>?_⟩
  cases c with
  | true=>rw [if_pos rfl] at ev ⊢;cases ev;exact k ρ1 H1 x1 rl1
  | false=>rw [if_neg (by simp)] at ev ⊢;exact⟨ρ1,A1,σp,z,A',rl1,rs.mono x1,ev,λρ2 H2 x2 rl2=>k ρ2 H2 (x1.trans x2) rl2⟩
theorem ar6 {x:PV} {A A':PHp} {c:Bool} (h:asB x A=.ok c A'):x=.bl c/\A'=A:=by
 cases x with
 | bl b=>cases h;exact⟨rfl,rfl⟩
 | _=>cases h
theorem R9 {a:Expr} {d:ED} {pos:Pos} (h:L2.PE X a (EvE X.K cm d)):L2.PE X (.BoolOp .And [a] pos) (EvE X.K cm d):=L2.aQ5 h
theorem T4 {a b:Expr} {rest:List Expr} {d u:ED} {pos:Pos} (ha:L2.PE X a (EvE X.K cm d)) (hb:L2.PE X (.BoolOp .And (b::rest) pos) (EvE X.K cm u)):L2.PE X (.BoolOp .And (a::b::rest) pos) (EvE X.K cm (d5 d u)):=
 D2 (L2.aQ6 ha hb) λσ H Q ⟨ρ,A,σp,z,A',rl,rs,ev,k⟩=>by
  obtain⟨c,A1,e1,ev⟩:=B0 ev
  obtain⟨x,A0,e0,e1⟩:=B0 e1
  obtain⟨rfl,rfl⟩:=ar6 e1
  refine⟨ρ,A,σp,_,_,rl,rs,e0,λρ1 H1 v1 x1 rl1 rv1=>?_⟩
  cases rv1
  refine⟨c,rfl,?_⟩
  cases c with
  | true=>rw [if_pos rfl] at ev ⊢;exact⟨ρ1,_,σp,z,A',rl1,rs.mono x1,ev,λρ2 H2 v2 x2 rl2=>k ρ2 H2 v2 (x1.trans x2) rl2⟩
  | false=>rw [if_neg (by simp)] at ev ⊢;cases ev;exact k ρ1 H1 _ x1 rl1 (.bl false)
theorem aO8 {a:Expr} {d:ED} {pos:Pos} (ha:L2.PE X a (EvE X.K cm d)):L2.PE X (.UnaryOp .Not a pos) (EvE X.K cm (aT3 d)):=
 D2 (L2.aQ7 ha) λσ H Q ⟨ρ,A,σp,z,A',rl,rs,ev,k⟩=>by
  obtain⟨c,A1,e1,ev⟩:=B0 ev
  obtain⟨x,A0,e0,e1⟩:=B0 e1
  obtain⟨rfl,rfl⟩:=ar6 e1
  cases ev
  refine⟨ρ,A,σp,_,_,rl,rs,e0,λρ1 H1 v1 x1 rl1 rv1=>?_⟩
  cases rv1
  exact⟨c,rfl,k ρ1 H1 _ x1 rl1 (.bl _)⟩
theorem aZ9 {c a b:Expr} {t:TD} {d u:ED} {pos:Pos} (hc:L2.PT X c (EvT X.K cm t)) (ha:L2.PE X a (EvE X.K cm d)) (hb:L2.PE X b (EvE X.K cm u)):L2.PE X (.IfExp c a b pos) (EvE X.K cm (eIf t d u)):=
 D2 (L2.az6 hc ha hb) λσ H Q ⟨ρ,A,σp,z,A',rl,rs,ev,k⟩=>by
  obtain⟨c,A1,e1,ev⟩:=B0 ev
  refine⟨ρ,A,σp,c,A1,rl,rs,e1,λρ1 H1 x1 rl1=>?_⟩
  cases c with
  | true=>rw [if_pos rfl] at ev ⊢;exact⟨ρ1,A1,σp,z,A',rl1,rs.mono x1,ev,λρ2 H2 v2 x2 rl2=>k ρ2 H2 v2 (x1.trans x2) rl2⟩
  | false=>rw [if_neg (by simp)] at ev ⊢;exact⟨ρ1,A1,σp,z,A',rl1,rs.mono x1,ev,λρ2 H2 v2 x2 rl2=>k ρ2 H2 v2 (x1.trans x2) rl2⟩
theorem r_nil:L2.PA X [] (EvA X.K cm aNil):=aC3 L2.ad4 λσ H Q ⟨ρ,A,σp,vs,A',rl,rs,ev,k⟩=>by
 cases ev
 exact k ρ H [] (Ext.refl _ _) rl .nil
theorem r_cons {e:Expr} {es:List Expr} {d:ED} {ds:AD} (h:L2.PE X e (EvE X.K cm d)) (hr:L2.PA X es (EvA X.K cm ds)) (hs:starEach (e::es) X.env=(false,eval e X.env)::starEach es X.env:=by exact C1 rfl):L2.PA X (e::es) (EvA X.K cm (aCons d ds)):=
 aC3 (L2.R4 h hr hs) λσ H Q ⟨ρ,A,σp,vs,A',rl,rs,ev,k⟩=>by
  obtain⟨x,A1,e1,ev⟩:=B0 ev
  obtain⟨xs,A2,e2,ev⟩:=B0 ev
  cases ev
  exact⟨ρ,A,σp,x,A1,rl,rs,e1,λρ1 H1 v1 x1 rl1 rv1=>⟨ρ1,A1,σp,xs,A',rl1,rs.mono x1,e2,λρ2 H2 vs2 x2 rl2 rv2=>k ρ2 H2 _ (x1.trans x2) rl2 (.cons (rv1.mono x2) rv2)⟩⟩
theorem K8 {es:List Expr} {ds:AD} {x1:Nat} {pos:Pos} (h:L2.PA X es (EvA X.K cm ds)):L2.PE X (.Tuple es x1 pos) (EvE X.K cm (N6 ds)):=
 D2 (L2.aR8 h) λσ H Q ⟨ρ,A,σp,v,A',rl,rs,ev,k⟩=>by
  obtain⟨xs,A1,e1,ev⟩:=B0 ev
  obtain⟨c,ev⟩:=C6 ev
  cases ev
  refine⟨ρ,A,σp,xs,A',rl,rs,e1,λρ1 H1 vs1 x1 rl1 rv1=>⟨by rw [←rv1.length];exact R0 c,λp hp=>?_⟩⟩
  have e:Ext ρ1 H1 ρ1 (L2.upd H1 p (.tup vs1)):=Ext.same hp
  exact k ρ1 _ _ (x1.trans e) (rl1.tup hp) (.tup L2.C7 (rv1.mono e))
theorem Y5 {es:List Expr} {ds:AD} {pos:Pos} (h:L2.PA X es (EvA X.K cm ds)):L2.PE X (.List es pos) (EvE X.K cm (o0 ds)):=
 D2 (L2.aR9 h) λσ H Q ⟨ρ,A,σp,v,A',rl,rs,ev,k⟩=>by
  obtain⟨xs,A1,e1,ev⟩:=B0 ev
  obtain⟨c,ev⟩:=C6 ev
  cases ev
  refine⟨ρ,A,σp,xs,A1,rl,rs,e1,λρ1 H1 vs1 x1 rl1 rv1=>⟨by rw [←rv1.length];exact R0 c,λp hp=>?_⟩⟩
  have e:Ext ρ1 H1 (ρ1++[p]) (L2.upd H1 p (.lst vs1)):=Ext.new hp
  exact k (ρ1++[p]) _ _ (x1.trans e) (rl1.alloc hp ⟨_,L2.C7,rv1.mono e⟩ rfl) (.ref (by rw [←rl1.len];simp))
end
end Ws
namespace Ws
open PySem
section
variable {X:L2.Cx} {cm:Nat->Addr}
noncomputable def EvL (K:PySem.W.Frag) (cm:Nat->Addr) (d:LD):L2.TO:=λσ H Q=>∃(ρ:List Addr) (A:PHp) (σp:PSt) (v:Option Int) (A':PHp),Rel K cm ρ A H/\RSt ρ H σp σ/\d σp A=.ok v A'/\
 ∀ρ' H',Ext ρ H ρ' H'->Rel K cm ρ' A' H'->Q v H'
theorem aD0 {e:Option Expr} {t t':L2.TO} (h:L2.PO X e t) (k:∀σ H Q,t' σ H Q->t σ H Q):L2.PO X e t':=λpins s σ H Q I q=>h pins s σ H Q I (k σ H Q q)
theorem r_lno:L2.PO X none (EvL X.K cm lNo):=aD0 L2.aJ4 λσ H Q ⟨ρ,A,σp,v,A',rl,rs,ev,k⟩=>by
 cases ev;exact k ρ H (Ext.refl _ _) rl
theorem r_lat {e:Expr} {d:ED} (h:L2.PE X e (EvE X.K cm d)):L2.PO X (some e) (EvL X.K cm (lAt d)):=aD0 (L2.aJ5 h) λσ H Q ⟨ρ,A,σp,v,A',rl,rs,ev,k⟩=>by
 obtain⟨x,A1,e1,ev1⟩:=B0 ev
 refine⟨ρ,A,σp,x,A1,rl,rs,e1,λρ1 H1 v1 x1 rl1 rv1=>?_⟩
 cases x with
 | int i=>cases ev1;cases rv1;exact⟨i,rfl,k ρ1 H1 x1 rl1⟩
 | _=>cases ev1
theorem ar7 {e:Expr} {lo hi:Option Expr} {d:ED} {dl dh:LD} {p2 pos:Pos} (he:L2.PE X e (EvE X.K cm d)) (hl:L2.PO X lo (EvL X.K cm dl)) (hu:L2.PO X hi (EvL X.K cm dh)):L2.PE X (.Subscript e (.Slice lo hi none p2) pos) (EvE X.K cm (aw4 d dl dh)):=
 D2 (L2.aB3 (L2.sl_list.or L2.aS1) he hl hu) λσ H Q ⟨ρ,A,σp,v,A',rl,rs,ev,k⟩=>by
  obtain⟨x,A1,e1,ev1⟩:=B0 ev
  obtain⟨l,A2,e2,ev2⟩:=B0 ev1
  obtain⟨h,A3,e3,ev3⟩:=B0 ev2
  refine⟨ρ,A,σp,x,A1,rl,rs,e1,λρ1 H1 v1 x1 rl1 rv1=>⟨ρ1,A1,σp,l,A2,rl1,rs.mono x1,e2,λρ2 H2 x2 rl2=>⟨ρ2,A2,σp,h,A3,rl2,(rs.mono x1).mono x2,e3,λρ3 H3 x3 rl3=>?_⟩⟩⟩
  have x13:=(x1.trans x2).trans x3
  have rv3:=rv1.mono (x2.trans x3)
  cases x with
  | ref n=>
    obtain⟨xs,A4,e4,ev4⟩:=B0 ev3
    obtain⟨rfl,a,vs,rfl,hs,r⟩:=G9 rl3 rv3 e4
    cases ev4
    refine .inl ⟨a,vs,rfl,hs,λp hp=>?_⟩
    have e:Ext ρ3 H3 (ρ3++[p]) (L2.upd H3 p (.lst (L2.ad5 vs l h))):=Ext.new hp
    exact k (ρ3++[p]) _ _ (x13.trans e) (rl3.alloc hp ⟨_,L2.C7,(r.slc l h).mono e⟩ rfl) (.ref (by rw [←rl3.len];simp))
  | tup xs=>
    obtain⟨c,ev4⟩:=C6 ev3
    cases ev4
    cases rv3 with
    | tup ha r=>
      refine .inr ⟨_,_,rfl,L2.SqT.of ha,by rw [Y3,Y3,←r.length];exact c,λp hp=>?_⟩
      exact k ρ3 _ _ (x13.trans (Ext.same hp)) (rl3.tup hp) (.tup L2.C7 ((r.slc l h).mono (Ext.same hp)))
  | _=>cases ev3
theorem W6 {d:ED} {f:PV->M PV} {r:List L2.V->L2.Hp->L2.VK->Prop} {e:ED} (he:∀σ,e σ=bnd (d σ) f)
 (hf:∀ρ A H x z A' v (Q:L2.VK),Rel X.K cm ρ A H->RV ρ H x v->f x A=.ok z A'->(∀ρ' H' v',Ext ρ H ρ' H'->Rel X.K cm ρ' A' H'->RV ρ' H' z v'->Q v' H')->r [v] H Q)
 {σ:L2.St} {H:L2.Hp} {Q:L2.VK} (h:EvE X.K cm e σ H Q):L2.tCB r (EvA X.K cm (aCons d aNil)) σ H Q:=by
 obtain⟨ρ,A,σp,z,A',rl,rs,ev,k⟩:=h
 rw [he] at ev
 obtain⟨x,A1,e1,ev1⟩:=B0 ev
 refine⟨ρ,A,σp,[x],A1,rl,rs,by show bnd (d σp) _ A=_;rw [bnd_ok e1];rfl,λρ1 H1 vs1 x1 rl1 rv1=>?_⟩
 cases rv1 with
 | cons hv hr=>
   cases hr
   exact hf ρ1 A1 H1 x z A' _ Q rl1 hv ev1 λρ2 H2 v2 x2 rl2 rv2=>k ρ2 H2 v2 (x1.trans x2) rl2 rv2
theorem aj0 {e:Expr} {d:ED} {p pos:Pos} (he:L2.PE X e (EvE X.K cm d)) (hg:L2.Gl X "len") (hm:X.mg "len" = none) (hs:starEach [e] X.env=(false,eval e X.env)::starEach [] X.env:=by exact C1 rfl):L2.PE X (.Call (.Name "len" p) [e] [] pos) (EvE X.K cm (ai0 d)):=
 D2 (L2.N7 L2.ad7 hg hm PySem.boot_len (r_cons he r_nil hs) (he:=hs)) λσ H Q h=>W6 (f:=λx=>bnd (L6 x) λl=>ret (.int l.length)) (λ_=>rfl) (λρ A H x z A' v Q rl rx ev k=>by
  obtain⟨l,A1,e1,ev1⟩:=B0 ev
  obtain⟨rfl,a,xs,rfl,hq,r⟩:=Y2 rl rx e1
  cases ev1
  exact⟨a,xs,rfl,hq,k ρ H _ (Ext.refl _ _) rl (by rw [←r.length];exact .int _)⟩) h
theorem Y6 {e:Expr} {d:ED} {p pos:Pos} (he:L2.PE X e (EvE X.K cm d)) (hg:L2.Gl X "list") (hm:X.mg "list" = none) (hv:bootBuiltins "list" = some (.type "list")) (hs:starEach [e] X.env=(false,eval e X.env)::starEach [] X.env:=by exact C1 rfl):L2.PE X (.Call (.Name "list" p) [e] [] pos) (EvE X.K cm (U4 d)):=
 D2 (L2.d0 L2.ad8 hg hm hv (r_cons he r_nil hs) (he:=hs)) λσ H Q h=>W6 (f:=λx=>bnd (L6 x) λl=>alloc (.lst l)) (λ_=>rfl) (λρ A H x z A' v Q rl rx ev k=>by
  obtain⟨l,A1,e1,ev1⟩:=B0 ev
  obtain⟨rfl,a,xs,rfl,hq,r⟩:=Y2 rl rx e1
  cases ev1
  refine⟨a,xs,rfl,hq,λp hp=>?_⟩
  have e:Ext ρ H (ρ++[p]) (L2.upd H p (.lst xs)):=Ext.new hp
  exact k (ρ++[p]) _ _ e (rl.alloc hp ⟨_,L2.C7,r.mono e⟩ rfl) (.ref (by rw [←rl.len];simp))) h
theorem Pairs.look {f:Nat->Str} {ρ:List Addr} {H:L2.Hp} (hf:∀i j,f i=f j->i<19->j<19->i=j):∀{kvs:List (Nat×PV)} {kv:List (Str×L2.V)} {i:Nat} {x:PV},Pairs f ρ H kvs kv->(∀p∈kvs,p.1<19)->i<19->Q3 i kvs=some x->∃v,kv.lookup (f i)=some v/\RV ρ H x v
 | [],kv,i,x,h,_,_,e=>by cases e
 | (g,u)::r,kv,i,x,h,hs,hi,e=>by
   cases kv with
   | nil=>have:=h.keys;simp at this
   | cons p q=>
     have k:=h.keys
     simp only [List.map_cons,List.cons.injEq] at k
     have hv:=h.vals
     simp only [List.map_cons] at hv
     cases hv with
     | cons h1 h2=>
       have hg:g<19:=hs _ List.mem_cons_self
       obtain⟨p1,p2⟩:=p
       by_cases hgi:g=i
       ·subst hgi
        simp [Q3] at e
        subst e
        exact⟨p2,by rw [List.lookup_cons];simp [show p1=f g from k.1],h1⟩
       ·have hne:¬f i=p1:=λz=>hgi (hf g i (by rw [z];exact k.1.symm) hg hi)
        simp only [Q3,hgi,if_false] at e
        obtain⟨v,a,b⟩:=Pairs.look hf (kvs:=r) (kv:=q) ⟨k.2,h2⟩ (λp hp=>hs p (List.mem_cons_of_mem _ hp)) hi e
        refine⟨v,?_,b⟩
        rw [List.lookup_cons,beq_eq_false_iff_ne.mpr hne]
        exact a
end
end Ws
namespace Ws
open PySem
theorem ar8:∀i j,fnm i=fnm j->i<19->j<19->i=j:=by
 intro i j h hi hj
 have key:∀i:_root_.Fin 19,∀j:_root_.Fin 19,fnm i.1=fnm j.1->i=j:=by decide +kernel
 exact congrArg (·.1) (key ⟨i,hi⟩ ⟨j,hj⟩ h)
section
variable {X:L2.Cx} {cm:Nat->Addr}
theorem q8 {o:Expr} {d:ED} {f:Str} {i:Nat} {pos:Pos} (he:L2.PE X o (EvE X.K cm d)) (hf:fnm i=f) (hi:i<19) (hc:∀c,c<7->L2.Cls X.K (cm c)) (hn:∀c,c<7->L2.NoAttr X.K (cm c) f)
 (hb:attributeBase o f X.env (eval o X.env)=eval o X.env:=by rfl):L2.PE X (.Attribute o f pos) (EvE X.K cm (ae2 d i)):=
 D2 (L2.aR6 he hb) λσ H Q ⟨ρ,A,σp,v,A',rl,rs,ev,k⟩=>by
  obtain⟨x,A1,e1,ev1⟩:=B0 ev
  refine⟨ρ,A,σp,x,A1,rl,rs,e1,λρ1 H1 v1 x1 rl1 rv1=>?_⟩
  cases x with
  | ref n=>
    obtain⟨o,A2,e2,ev2⟩:=B0 ev1
    obtain⟨rfl,hA,a,dx,kv,rfl,hn',hH,hp,hs⟩:=Y1 rl1 rv1 e2
    rcases hg:Q3 i o.2 with _ | u
    ·rw [hg] at ev2;cases ev2
    ·rw [hg] at ev2
     cases ev2
     obtain⟨w,hw,rw'⟩:=hp.look ar8 hs hi hg
     rw [hf] at hw
     exact⟨a,_,dx,kv,w,rfl,hH,hc _ (p8 rl1 hA hn'),hn _ (p8 rl1 hA hn'),hw,k ρ1 H1 w x1 rl1 rw'⟩
  | _=>cases ev1
theorem Pairs.put {ρ:List Addr} {H:L2.Hp} {i:Nat} {x:PV} {v:L2.V} (hi:i<19) (rv:RV ρ H x v):∀{kvs:List (Nat×PV)} {kv:List (Str×L2.V)},Pairs fnm ρ H kvs kv->(∀p∈kvs,p.1<19)->Pairs fnm ρ H (putFld i x kvs) (L2.P7 (fnm i) v kv)
 | [],kv,h,_=>by
   cases kv with
   | nil=>exact⟨rfl,.cons rv .nil⟩
   | cons p q=>have:=h.keys;simp at this
 | (g,u)::r,kv,h,hs=>by
   cases kv with
   | nil=>have:=h.keys;simp at this
   | cons p q=>
     have k:=h.keys
     simp only [List.map_cons,List.cons.injEq] at k
     have hv:=h.vals
     simp only [List.map_cons] at hv
     cases hv with
     | cons h1 h2=>
       obtain⟨p1,p2⟩:=p
       have hg:g<19:=hs _ List.mem_cons_self
       have k1:p1=fnm g:=k.1
       by_cases hgi:g=i
       ·subst hgi
        have e:L2.P7 (fnm g) v ((p1,p2)::q)=(p1,v)::q:=by
         show (if p1=fnm g then _ else _)=_
         rw [if_pos k1]
        rw [e]
        simp only [putFld,if_true]
        exact⟨by simp [k1,k.2],.cons rv h2⟩
       ·have hne:¬p1=fnm i:=λz=>hgi (ar8 g i (by rw [←z];exact k1.symm) hg hi)
        have e:L2.P7 (fnm i) v ((p1,p2)::q)=(p1,p2)::L2.P7 (fnm i) v q:=by
         show (if p1=fnm i then _ else _)=_
         rw [if_neg hne]
        rw [e]
        simp only [putFld,hgi,if_false]
        have ih:=Pairs.put hi rv (kvs:=r) (kv:=q) ⟨k.2,h2⟩ λp hp=>hs p (List.mem_cons_of_mem _ hp)
        exact⟨by simp only [List.map_cons];rw [ih.keys,k1],.cons h1 ih.vals⟩
theorem ac2 {i:Nat} {x:PV} (hi:i<19):∀{kvs:List (Nat×PV)},(∀p∈kvs,p.1<19)->∀p∈putFld i x kvs,p.1<19
 | [],_,p,hp=>by simp [putFld] at hp;subst hp;exact hi
 | (g,u)::r,hs,p,hp=>by
   unfold putFld at hp
   split at hp
   ·rcases List.mem_cons.mp hp with rfl | hp
    ·exact hs (g,u) List.mem_cons_self
    ·exact hs p (List.mem_cons_of_mem _ hp)
   ·rcases List.mem_cons.mp hp with rfl | hp
    ·exact hs (g,u) List.mem_cons_self
    ·exact ac2 hi (λq hq=>hs q (List.mem_cons_of_mem _ hq)) p hp
theorem N1 {o value:Expr} {d e:ED} {f:Str} {i:Nat} {pos pos':Pos} (ho:L2.PE X o (EvE X.K cm d)) (hv:L2.PE X value (EvE X.K cm e)) (hf:fnm i=f) (hi:i<19) (hc:∀c,c<7->L2.Cls X.K (cm c)) (hn:∀c,c<7->L2.NoAttr X.K (cm c) f)
 (hs:swapsWith value (some (.Attribute o f pos')) pos.line X.env=pure false:=by rfl):L2.PS X (.Assign [.Attribute o f pos'] value pos) (EvS X.K cm (sFld d i e)):=
 T2 (L2.aR7 ho hv hs) λD σ H ⟨ρ,A,σp,fl,A',rl,rs,ev,k⟩=>by
  obtain⟨y,A1,e1,ev1⟩:=B0 ev
  obtain⟨x,A2,e2,ev2⟩:=B0 ev1
  refine⟨ρ,A,σp,y,A1,rl,rs,e1,λρ1 H1 v1 x1 rl1 rv1=>⟨ρ1,A1,σp,x,A2,rl1,rs.mono x1,e2,λρ2 H2 v2 x2 rl2 rv2=>?_⟩⟩
  cases x with
  | ref n=>
    obtain⟨o,A3,e3,ev3⟩:=B0 ev2
    obtain⟨rfl,hA,a,dx,kv,rfl,hn',hH,hp,hs'⟩:=Y1 rl2 rv2 e3
    obtain⟨c,ev4⟩:=C6 ev3
    cases ev4
    have hkl:kv.length=o.2.length:=by have:=congrArg List.length hp.keys;simpa using this
    refine⟨a,cm o.1,dx,kv,rfl,hH,hc _ (p8 rl2 hA hn'),hn _ (p8 rl2 hA hn'),by omega,?_⟩
    rw [←hf]
    have ex:Ext ρ2 H2 ρ2 (L2.upd H2 a (.ins (cm o.1) dx (L2.P7 (fnm i) v1 kv))):=Ext.put rl2 hn' hA rfl
    have rl3:Rel X.K cm ρ2 (A3.set n (.ins o.1 (putFld i y o.2))) (L2.upd H2 a (.ins (cm o.1) dx (L2.P7 (fnm i) v1 kv))):=
     rl2.put hn' hA rfl rfl ⟨⟨p8 rl2 hA hn',ac2 hi hs'⟩,dx,_,L2.C7,(hp.mono ex).put hi ((rv1.mono x2).mono ex) hs'⟩
    exact k ρ2 _ ((x1.trans x2).trans ex) rl3 σ (((rs.mono x1).mono x2).mono ex)
  | _=>cases ev2
theorem aj1 {o e:Expr} {d u:ED} {apos cpos:Pos} (ho:L2.PE X o (EvE X.K cm d)) (he:L2.PE X e (EvE X.K cm u))
 (hb:attributeBase o "append" X.env (eval o X.env)=eval o X.env:=by rfl) (hs:starEach [e] X.env=(false,eval e X.env)::starEach [] X.env:=by exact C1 rfl)
 (hfew:((backTo cpos (starEach [e] X.env)).all (λx=>!x.1)&&(backToKw cpos (keywordEach [] X.env)).all (λx=>x.1.isSome)&&decide ([e].length+([]:List Keyword).length+(if ([]:List Keyword).isEmpty then 0 else 1)<30))=true:=by rfl)
 (hline:(apos.endLine == cpos.line)=true:=by rfl):L2.PE X (.Call (.Attribute o "append" apos) [e] [] cpos) (EvE X.K cm (j9 d u)):=
 D2 (L2.aY9 PySem.F.plainAttrs_list PySem.F.slot_list_append PySem.F.type_list_append L2.av8 ho (r_cons he r_nil hs) (hbase:=hb) (hfew:=hfew) (hline:=hline) (hs:=hs)) λσ H Q ⟨ρ,A,σp,v,A',rl,rs,ev,k⟩=>by
  obtain⟨x,A1,e1,ev1⟩:=B0 ev
  refine⟨ρ,A,σp,x,A1,rl,rs,e1,λρ1 H1 v1 x1 rl1 rv1=>?_⟩
  cases x with
  | ref n=>
    obtain⟨l0,A2,e2,ev2⟩:=B0 ev1
    obtain⟨rfl,hA,a,xs,rfl,hn,hH,r0⟩:=Q9 rl1 rv1 e2
    refine⟨.inl ⟨rfl,xs,L2.SqL.of hH⟩,?_⟩
    obtain⟨y,A3,e3,ev3⟩:=B0 ev2
    obtain⟨l,A4,e4,ev4⟩:=B0 ev3
    obtain⟨c,ev5⟩:=C6 ev4
    cases ev5
    refine⟨ρ1,_,σp,[y],A3,rl1,rs.mono x1,by show bnd (u σp) _ _=_;rw [bnd_ok e3];rfl,λρ2 H2 vs2 x2 rl2 rv2=>?_⟩
    cases rv2 with
    | cons hv hr=>
      cases hr
      obtain⟨rfl,hA2,a2,ys,e5,hn2,hH2,r2⟩:=Q9 rl2 (rv1.mono x2) e4
      cases e5
      refine⟨a,ys,_,rfl,rfl,hH2,by rw [←r2.length];exact aC7 c,?_⟩
      refine k ρ2 _ _ ((x1.trans x2).trans (Ext.put rl2 hn2 hA2 rfl)) (rl2.put hn2 hA2 rfl rfl ⟨_,L2.C7,?_⟩) .non
      exact (r2.mono (Ext.put rl2 hn2 hA2 rfl)).append (.cons (hv.mono (Ext.put rl2 hn2 hA2 rfl)) .nil)
  | _=>cases ev1
theorem M3 {i:Nat} {e:Expr} (h:L2.PG X e (L2.gName i)):L2.PG X e (EvG X.K cm (gName i)):=aC4 h λv σ H Q ⟨ρ,A,σp,x,σp',A',rl,rs,rv,ev,k⟩=>by
 cases ev
 exact k ρ H _ (Ext.refl _ _) rl (rs.set i rv)
theorem ar9:L2.PGs X [] (aK2 X.K cm gNil):=ar4 L2.aI3 λvs σ H Q ⟨ρ,A,σp,xs,σp',A',rl,rs,rv,ev,k⟩=>by
 cases xs with
 | nil=>cases ev;cases rv;exact⟨rfl,k ρ H _ (Ext.refl _ _) rl rs⟩
 | cons y ys=>cases ev
theorem T5 {e:Expr} {es:List Expr} {g:GD} {r:GDs} (h1:L2.PG X e (EvG X.K cm g)) (h2:L2.PGs X es (aK2 X.K cm r)) (hs:(assignEach (e::es) X.env).map (·.2)=assign e X.env::(assignEach es X.env).map (·.2):=by rfl):L2.PGs X (e::es) (aK2 X.K cm (gCons g r)):=
 ar4 (L2.az9 h1 h2 hs) λvs σ H Q ⟨ρ,A,σp,xs,σp',A',rl,rs,rv,ev,k⟩=>by
  cases xs with
  | nil=>cases ev
  | cons y ys=>
    obtain⟨σ1,A1,e1,ev1⟩:=B0 ev
    cases rv with
    | cons hv hr=>
      exact⟨_,_,rfl,ρ,A,σp,y,σ1,A1,rl,rs,hv,e1,λρ1 H1 σ' x1 rl1 rs1=>⟨ρ1,A1,σ1,ys,σp',A',rl1,rs1,hr.mono x1,ev1,λρ2 H2 σ2 x2 rl2 rs2=>k ρ2 H2 σ2 (x1.trans x2) rl2 rs2⟩⟩
theorem as0 {es:List Expr} {j n:Nat} {g:GDs} {pos:Pos} (hc:X.calm=true) (h:L2.PGs X es (aK2 X.K cm g)) (hn:(assignEach es X.env).length=n:=by rfl) (hst:(assignEach es X.env).findIdx? (·.1)=none:=by rfl):L2.PG X (.Tuple es j pos) (EvG X.K cm (gTup n g)):=
 aC4 (L2.aQ9 hc h hn hst) λv σ H Q ⟨ρ,A,σp,x,σp',A',rl,rs,rv,ev,k⟩=>by
  cases x with
  | tup l=>
    obtain⟨c,ev1⟩:=C6 ev
    cases rv with
    | tup ha r=>exact⟨_,_,rfl,L2.SqT.of ha,by rw [←r.length];exact c,ρ,A,σp,l,σp',A',rl,rs,r,ev1,k⟩
  | _=>cases ev
theorem Y7 {st:Stmt}:L2.PS X st (EvS X.K cm sNever):=T2 L2.az8 λD σ H ⟨ρ,A,σp,f,A',rl,rs,ev,k⟩=>by cases ev
theorem J0:L2.PSs X [] (EvS X.K cm sPass):=ar3 L2.aI0 λD σ H ⟨ρ,A,σp,f,A',rl,rs,ev,k⟩=>by
 cases ev;exact k ρ H (Ext.refl _ _) rl σ rs
theorem C8 {st:Stmt} {s:SD} (h:L2.PS X st (EvS X.K cm s)):L2.PSs X [st] (EvS X.K cm s):=L2.aI1 h
theorem C4 {st:Stmt} {rest:List Stmt} {s r:SD} (h1:L2.PS X st (EvS X.K cm s)) (h2:L2.PSs X rest (EvS X.K cm r)):L2.PSs X (st::rest) (EvS X.K cm (E6 s r)):=
 ar3 (L2.az7 h1 h2) λD σ H ⟨ρ,A,σp,f,A',rl,rs,ev,k⟩=>by
  obtain⟨o,A1,e1,ev1⟩:=B0 ev
  refine⟨ρ,A,σp,o,A1,rl,rs,e1,λρ1 H1 x1 rl1=>?_⟩
  cases o with
  | nx σ1=>exact λσ' rs'=>⟨ρ1,A1,σ1,f,A',rl1,rs',ev1,λρ2 H2 x2 rl2=>k ρ2 H2 (x1.trans x2) rl2⟩
  | rt v=>cases ev1;exact λv' rv=>k ρ1 H1 x1 rl1 v' rv
  | bk σ1=>cases ev1;exact λσ' rs'=>k ρ1 H1 x1 rl1 σ' rs'
  | ct σ1=>cases ev1;exact λσ' rs'=>k ρ1 H1 x1 rl1 σ' rs'
theorem ao6 {e:Expr} {d:ED} {pos:Pos} (h:L2.PE X e (EvE X.K cm d)) (hs:swapsWith e none pos.line X.env=pure false:=by rfl):L2.PS X (.Expr e pos) (EvS X.K cm (ai2 d)):=
 T2 (L2.aI2 h hs) λD σ H ⟨ρ,A,σp,f,A',rl,rs,ev,k⟩=>by
  obtain⟨x,A1,e1,ev1⟩:=B0 ev
  cases ev1
  exact⟨ρ,A,σp,x,A',rl,rs,e1,λρ1 H1 v1 x1 rl1 rv1=>k ρ1 H1 x1 rl1 σ (rs.mono x1)⟩
theorem E9 {e:Expr} {d:ED} {pos:Pos} (h:L2.PE X e (EvE X.K cm d)):L2.PS X (.Return (some e) pos) (EvS X.K cm (K7 d)):=
 T2 (L2.aQ8 h) λD σ H ⟨ρ,A,σp,f,A',rl,rs,ev,k⟩=>by
  obtain⟨x,A1,e1,ev1⟩:=B0 ev
  cases ev1
  exact⟨ρ,A,σp,x,A',rl,rs,e1,λρ1 H1 v1 x1 rl1 rv1=>k ρ1 H1 x1 rl1 v1 rv1⟩
theorem S0 {c:Expr} {a b:List Stmt} {t:TD} {s u:SD} {pos:Pos} (hc:L2.PT X c (EvT X.K cm t)) (ha:L2.PSs X a (EvS X.K cm s)) (hb:L2.PSs X b (EvS X.K cm u)):L2.PS X (.If c a b pos) (EvS X.K cm (sIf t s u)):=
 T2 (L2.aX7 hc ha hb) λD σ H ⟨ρ,A,σp,f,A',rl,rs,ev,k⟩=>by
  obtain⟨x,A1,e1,ev1⟩:=B0 ev
  refine⟨ρ,A,σp,x,A1,rl,rs,e1,λρ1 H1 x1 rl1=>?_⟩
  cases x with
  | true=>rw [if_pos rfl] at ev1 ⊢;exact⟨ρ1,A1,σp,f,A',rl1,rs.mono x1,ev1,λρ2 H2 x2 rl2=>k ρ2 H2 (x1.trans x2) rl2⟩
  | false=>rw [if_neg (by simp)] at ev1 ⊢;exact⟨ρ1,A1,σp,f,A',rl1,rs.mono x1,ev1,λρ2 H2 x2 rl2=>k ρ2 H2 (x1.trans x2) rl2⟩
theorem aU0 {d:ED} {g:GD} {te:L2.TE} {tg:L2.TG} (he:∀σ H Q,EvE X.K cm d σ H Q->te σ H Q) (hg:∀v σ H Q,EvG X.K cm g v σ H Q->tg v σ H Q) {D:L2.al7} {σ:L2.St} {H:L2.Hp} (h:EvS X.K cm (V0 d g) D σ H):L2.aX8 te tg D σ H:=by
 obtain⟨ρ,A,σp,f,A',rl,rs,ev,k⟩:=h
 obtain⟨x,A1,e1,ev1⟩:=B0 ev
 obtain⟨σ1,A2,e2,ev2⟩:=B0 ev1
 cases ev2
 exact he _ _ _ ⟨ρ,A,σp,x,A1,rl,rs,e1,λρ1 H1 v1 x1 rl1 rv1=>hg _ _ _ _ ⟨ρ1,A1,σp,x,σ1,A',rl1,rs.mono x1,rv1,e2,λρ2 H2 σ2 x2 rl2 rs2=>k ρ2 H2 (x1.trans x2) rl2 σ2 rs2⟩⟩
theorem Y8 {i:Nat} {x:Str} {e:Expr} {d:ED} {pos pos':Pos} (hN:X.N.Nodup) (hi:X.N[i]?=some x) (hx:L2.Loc X.env.scope x) (he:L2.PE X e (EvE X.K cm d)) (hs:swapsWith e (some (.Name x pos')) pos.line X.env=pure false:=by rfl)
 (hf:X.fn x=true\/X.env.scope.names.lookup x=some .local:=by first | exact .inl rfl | exact .inr rfl | assumption):L2.PS X (.Assign [.Name x pos'] e pos) (EvS X.K cm (V0 d (gName i))):=
 T2 (L2.aR0 hN hi hx he hs hf) λD σ H h=>aU0 (λ_ _ _ z=>z) (λv σ H Q ⟨ρ,A,σp,x,σp',A',rl,rs,rv,ev,k⟩=>by
  cases ev
  exact k ρ H _ (Ext.refl _ _) rl (rs.set i rv)) h
end
end Ws
namespace Ws
open PySem
noncomputable def SpF (K:PySem.W.Frag) (cm:Nat->Addr) (f:Fun) (n:Nat):L2.Sp:=λvs H Q _=>∃(ρ:List Addr) (A:PHp) (ps:List PV) (v:PV) (A':PHp),Rel K cm ρ A H/\RVs ρ H ps vs/\ps.length=n/\f ps A=.ok v A'/\
 ∀ρ' H' v',Ext ρ H ρ' H'->Rel K cm ρ' A' H'->RV ρ' H' v v'->Q v' H'
theorem RSt.start0 {ρ:List Addr} {H:L2.Hp} {ps:List PV} {vs:List L2.V} {N:List Str} (r:RVs ρ H ps vs):RSt ρ H (Ws.start N.length ps) (L2.start N vs):=by
 have hl:=r.length
 refine⟨by unfold Ws.start L2.start;simp [hl],λi p hp=>?_⟩
 unfold Ws.start at hp
 by_cases hi:i<ps.length
 ·rw [List.getElem?_append_left (by simpa using hi),List.getElem?_map] at hp
  rcases e:ps[i]? with _ | q
  ·rw [e] at hp;cases hp
  ·rw [e] at hp;cases hp
   obtain⟨v,h1,h2⟩:=r.get e
   refine⟨v,?_,h2⟩
   unfold L2.start
   rw [List.getElem?_append_left (by simp;omega),List.getElem?_map,h1];rfl
 ·rw [List.getElem?_append_right (by simpa using hi),List.getElem?_replicate] at hp
  split at hp <;> cases hp
section
variable {P:Program} {w:World} {K:PySem.W.Frag} {mg:Str->Option Value} {base:Heap} {cm:Nat->Addr}
theorem K9 {x qual:Str} {st:Stmt} {f:Addr} {fd:FuncData} {N ps:List Str} {k:Nat} {s:SD} (F:L2.Fun K x qual st f fd) (S:L2.D1 N ps (L2.B6 st))
 (hbody:∀(cdv:Value) (A:Around) (outer:List Env) (s0:Shared) (H:L2.Hp) (E:L2.XK),L2.Room k (A.deeper (PyProof.Rows.envOfC qual (L2.B6 st) s0.heap.objs.size f cdv))->
  L2.PSs (L2.ah2 L2.CX0 P w K mg base N qual (L2.B6 st) f cdv A outer s0 H E).nox (L2.C2 st) (EvS K cm s)) :
 L2.FnOk P w K mg base L2.CX0 (k+1) f fd ps (SpF K cm (fn N.length ps.length s) ps.length):=by
 refine F.ok S (λvs H Q E ⟨ρ,A,qs,v,A',rl,rv,hl,_,_⟩=>by rw [←rv.length];exact hl) λcdv A outer s0 H vs Q E hr h=>⟨_,hbody cdv A outer s0 H E hr,?_⟩
 obtain⟨ρ,B,qs,v,B',rl,rv,hl,ev,k⟩:=h
 obtain⟨_,ev1⟩:=C6 ev
 obtain⟨o,B1,e1,ev2⟩:=B0 ev1
 refine⟨ρ,B,Ws.start N.length qs,o,B1,rl,RSt.start0 rv,e1,λρ1 H1 x1 rl1=>?_⟩
 cases o with
 | nx σ1=>cases ev2;exact λσ' _=>k ρ1 H1 _ x1 rl1 .non
 | rt u=>cases ev2;exact λv' rv'=>k ρ1 H1 v' x1 rl1 rv'
 | bk σ1=>cases ev2
 | ct σ1=>cases ev2
end
section
variable {X:L2.Cx} {cm:Nat->Addr}
theorem aK5 {f:Fun} {n:Nat} {ds:AD} (hn:∀vs A v A',f vs A=.ok v A'->vs.length=n) {σ:L2.St} {H:L2.Hp} {Q:L2.VK} (h:EvE X.K cm (L3 f ds) σ H Q):L2.aN9 (SpF X.K cm f n) [] L2.E0 (EvA X.K cm ds) σ H Q:=by
 obtain⟨ρ,A,σp,v,A',rl,rs,ev,k⟩:=h
 obtain⟨xs,A1,e1,ev1⟩:=B0 ev
 refine⟨ρ,A,σp,xs,A1,rl,rs,e1,λρ1 H1 vs1 x1 rl1 rv1=>?_⟩
 show SpF X.K cm f n (vs1++[]) H1 Q _
 rw [List.append_nil]
 exact⟨ρ1,A1,xs,v,A',rl1,rv1,hn _ _ _ _ ev1,ev1,λρ2 H2 v2 x2 rl2 rv2=>k ρ2 H2 v2 (x1.trans x2) rl2 rv2⟩
theorem E1 {n p:Nat} {s:SD} {vs:List PV} {A A':PHp} {v:PV} (h:fn n p s vs A=.ok v A'):vs.length=p:=(C6 h).1
theorem aU1 {f:Fun} {n k:Nat} {fa:Addr} {fd:FuncData} {ps:List Str} {x:Str} {e:Expr} {es:List Expr} {ds:AD} {p pos:Pos} (F:L2.FnOk X.prog X.w X.K X.mg X.base L2.CX0 k fa fd ps (SpF X.K cm f n)) (hn:∀vs A v A',f vs A=.ok v A'->vs.length=n) (hr:L2.Room k X.A) (hg:L2.Gl X x) (hm:X.mg x=some (.ref fa)) (hk:PySem.W.keepIn X.K (.ref fa)=true) (hb:L2.Binds X.K fd ps [])
 (ha:L2.PA X (e::es) (EvA X.K cm ds)) (hdb:(x == ("__debug__" : Str))=false:=by decide) (he:starEach (e::es) X.env=(false,eval e X.env)::starEach es X.env:=by exact C1 rfl) (hpl:(backTo pos (starEach es X.env)).any (·.1)=false:=by rfl) :
 L2.PE X (.Call (.Name x p) (e::es) [] pos) (EvE X.K cm (L3 f ds)):=
 D2 (L2.aJ1 F hr hg hm hk hb .nil L2.aq6 ha hdb he hpl) λσ H Q h=>aK5 hn h
theorem as1 {c:Nat} {f:Fun} {n:Nat} {m:Str} {d:ED} {ds:AD} (hn:∀vs A v A',f vs A=.ok v A'->vs.length=n) (hm:∀i,i<19->fnm i≠m) {σ:L2.St} {H:L2.Hp} {Q:L2.VK} (h:EvE X.K cm (S9 c f d ds) σ H Q) :
 L2.aA9 (cm c) m (SpF X.K cm f n) [] L2.E0 (EvE X.K cm d) (EvA X.K cm ds) σ H Q:=by
 obtain⟨ρ,A,σp,v,A',rl,rs,ev,k⟩:=h
 obtain⟨x,A1,e1,ev1⟩:=B0 ev
 refine⟨ρ,A,σp,x,A1,rl,rs,e1,λρ1 H1 v1 x1 rl1 rv1=>?_⟩
 cases x with
 | ref j=>
   obtain⟨o,A2,e2,ev2⟩:=B0 ev1
   obtain⟨rfl,hA,a,dx,kv,rfl,hn',hH,hp,hs⟩:=Y1 rl1 rv1 e2
   obtain⟨hc,ev3⟩:=C6 ev2
   obtain⟨xs,A3,e3,ev4⟩:=B0 ev3
   subst hc
   have hno:kv.lookup m=none:=by
    have key:∀(l:List (Str×L2.V)),(∀z∈l.map (·.1),z≠m)->l.lookup m=none:=λl=>by
     induction l with
     | nil=>intro _;rfl
     | cons p q ih=>
       intro hz
       rw [List.lookup_cons,beq_eq_false_iff_ne.mpr (λz=>hz p.1 (by simp) z.symm)]
       exact ih λz hz'=>hz z (by simp at hz' ⊢;exact .inr hz')
    refine key kv λz hz=>?_
    rw [hp.keys] at hz
    obtain⟨q,hq,rfl⟩:=List.mem_map.mp hz
    exact hm _ (hs q hq)
   refine⟨a,dx,kv,rfl,hH,hno,ρ1,_,σp,xs,A3,rl1,rs.mono x1,e3,λρ2 H2 vs2 x2 rl2 rv2=>?_⟩
   show SpF X.K cm f n (.ref a::(vs2++[])) H2 Q _
   rw [List.append_nil]
   exact⟨ρ2,A3,.ref j::xs,v,A',rl2,.cons (rv1.mono x2) rv2,hn _ _ _ _ ev4,ev4,λρ3 H3 v3 x3 rl3 rv3=>k ρ3 H3 v3 ((x1.trans x2).trans x3) rl3 rv3⟩
 | _=>cases ev1
theorem aU2 {c:Nat} {f:Fun} {n k:Nat} {fa:Addr} {fd:FuncData} {ps:List Str} {m:Str} {o e:Expr} {es:List Expr} {d:ED} {ds:AD} {apos pos:Pos} {pl:Sem Bool} (ho:L2.PE X o (EvE X.K cm d)) (hc:L2.Cls X.K (cm c)) (hm:L2.aA8 X.K (cm c) m fa)
 (F:L2.FnOk X.prog X.w X.K X.mg X.base L2.CX0 k fa fd ps (SpF X.K cm f n)) (hn:∀vs A v A',f vs A=.ok v A'->vs.length=n) (hnm:∀i,i<19->fnm i≠m) (hr:L2.Room k X.A) (hb:L2.Binds X.K fd ps []) (ha:L2.PA X (e::es) (EvA X.K cm ds))
 (hst:starEach (e::es) X.env=(false,eval e X.env)::starEach es X.env:=by exact C1 rfl) (hpl:(backTo pos (starEach es X.env)).any (·.1)=false:=by rfl)
 (ht:eval (.Call (.Attribute o m apos) (e::es) [] pos) X.env=(do
  let ov ←eval o X.env
  standAt apos.atName
  let (f,first) ←holding [ov] (getMethod ov m pl)
  callWith pos f first (backTo pos (starEach (e::es) X.env)) (backToKw pos (keywordEach [] X.env))):=by rfl) :
 L2.PE X (.Call (.Attribute o m apos) (e::es) [] pos) (EvE X.K cm (S9 c f d ds)):=
 D2 (L2.aJ2 (pl:=pl) ho hc hm F hr hb .nil L2.aq6 ha hst hpl ht) λσ H Q h=>as1 hn hnm h
theorem aK6 {c:Nat} {f:Fun} {n:Nat} {ds:AD} (h7:c<7) (hn:∀vs A v A',f vs A=.ok v A'->vs.length=n/\v=.non) {σ:L2.St} {H:L2.Hp} {Q:L2.VK} (h:EvE X.K cm (V3 c f ds) σ H Q):L2.aO0 (cm c) (SpF X.K cm f n) [] L2.E0 (EvA X.K cm ds) σ H Q:=by
 obtain⟨ρ,A,σp,v,A',rl,rs,ev,k⟩:=h
 obtain⟨xs,A1,e1,ev1⟩:=B0 ev
 obtain⟨x,A2,e2,ev2⟩:=B0 ev1
 cases e2
 obtain⟨u,A3,e3,ev3⟩:=B0 ev2
 cases ev3
 refine⟨ρ,A,σp,xs,A1,rl,rs,e1,λρ1 H1 vs1 x1 rl1 rv1 x dx hx hdx hne=>?_⟩
 rw [List.append_nil]
 have g1:Ext ρ1 H1 ρ1 (L2.upd H1 dx (.own x)):=Ext.same hdx
 have rl2:Rel X.K cm ρ1 A1 (L2.upd H1 dx (.own x)):=rl1.grow g1 (N0 hdx)
 have hx2:L2.upd H1 dx (.own x) x=none:=by rw [L2.C9 (Ne.symm hne)];exact hx
 have g2:Ext ρ1 (L2.upd H1 dx (.own x)) (ρ1++[x]) (L2.upd (L2.upd H1 dx (.own x)) x (.ins (cm c) dx [])):=Ext.new hx2
 have rl3:Rel X.K cm (ρ1++[x]) (A1++[.ins c []]) (L2.upd (L2.upd H1 dx (.own x)) x (.ins (cm c) dx [])):=rl2.alloc hx2 ⟨⟨h7,by simp⟩,dx,[],L2.C7,⟨rfl,.nil⟩⟩ rfl
 have hl:(ρ1++[x])[A1.length]?=some x:=by rw [←rl1.len];simp
 obtain⟨hn1,rfl⟩:=hn _ _ _ _ e3
 refine⟨ρ1++[x],_,.ref A1.length::xs,.non,A',rl3,.cons (.ref hl) ((rv1.mono g1).mono g2),hn1,e3,λρ4 H4 v4 x4 rl4 rv4=>?_⟩
 cases rv4
 exact⟨rfl,k ρ4 H4 _ (((x1.trans g1).trans g2).trans x4) rl4 (.ref (o9 x4.pre hl))⟩
theorem aU3 {c:Nat} (h7:c<7) {f:Fun} {n k:Nat} {fa:Addr} {fd:FuncData} {ps:List Str} {x:Str} {e:Expr} {es:List Expr} {ds:AD} {p pos:Pos} (Mk:L2.Mk X.K (cm c) fa) (F:L2.FnOk X.prog X.w X.K X.mg X.base L2.CX0 k fa fd ps (SpF X.K cm f n)) (hn:∀vs A v A',f vs A=.ok v A'->vs.length=n/\v=.non) (hr:L2.Room (k+1) X.A)
 (hg:L2.Gl X x) (hm:X.mg x=some (.ref (cm c))) (hb:L2.Binds X.K fd ps []) (ha:L2.PA X (e::es) (EvA X.K cm ds)) (hdb:(x == ("__debug__" : Str))=false:=by decide) (he:starEach (e::es) X.env=(false,eval e X.env)::starEach es X.env:=by exact C1 rfl) (hpl:(backTo pos (starEach es X.env)).any (·.1)=false:=by rfl) :
 L2.PE X (.Call (.Name x p) (e::es) [] pos) (EvE X.K cm (V3 c f ds)):=
 D2 (L2.aJ3 Mk F hr hg hm hb .nil L2.aq6 ha hdb he hpl) λσ H Q h=>aK6 h7 hn h
noncomputable def Ite (K:PySem.W.Frag) (a:Addr):L2.It:=
 ⟨λi H=>∃xs x,L2.SqL K H a xs/\xs[i]?=some x,λi H x H'=>∃y p,(∀xs,L2.SqL K H a xs->xs[i]?=some y)/\H p=none/\x=.ref p/\H'=L2.upd H p (.tup [.int i,y]),λi H=>∃xs,L2.SqL K H a xs/\xs.length<=i⟩
noncomputable def Itk (K:PySem.W.Frag) (k:Nat) (a:Addr):L2.It:=
 ⟨λi H=>∃xs x,L2.SqL K H a xs/\xs[i]?=some x,λi H x H'=>∃y p,(∀xs,L2.SqL K H a xs->xs[i]?=some y)/\H p=none/\x=.ref p/\H'=L2.upd H p (.tup [.int ((k+i:Nat):Int),y]),λi H=>∃xs,L2.SqL K H a xs/\xs.length<=i⟩
noncomputable def Itf (vs:List L2.V):L2.It:=⟨λi _=>i<vs.length,λi H x H'=>H'=H/\vs[i]?=some x,λi _=>vs.length<=i⟩
noncomputable def SqK (k:Bool) (K:PySem.W.Frag) (H:L2.Hp) (a:Addr) (xs:List L2.V):Prop:=match k with
 | true=>L2.SqT K H a xs
 | false=>L2.SqL K H a xs
noncomputable def kindOf:PV->Bool
 | .tup _=>true
 | _=>false
noncomputable def Itz (K:PySem.W.Frag) (k1 k2:Bool) (a b:Addr):L2.It:=
 ⟨λi H=>∃xs ys x y,SqK k1 K H a xs/\SqK k2 K H b ys/\xs[i]?=some x/\ys[i]?=some y,
  λi H v H'=>∃x y p,(∀xs,SqK k1 K H a xs->xs[i]?=some x)/\(∀ys,SqK k2 K H b ys->ys[i]?=some y)/\H p=none/\v=.ref p/\H'=L2.upd H p (.tup [x,y]),
  λi H=>∃xs ys,SqK k1 K H a xs/\SqK k2 K H b ys/\(xs.length<=i\/ys.length<=i)⟩
theorem U6 {K:PySem.W.Frag} {ρ:List Addr} {H:L2.Hp} {A:PHp} {l:List PV} {v:L2.V} {x:PV} {A':PHp} (rl:Rel K cm ρ A H) (r:RV ρ H x v) (h:L6 x A=.ok l A'):A'=A/\∃a xs,v=.ref a/\SqK (kindOf x) K H a xs/\RVs ρ H l xs:=by
 cases x with
 | ref n=>
   obtain⟨e,a,xs,h1,h2,h3⟩:=G9 rl r h
   exact⟨e,a,xs,h1,h2,h3⟩
 | tup m=>
   cases h
   cases r with
   | tup h1 h2=>exact⟨rfl,_,_,rfl,L2.SqT.of h1,h2⟩
 | _=>cases h
noncomputable def RIt (K:PySem.W.Frag) (ρ:List Addr) (H:L2.Hp):It->L2.It->Prop
 | .rng lo n,j=>j=L2.Itr lo n
 | .lst m,j=>∃a,ρ[m]?=some a/\j=L2.Itl K a
 | .tup l,j=>∃a vs,H a=some (.tup vs)/\RVs ρ H l vs/\j=L2.Itt K a
 | .enm m,j=>∃a,ρ[m]?=some a/\j=Ite K a
 | .fix l,j=>∃vs,RVs ρ H l vs/\j=Itf vs
 | .zip x y,j=>∃a b,RV ρ H x (.ref a)/\RV ρ H y (.ref b)/\j=Itz K (kindOf x) (kindOf y) a b
 | .enk k m,j=>∃a,ρ[m]?=some a/\j=Itk K k a
theorem RIt.mono {K:PySem.W.Frag} {ρ ρ':List Addr} {H H':L2.Hp} {J:It} {j:L2.It} (h:RIt K ρ H J j) (e:Ext ρ H ρ' H'):RIt K ρ' H' J j:=by
 cases J with
 | rng lo n=>exact h
 | lst m=>obtain⟨a,h1,h2⟩:=h;exact⟨a,o9 e.pre h1,h2⟩
 | tup l=>obtain⟨a,vs,h1,h2,h3⟩:=h;exact⟨a,vs,e.tup _ _ h1,h2.mono e,h3⟩
 | enm m=>obtain⟨a,h1,h2⟩:=h;exact⟨a,o9 e.pre h1,h2⟩
 | fix l=>obtain⟨vs,h1,h2⟩:=h;exact⟨vs,h1.mono e,h2⟩
 | zip x y=>obtain⟨a,b,h1,h2,h3⟩:=h;exact⟨a,b,h1.mono e,h2.mono e,h3⟩
 | enk k m=>obtain⟨a,h1,h2⟩:=h;exact⟨a,o9 e.pre h1,h2⟩
noncomputable def EvI (K:PySem.W.Frag) (cm:Nat->Addr) (d:ID):L2.TI:=λσ H R=>∃(ρ:List Addr) (A:PHp) (σp:PSt) (J:It) (A':PHp),Rel K cm ρ A H/\RSt ρ H σp σ/\d σp A=.ok J A'/\
 ∀ρ' H' j,Ext ρ H ρ' H'->Rel K cm ρ' A' H'->RIt K ρ' H' J j->R j H'
noncomputable def ao7 (K:PySem.W.Frag) (cm:Nat->Addr) (ρ:List Addr) (A:PHp) (H:L2.Hp) (j:L2.It) (i:Nat):Option PV->Prop
 | none=>j.stop i H
 | some v=>j.go i H/\∀y H',j.yld i H y H'->Ext ρ H ρ H'/\Rel K cm ρ A H'/\RV ρ H' v y
theorem as2 {K:PySem.W.Frag} {ρ:List Addr} {H:L2.Hp} {A A':PHp} {J:It} {j:L2.It} {i:Nat} {x:Option PV} (rl:Rel K cm ρ A H) (rj:RIt K ρ H J j) (e:item J i A=.ok x A') :
 A'=A/\ao7 K cm ρ A H j i x:=by
 cases J with
 | rng lo n=>
   cases e
   cases rj
   refine⟨rfl,?_⟩
   by_cases h:i<n
   ·show ao7 K cm ρ A H _ i (if i<n then some (PV.int (lo+i)) else none)
    rw [if_pos h]
    refine⟨h,λy H' ⟨e1,e2⟩=>?_⟩
    subst e1;subst e2
    exact⟨Ext.refl _ _,rl,.int _⟩
   ·show ao7 K cm ρ A H _ i (if i<n then some (PV.int (lo+i)) else none)
    rw [if_neg h]
    exact Nat.le_of_not_lt h
 | fix l=>
   cases e
   obtain⟨vs,r,rfl⟩:=rj
   refine⟨rfl,?_⟩
   rcases hi:l[i]? with _ | v
   ·show vs.length<=i
    rw [←r.length];exact List.getElem?_eq_none_iff.mp hi
   ·obtain⟨u,hu,rv⟩:=r.get hi
    refine⟨(List.getElem?_eq_some_iff.mp hu).1,λy H' ⟨e3,e4⟩=>?_⟩
    subst e3
    rw [hu] at e4;cases e4
    exact⟨Ext.refl _ _,rl,rv⟩
 | zip x y=>
   obtain⟨a,b,ra,rb,rfl⟩:=rj
   obtain⟨l,A1,e1,e2⟩:=B0 e
   obtain⟨rfl,a',xs,h1,q1,r1⟩:=U6 rl ra e1
   cases h1
   obtain⟨m,A2,e3,e4⟩:=B0 e2
   obtain⟨rfl,b',ys,h2,q2,r2⟩:=U6 rl rb e3
   cases h2
   cases e4
   refine⟨rfl,?_⟩
   rcases hi:l[i]? with _ | u
   ·exact⟨xs,ys,q1,q2,.inl (by rw [←r1.length];exact List.getElem?_eq_none_iff.mp hi)⟩
   ·rcases hj:m[i]? with _ | v
    ·exact⟨xs,ys,q1,q2,.inr (by rw [←r2.length];exact List.getElem?_eq_none_iff.mp hj)⟩
    ·obtain⟨u',hu,ru⟩:=r1.get hi
     obtain⟨v',hv,rv⟩:=r2.get hj
     refine⟨⟨xs,ys,u',v',q1,q2,hu,hv⟩,λz H' ⟨x',y',p,g1,g2,g3,g4,g5⟩=>?_⟩
     have g1:=g1 xs q1
     have g2:=g2 ys q2
     rw [hu] at g1;cases g1
     rw [hv] at g2;cases g2
     subst g4;subst g5
     exact⟨Ext.same g3,rl.tup g3,.tup L2.C7 (.cons (ru.mono (Ext.same g3)) (.cons (rv.mono (Ext.same g3)) .nil))⟩
 | lst m=>
   obtain⟨a,ha,rfl⟩:=rj
   obtain⟨l,A1,e1,e2⟩:=B0 e
   obtain⟨rfl,b,xs,hb,hs,r⟩:=G9 rl (.ref ha) e1
   cases hb
   cases e2
   refine⟨rfl,?_⟩
   rcases hi:l[i]? with _ | v
   ·exact⟨xs,hs,by rw [←r.length];exact List.getElem?_eq_none_iff.mp hi⟩
   ·obtain⟨u,hu,rv⟩:=r.get hi
    refine⟨⟨xs,u,hs,hu⟩,λy H' ⟨e3,e4⟩=>?_⟩
    subst e3
    have:=e4 xs hs
    rw [hu] at this;cases this
    exact⟨Ext.refl _ _,rl,rv⟩
 | tup l=>
   obtain⟨a,vs,ha,r,rfl⟩:=rj
   cases e
   refine⟨rfl,?_⟩
   rcases hi:l[i]? with _ | v
   ·exact⟨vs,L2.SqT.of ha,by rw [←r.length];exact List.getElem?_eq_none_iff.mp hi⟩
   ·obtain⟨u,hu,rv⟩:=r.get hi
    refine⟨⟨vs,u,L2.SqT.of ha,hu⟩,λy H' ⟨e3,e4⟩=>?_⟩
    subst e3
    have:=e4 vs (L2.SqT.of ha)
    rw [hu] at this;cases this
    exact⟨Ext.refl _ _,rl,rv⟩
 | enm m=>
   obtain⟨a,ha,rfl⟩:=rj
   obtain⟨l,A1,e1,e2⟩:=B0 e
   obtain⟨rfl,b,xs,hb,hs,r⟩:=G9 rl (.ref ha) e1
   cases hb
   cases e2
   refine⟨rfl,?_⟩
   rcases hi:l[i]? with _ | v
   ·exact⟨xs,hs,by rw [←r.length];exact List.getElem?_eq_none_iff.mp hi⟩
   ·obtain⟨u,hu,rv⟩:=r.get hi
    refine⟨⟨xs,u,hs,hu⟩,λy H' ⟨y',p,h2,h3,h4,h5⟩=>?_⟩
    have h2:=h2 xs hs
    rw [hu] at h2;cases h2
    subst h4;subst h5
    exact⟨Ext.same h3,rl.tup h3,.tup L2.C7 (.cons (.int _) (.cons (rv.mono (Ext.same h3)) .nil))⟩
 | enk k m=>
   obtain⟨a,ha,rfl⟩:=rj
   obtain⟨l,A1,e1,e2⟩:=B0 e
   obtain⟨rfl,b,xs,hb,hs,r⟩:=G9 rl (.ref ha) e1
   cases hb
   cases e2
   refine⟨rfl,?_⟩
   rcases hi:l[i]? with _ | v
   ·exact⟨xs,hs,by rw [←r.length];exact List.getElem?_eq_none_iff.mp hi⟩
   ·obtain⟨u,hu,rv⟩:=r.get hi
    refine⟨⟨xs,u,hs,hu⟩,λy H' ⟨y',p,h2,h3,h4,h5⟩=>?_⟩
    have h2:=h2 xs hs
    rw [hu] at h2;cases h2
    subst h4;subst h5
    exact⟨Ext.same h3,rl.tup h3,.tup L2.C7 (.cons (.int _) (.cons (rv.mono (Ext.same h3)) .nil))⟩
theorem d8 {J:It} {A A':PHp} {n:Nat} (h:W3 J A=.ok n A'):A'=A:=by
 have key:∀a,bnd (D3 a) (λl=>ret l.length) A=.ok n A'->A'=A:=λa h=>by
  obtain⟨l,A1,e1,e2⟩:=B0 h
  cases e2
  unfold D3 at e1
  rcases hA:A[a]? with _ | o
  ·rw [hA] at e1;cases e1
  ·cases o <;> rw [hA] at e1 <;> cases e1 <;> rfl
 cases J with
 | rng lo n=>cases h;rfl
 | lst m=>exact key m h
 | tup l=>cases h;rfl
 | fix l=>cases h;rfl
 | enm m=>exact key m h
 | enk k m=>exact key m h
 | zip x y=>
   cases x with
   | ref n=>
     exact key n h
   | tup l=>cases h;rfl
   | _=>cases h
theorem aD1 {tg iter:Expr} {body:List Stmt} {it:ID} {g:GD} {b:SD} {pos:Pos} (hp:PassesOwn (model X.prog X.w) X.A X.env X.xe) (hc:X.calm=true) (hi:L2.PI X tg iter (EvI X.K cm it)) (hg:L2.PG X tg (EvG X.K cm g)) (hb:L2.PSs X body (EvS X.K cm b))
 (hs:∀x,foldedSetIterable iter X.env x=pure x:=by intro _;rfl):L2.PS X (.For tg iter body [] pos) (EvS X.K cm (ai3 it g b)):=
 T2 (L2.aR2 hp hc hi hg hb hs) λD σ H ⟨ρ,A,σp,f,A',rl,rs,ev,k⟩=>by
  obtain⟨J,A1,e1,ev1⟩:=B0 ev
  obtain⟨n,A2,e2,ev2⟩:=B0 ev1
  obtain rfl:=d8 e2
  refine⟨ρ,A,σp,J,A2,rl,rs,e1,λρ1 H1 j x1 rl1 rj=>?_⟩
  refine⟨λi m σ' H'=>∃ρ' B σp',Ext ρ1 H1 ρ' H'/\Rel X.K cm ρ' B H'/\RSt ρ' H' σp' σ'/\Q7 J g b (m+1) i σp' B=.ok f A',⟨n,ρ1,A2,σp,Ext.refl _ _,rl1,rs.mono x1,ev2⟩,?_⟩
  rintro i m σ' H' ⟨ρ',B,σp',x2,rl2,rs2,ev3⟩
  rw [M0] at ev3
  obtain⟨x,B1,e3,ev4⟩:=B0 ev3
  obtain⟨rfl,hit⟩:=as2 rl2 (rj.mono x2) e3
  cases x with
  | none=>
    cases ev4
    exact .inl ⟨hit,k ρ' H' (x1.trans x2) rl2 σ' rs2⟩
  | some v=>
    refine .inr ⟨hit.1,λσ3 H3=>∃ρ3 B3 σp3,Ext ρ1 H1 ρ3 H3/\Rel X.K cm ρ3 B3 H3/\RSt ρ3 H3 σp3 σ3/\Q7 J g b m (i+1) σp3 B3=.ok f A',?_,λy H3 hy=>?_⟩
    ·rintro σ3 H3 ⟨ρ3,B3,σp3,x3,rl3,rs3,ev5⟩
     cases m with
     | zero=>rw [o2] at ev5;cases ev5
     | succ m=>exact⟨m,Nat.lt_succ_self _,ρ3,B3,σp3,x3,rl3,rs3,ev5⟩
    ·obtain⟨x3,rl3,rv3⟩:=hit.2 y H3 hy
     obtain⟨σ4,B4,e4,ev5⟩:=B0 ev4
     obtain⟨o,B5,e5,ev6⟩:=B0 ev5
     refine⟨ρ',B1,σp',v,σ4,B4,rl3,rs2.mono x3,rv3,e4,λρ4 H4 σ5 x4 rl4 rs4=>⟨ρ4,B4,σ4,o,B5,rl4,rs4,e5,λρ5 H5 x5 rl5=>?_⟩⟩
     have x15:=(((x2.trans x3).trans x4).trans x5)
     cases o with
     | nx σ6=>exact λσ7 rs7=>⟨ρ5,B5,σ6,x15,rl5,rs7,ev6⟩
     | ct σ6=>exact λσ7 rs7=>⟨ρ5,B5,σ6,x15,rl5,rs7,ev6⟩
     | bk σ6=>cases ev6;exact λσ7 rs7=>k ρ5 H5 (x1.trans x15) rl5 σ7 rs7
     | rt u=>cases ev6;exact λv' rv'=>k ρ5 H5 (x1.trans x15) rl5 v' rv'
theorem ao8 {tg iter:Expr} {t t':L2.TI} (h:L2.PI X tg iter t) (k:∀σ H R,t' σ H R->t σ H R):L2.PI X tg iter t':=λpins s σ H R I q=>h pins s σ H R I (k σ H R q)
theorem aU4 {tg a:Expr} {d:ED} {p pos:Pos} (hg:L2.Gl X "range") (hm:X.mg "range" = none) (ha:L2.PE X a (EvE X.K cm d)) (hs:starEach [a] X.env=[(false,eval a X.env)]:=by rfl):L2.PI X tg (.Call (.Name "range" p) [a] [] pos) (EvI X.K cm (iRng1 d)):=
 ao8 (L2.av1 hg hm (r_cons ha r_nil hs) hs) λσ H R ⟨ρ,A,σp,J,A',rl,rs,ev,k⟩=>by
  obtain⟨x,A1,e1,ev1⟩:=B0 ev
  refine⟨ρ,A,σp,[x],A1,rl,rs,by show bnd (d σp) _ A=_;rw [bnd_ok e1];rfl,λρ1 H1 vs1 x1 rl1 rv1=>?_⟩
  cases x with
  | int i=>
    obtain⟨c,ev2⟩:=C6 ev1
    cases ev2
    cases rv1 with
    | cons hv hr=>cases hr;cases hv;exact⟨i,rfl,c.1,c.2,k ρ1 H1 _ x1 rl1 rfl⟩
  | _=>cases ev1
theorem aU5 {tg a b:Expr} {d e:ED} {p pos:Pos} (hg:L2.Gl X "range") (hm:X.mg "range" = none) (ha:L2.PE X a (EvE X.K cm d)) (hb:L2.PE X b (EvE X.K cm e)) (hs:starEach [a,b] X.env=[(false,eval a X.env),(false,eval b X.env)]:=by rfl) (hs2:starEach [b] X.env=[(false,eval b X.env)]:=by rfl):L2.PI X tg (.Call (.Name "range" p) [a,b] [] pos) (EvI X.K cm (iRng2 d e)):=
 ao8 (L2.av2 hg hm (r_cons ha (r_cons hb r_nil hs2) (by rw [hs,hs2])) hs hs2) λσ H R ⟨ρ,A,σp,J,A',rl,rs,ev,k⟩=>by
  obtain⟨x,A1,e1,ev1⟩:=B0 ev
  obtain⟨y,A2,e2,ev2⟩:=B0 ev1
  refine⟨ρ,A,σp,[x,y],A2,rl,rs,by show bnd (d σp) _ A=_;rw [bnd_ok e1];show bnd (bnd (e σp) _) _ A1=_;rw [bnd_ok (show bnd (e σp) _ A1=.ok [y] A2 by rw [bnd_ok e2];rfl)];rfl,λρ1 H1 vs1 x1 rl1 rv1=>?_⟩
  cases x with
  | int i=>
    cases y with
    | int j=>
      obtain⟨c,ev3⟩:=C6 ev2
      cases ev3
      cases rv1 with
      | cons hv hr=>
        cases hr with
        | cons hv2 hr2=>cases hr2;cases hv;cases hv2;exact⟨i,j,rfl,⟨c.1.1,c.1.2,c.2.1,c.2.2⟩,k ρ1 H1 _ x1 rl1 rfl⟩
    | _=>cases ev2
  | _=>cases ev2
noncomputable def a00 (K:PySem.W.Frag) (tl:L2.TE):L2.TI:=λσ H R=>tl σ H λx H1=>(∃a,x=.ref a/\(∃xs,L2.SqL K H1 a xs)/\R (L2.Itl K a) H1)\/(∃a,x=.ref a/\(∃xs,L2.SqT K H1 a xs)/\R (L2.Itt K a) H1)
theorem aK7 {tg l:Expr} {tl:L2.TE} (hl:L2.PE X l tl):L2.PI X tg l (a00 X.K tl):=by
 intro pins s σ H R I h
 have a1:=L2.aI4 (tg:=tg) hl
 have a2:=L2.aR1 (tg:=tg) hl
 refine L2.thn (hl pins s σ H _ I h) λv s1 ⟨x,H1,I1,r1,q1⟩=>?_
 rcases q1 with ⟨a,e,⟨xs,hq⟩,q⟩ | ⟨a,e,⟨xs,hq⟩,q⟩
 ·subst e
  cases r1
  obtain⟨its,rv,p,hz⟩:=I1.list hq
  refine wpAny_pyIter_list p.isList ?_
  refine⟨s1.heap.objs.size,[s1.heap.objs.size],_,_,H1,rfl,I1.kept (t':=s1.toks) λb o e=>Heap.get?_push_of_some _ e,L2.ab2 a _,⟨_,Heap.get?_push_size _ rfl,rfl,rfl⟩,λb hb=>?_,q⟩
  have e:b=s1.heap.objs.size:=by simpa using hb
  subst e
  exact I1.fpOk (Nat.le_refl _) (I1.hok.fresh (Nat.le_refl _))
 ·subst e
  cases r1
  obtain⟨its,rv,p,hz⟩:=I1.tuple hq
  refine wpAny_pyIter_tuple (show s1.heap.IsTuple a its.toArray from p) ?_
  refine⟨s1.heap.objs.size,[s1.heap.objs.size],_,_,H1,rfl,I1.kept (t':=s1.toks) λb o e=>Heap.get?_push_of_some _ e,L2.m9 a _,⟨_,Heap.get?_push_size _ rfl,rfl,rfl⟩,λb hb=>?_,q⟩
  have e:b=s1.heap.objs.size:=by simpa using hb
  subst e
  exact I1.fpOk (Nat.le_refl _) (I1.hok.fresh (Nat.le_refl _))
theorem aj2 {tg l:Expr} {d:ED} (hl:L2.PE X l (EvE X.K cm d)):L2.PI X tg l (EvI X.K cm (am9 d)):=ao8 (aK7 hl) λσ H R ⟨ρ,A,σp,J,A',rl,rs,ev,k⟩=>by
 obtain⟨x,A1,e1,ev1⟩:=B0 ev
 refine⟨ρ,A,σp,x,A1,rl,rs,e1,λρ1 H1 v1 x1 rl1 rv1=>?_⟩
 cases x with
 | ref n=>
   obtain⟨l,A2,e2,ev2⟩:=B0 ev1
   obtain⟨rfl,a,xs,rfl,hs,r⟩:=G9 rl1 rv1 e2
   cases ev2
   cases rv1 with
   | ref hn=>exact .inl ⟨a,rfl,⟨xs,hs⟩,k ρ1 H1 _ x1 rl1 ⟨a,hn,rfl⟩⟩
 | tup l=>
   cases ev1
   cases rv1 with
   | tup ha r=>exact .inr ⟨_,rfl,⟨_,L2.SqT.of ha⟩,k ρ1 H1 _ x1 rl1 ⟨_,_,ha,r,rfl⟩⟩
 | _=>cases ev1
end
end Ws
namespace Ws
open PySem
section
variable {ρ:List Addr} {H:L2.Hp}
mutual
theorem RV.uniq:∀{x y:PV} {v:L2.V},RV ρ H x v->RV ρ H y v->R5 x=true->R5 y=true->x=y
 | _,_,_,.non,h,_,_=>by cases h;rfl
 | _,_,_,.bl b,_,n,_=>by simp [R5] at n
 | _,_,_,.int i,h,_,_=>by cases h;rfl
 | _,_,_,.str z,h,_,_=>by cases h;rfl
 | _,_,_,.tup h1 r1,h,n1,n2=>by
   cases h with
   | tup h2 r2=>
     rw [h1] at h2;cases h2
     rw [RVs.uniq r1 r2 (by simpa [R5] using n1) (by simpa [R5] using n2)]
   | ref h2=>simp [R5] at n2
 | _,_,_,.ref _,_,n,_=>by simp [R5] at n
theorem RVs.uniq:∀{l m:List PV} {vs:List L2.V},RVs ρ H l vs->RVs ρ H m vs->X7 l=true->X7 m=true->l=m
 | _,_,_,.nil,h,_,_=>by cases h;rfl
 | _,_,_,.cons h1 r1,h,n1,n2=>by
   cases h with
   | cons h2 r2=>
     simp only [X7,Bool.and_eq_true] at n1 n2
     rw [RV.uniq h1 h2 n1.1 n2.1,RVs.uniq r1 r2 n1.2 n2.2]
end
end
theorem Y9:∀{l m:List PV},l.length≠m.length->N8 l m=false
 | [],[],h=>absurd rfl h
 | [],_::_,_=>rfl
 | _::_,[],_=>rfl
 | x::xs,y::ys,h=>by
   have:xs.length≠ys.length:=by simpa using h
   simp [N8,Y9 this]
theorem Z0:∀{l m:List PV},l.length=m.length->N8 l m=(List.range l.length).all λj=>eqv (l.getD j .non) (m.getD j .non)
 | [],[],_=>rfl
 | [],_::_,h=>by simp at h
 | _::_,[],h=>by simp at h
 | x::xs,y::ys,h=>by
   have e:xs.length=ys.length:=by simpa using h
   rw [List.length_cons,List.range_succ_eq_map,List.all_cons,List.all_map]
   simp only [N8,Z0 e]
   rfl
theorem q9 {l m:List PV}:N8 l m=((List.range (min l.length m.length)).all (λj=>eqv (l.getD j .non) (m.getD j .non))&&l.length == m.length):=by
 by_cases h:l.length=m.length
 ·rw [Z0 h,h];simp
 ·rw [Y9 h,beq_eq_false_iff_ne.mpr h,Bool.and_false]
section
variable {X:L2.Cx} {pins:List (Addr×Obj)} {σ:L2.St} {H:L2.Hp} {s:Shared} {ρ:List Addr} {A:Around}
open PySem.SeqAt
theorem as3 {x y:PV} {vx vy:L2.V} {u v:Value} (rx:RV ρ H x vx) (ry:RV ρ H y vy) (hx:J1 x=true) (hy:J1 y=true) (ux:L2.RelV vx u) (uy:L2.RelV vy v):EqAt A s u v (eqv x y):=by
 have key:=L2.aS3 (A:=A) (s:=s) ux uy (by cases rx <;> simp_all [J1,L2.aq5]) (by cases ry <;> simp_all [J1,L2.aq5])
 have e:L2.eqV vx vy=eqv x y:=by
  cases rx <;> cases ry <;> simp_all [J1,L2.eqV,eqv] <;> (try (exact (Bool.beq_eq_decide_eq _ _)))
 rw [←e];exact key
theorem d9 {f:PV->Bool} {l m:List PV} {a b:Addr} {vs ws:List L2.V} (I:L2.Inv X pins σ H s) (ha:H a=some (.tup vs)) (hb:H b=some (.tup ws)) (r1:RVs ρ H l vs) (r2:RVs ρ H m ws) (hl:l.all f=true) (hm:m.all f=true) (hf:∀x,f x=true->R5 x=true) (hu:A.units<cLine)
 (ih:∀x y vx vy u v,RV ρ H x vx->RV ρ H y vy->f x=true->f y=true->L2.RelV vx u->L2.RelV vy v->EqAt A.in1 s u v (eqv x y)) :
 (a≠b->RcAt A s (.ref a) (.ref b) (N8 l m))/\RcAt A s (.ref a) (.ref b) (N8 l m)/\EqAt A s (.ref a) (.ref b) (N8 l m):=by
 obtain⟨_,its,ri,pi⟩:=I.hok a _ ha
 obtain⟨_,its2,ri2,pi2⟩:=I.hok b _ hb
 have rc:RcAt A s (.ref a) (.ref b) (N8 l m):=by
  have h:=RcAt.tuples (A:=A) (s:=s) (l:=a) (b:=b) (items:=its.toArray) (items2:=its2.toArray) (e:=λj=>eqv (l.getD j .non) (m.getD j .non)) pi pi2 hu (λj h1 h2=>by
   simp only [List.size_toArray] at h1 h2
   have l1:j<vs.length:=by rw [ri.length];exact h1
   have l2:j<ws.length:=by rw [ri2.length];exact h2
   obtain⟨x,ex,rx⟩:=r1.get' (i:=j) (v:=vs[j]) (by simp [l1])
   obtain⟨y,ey,ry⟩:=r2.get' (i:=j) (v:=ws[j]) (by simp [l2])
   obtain⟨u,eu,ru⟩:=ri.get (i:=j) (x:=vs[j]) (by simp [l1])
   obtain⟨v,ev,rv⟩:=ri2.get (i:=j) (x:=ws[j]) (by simp [l2])
   have d1:l.getD j .non=x:=by rw [List.getD_eq_getElem?_getD,ex];rfl
   have d2:m.getD j .non=y:=by rw [List.getD_eq_getElem?_getD,ey];rfl
   have q1:its.toArray[j]=u:=by
    rw [List.getElem?_eq_getElem h1] at eu
    simpa using Option.some.inj eu
   have q2:its2.toArray[j]=v:=by
    rw [List.getElem?_eq_getElem h2] at ev
    simpa using Option.some.inj ev
   rw [d1,d2,q1,q2]
   exact ih x y _ _ u v rx ry (List.all_eq_true.mp hl x (List.mem_of_getElem? ex)) (List.all_eq_true.mp hm y (List.mem_of_getElem? ey)) ru rv)
  rw [q9]
  have z1:its.toArray.size=l.length:=by rw [List.size_toArray,←ri.length,r1.length]
  have z2:its2.toArray.size=m.length:=by rw [List.size_toArray,←ri2.length,r2.length]
  rw [z1,z2] at h
  exact h
 refine⟨λ_=>rc,rc,?_⟩
 by_cases hab:a=b
 ·subst hab
  rw [ha] at hb;cases hb
  have e:=RVs.uniq r1 r2 (M9 hf l hl) (M9 hf m hm)
  subst e
  rw [(U5 l l (M9 hf l hl)).mpr rfl]
  exact EqAt.same _
 ·exact EqAt.of_refs hab rc
theorem L0 {x y:PV} {vx vy:L2.V} {u v:Value} (I:L2.Inv X pins σ H s) (rx:RV ρ H x vx) (ry:RV ρ H y vy) (hu:A.units<cLine) (ux:L2.RelV vx u) (uy:L2.RelV vy v)
 (h:(∃l,x=.tup l/\J1 y=true)\/(∃m,y=.tup m/\J1 x=true)):EqAt A s u v (eqv x y)/\RcAt A s u v (eqv x y)/\RcNeAt A s u v (!eqv x y):=by
 rcases h with ⟨l,rfl,hy⟩ | ⟨m,rfl,hx⟩
 ·cases rx with
  | tup ha r=>
    obtain⟨_,its,ri,pi⟩:=I.hok _ _ ha
    cases ux
    cases ry with
    | non=>cases uy;exact⟨EqAt.tuple_none pi hu,RcAt.tuple_none pi hu,RcNeAt.tuple_none pi hu⟩
    | int i=>obtain⟨t,rfl⟩:=uy;exact⟨EqAt.tuple_int _ _ pi hu,RcAt.tuple_int _ _ pi hu,RcNeAt.tuple_int _ _ pi hu⟩
    | str i=>obtain⟨t,rfl⟩:=uy;exact⟨EqAt.tuple_str _ _ pi hu,RcAt.tuple_str _ _ pi hu,RcNeAt.tuple_str _ _ pi hu⟩
    | bl b=>simp [J1] at hy
    | tup h2 r2=>simp [J1] at hy
    | ref h2=>simp [J1] at hy
 ·cases ry with
  | tup ha r=>
    obtain⟨_,its,ri,pi⟩:=I.hok _ _ ha
    cases uy
    cases rx with
    | non=>cases ux;exact⟨EqAt.none_tuple pi hu,RcAt.none_tuple pi hu,RcNeAt.none_tuple pi hu⟩
    | int i=>obtain⟨t,rfl⟩:=ux;exact⟨EqAt.int_tuple _ _ pi hu,RcAt.int_tuple _ _ pi hu,RcNeAt.int_tuple _ _ pi hu⟩
    | str i=>obtain⟨t,rfl⟩:=ux;exact⟨EqAt.str_tuple _ _ pi hu,RcAt.str_tuple _ _ pi hu,RcNeAt.str_tuple _ _ pi hu⟩
    | bl b=>simp [J1] at hx
    | tup h2 r2=>simp [J1] at hx
    | ref h2=>simp [J1] at hx
theorem M4 (A:Around) (n:Nat) (h:A.units+(n+1)<cLine):A.in1.units+n<cLine:=by
 show A.units+1+n<cLine;omega
theorem a01 (I:L2.Inv X pins σ H s) (A:Around) (hu:A.units+1<cLine) (x y:PV) (vx vy:L2.V) (u v:Value) (rx:RV ρ H x vx) (ry:RV ρ H y vy) (hx:aq9 x=true) (hy:aq9 y=true) (ux:L2.RelV vx u) (uy:L2.RelV vy v):EqAt A s u v (eqv x y):=by
 cases x with
 | tup l=>
   cases y with
   | tup m=>
     cases rx with
     | tup ha r1=>
       cases ry with
       | tup hb r2=>
         cases ux;cases uy
         exact (d9 I ha hb r1 r2 hx hy ai6 (by omega) (λx y vx vy u v rx ry h1 h2 u1 u2=>as3 rx ry h1 h2 u1 u2)).2.2
   | _=>exact (L0 I rx ry (by omega) ux uy (.inl ⟨_,rfl,hy⟩)).1
 | _=>
   cases y with
   | tup m=>exact (L0 I rx ry (by omega) ux uy (.inr ⟨_,rfl,hx⟩)).1
   | _=>exact as3 rx ry hx hy ux uy
theorem aO9 (I:L2.Inv X pins σ H s) (A:Around) (hu:A.units+2<cLine) (x y:PV) (vx vy:L2.V) (u v:Value) (rx:RV ρ H x vx) (ry:RV ρ H y vy) (hx:n9 x=true) (hy:n9 y=true) (ux:L2.RelV vx u) (uy:L2.RelV vy v):EqAt A s u v (eqv x y):=by
 cases x with
 | tup l=>
   cases y with
   | tup m=>
     cases rx with
     | tup ha r1=>
       cases ry with
       | tup hb r2=>
         cases ux;cases uy
         exact (d9 I ha hb r1 r2 hx hy aO5 (by omega) (λx y vx vy u v rx ry h1 h2 u1 u2=>a01 I A.in1 (M4 A 1 (by omega)) x y vx vy u v rx ry h1 h2 u1 u2)).2.2
   | _=>exact (L0 I rx ry (by omega) ux uy (.inl ⟨_,rfl,hy⟩)).1
 | _=>
   cases y with
   | tup m=>exact (L0 I rx ry (by omega) ux uy (.inr ⟨_,rfl,hx⟩)).1
   | _=>exact as3 rx ry hx hy ux uy
theorem aD2 (I:L2.Inv X pins σ H s) (A:Around) (hu:A.units+3<cLine) (x y:PV) (vx vy:L2.V) (u v:Value) (rx:RV ρ H x vx) (ry:RV ρ H y vy) (hx:plain x=true) (hy:plain y=true) (ux:L2.RelV vx u) (uy:L2.RelV vy v):EqAt A s u v (eqv x y):=by
 cases x with
 | tup l=>
   cases y with
   | tup m=>
     cases rx with
     | tup ha r1=>
       cases ry with
       | tup hb r2=>
         cases ux;cases uy
         exact (d9 I ha hb r1 r2 hx hy aO6 (by omega) (λx y vx vy u v rx ry h1 h2 u1 u2=>aO9 I A.in1 (M4 A 2 (by omega)) x y vx vy u v rx ry h1 h2 u1 u2)).2.2
   | _=>exact (L0 I rx ry (by omega) ux uy (.inl ⟨_,rfl,hy⟩)).1
 | _=>
   cases y with
   | tup m=>exact (L0 I rx ry (by omega) ux uy (.inr ⟨_,rfl,hx⟩)).1
   | _=>exact as3 rx ry hx hy ux uy
end
end Ws
namespace Ws
open PySem PySem.SeqAt
section
variable {X:L2.Cx} {cm:Nat->Addr} {pins:List (Addr×Obj)} {σ:L2.St} {H:L2.Hp} {s:Shared} {ρ:List Addr} {A:Around}
theorem rc0 {x y:PV} {vx vy:L2.V} {u v:Value} (rx:RV ρ H x vx) (ry:RV ρ H y vy) (hx:J1 x=true) (hy:J1 y=true) (ux:L2.RelV vx u) (uy:L2.RelV vy v):RcAt A s u v (eqv x y)/\RcNeAt A s u v (!eqv x y):=by
 have hb:∀(i j:Int),(i == j)=decide (i=j):=λi j=>by rw [Bool.beq_eq_decide_eq]
 have hs:∀(i j:Str),(i == j)=decide (i=j):=λi j=>by rw [Bool.beq_eq_decide_eq]
 cases rx with
 | non=>
   cases ux
   cases ry with
   | non=>cases uy;exact⟨RcAt.none_none,RcNeAt.none_none⟩
   | int i=>obtain⟨t,rfl⟩:=uy;exact⟨RcAt.none_int _ _,RcNeAt.none_int _ _⟩
   | str i=>obtain⟨t,rfl⟩:=uy;exact⟨RcAt.none_str _ _,RcNeAt.none_str _ _⟩
   | _=>simp [J1] at hy
 | int i=>
   obtain⟨t,rfl⟩:=ux
   cases ry with
   | non=>cases uy;exact⟨RcAt.int_none _ _,RcNeAt.int_none _ _⟩
   | int j=>obtain⟨t',rfl⟩:=uy;simp only [eqv,←hb];exact⟨RcAt.int_int _ _ _ _,RcNeAt.int_int _ _ _ _⟩
   | str j=>obtain⟨t',rfl⟩:=uy;exact⟨RcAt.int_str _ _ _ _,RcNeAt.int_str _ _ _ _⟩
   | _=>simp [J1] at hy
 | str i=>
   obtain⟨t,rfl⟩:=ux
   cases ry with
   | non=>cases uy;exact⟨RcAt.str_none _ _,RcNeAt.str_none _ _⟩
   | int j=>obtain⟨t',rfl⟩:=uy;exact⟨RcAt.str_int _ _ _ _,RcNeAt.str_int _ _ _ _⟩
   | str j=>obtain⟨t',rfl⟩:=uy;simp only [eqv,←hs];exact⟨RcAt.str_str _ _ _ _,RcNeAt.str_str _ _ _ _⟩
   | _=>simp [J1] at hy
 | _=>simp [J1] at hx
theorem r6 {f:PV->Bool} {l m:List PV} {vs ws:List L2.V} {its its2:List Value} (r1:RVs ρ H l vs) (r2:RVs ρ H m ws) (ri:L2.Vals vs its) (ri2:L2.Vals ws its2) (hl:l.all f=true) (hm:m.all f=true)
 (ih:∀x y vx vy u v,RV ρ H x vx->RV ρ H y vy->f x=true->f y=true->L2.RelV vx u->L2.RelV vy v->EqAt A s u v (eqv x y)) :
 ∀j (h1:j<its.toArray.size) (h2:j<its2.toArray.size),EqAt A s its.toArray[j] its2.toArray[j] (eqv (l.getD j .non) (m.getD j .non)):=λj h1 h2=>by
 simp only [List.size_toArray] at h1 h2
 have l1:j<vs.length:=by rw [ri.length];exact h1
 have l2:j<ws.length:=by rw [ri2.length];exact h2
 obtain⟨x,ex,rx⟩:=r1.get' (i:=j) (v:=vs[j]) (by simp [l1])
 obtain⟨y,ey,ry⟩:=r2.get' (i:=j) (v:=ws[j]) (by simp [l2])
 obtain⟨u,eu,ru⟩:=ri.get (i:=j) (x:=vs[j]) (by simp [l1])
 obtain⟨v,ev,rv⟩:=ri2.get (i:=j) (x:=ws[j]) (by simp [l2])
 have d1:l.getD j .non=x:=by rw [List.getD_eq_getElem?_getD,ex];rfl
 have d2:m.getD j .non=y:=by rw [List.getD_eq_getElem?_getD,ey];rfl
 have q1:its.toArray[j]=u:=by
  rw [List.getElem?_eq_getElem h1] at eu
  simpa using Option.some.inj eu
 have q2:its2.toArray[j]=v:=by
  rw [List.getElem?_eq_getElem h2] at ev
  simpa using Option.some.inj ev
 rw [d1,d2,q1,q2]
 exact ih x y _ _ u v rx ry (List.all_eq_true.mp hl x (List.mem_of_getElem? ex)) (List.all_eq_true.mp hm y (List.mem_of_getElem? ey)) ru rv
noncomputable def ao9 (K:PySem.W.Frag) (g:Bool->Bool):L2.R2:=λvx vy H Q=>∃(ρ:List Addr),
 (∃x y,RV ρ H x vx/\RV ρ H y vy/\plain x=true/\plain y=true/\Q (.bl (g (eqv x y))) H)\/(∃b c,vx=.bl b/\vy=.bl c/\Q (.bl (g (b == c))) H)\/
 (∃a b l m xs ys,vx=.ref a/\vy=.ref b/\L2.SqL K H a xs/\L2.SqL K H b ys/\RVs ρ H l xs/\RVs ρ H m ys/\G8 l=true/\G8 m=true/\Q (.bl (g (N8 l m))) H)
theorem as4 (hr:X.A.units+64<cLine) {vx vy:L2.V} {u v:Value} {Q:L2.VK} {g:Bool->Bool} (I:L2.Inv X pins σ H s) (ux:L2.RelV vx u) (uy:L2.RelV vy v) (h:ao9 X.K g vx vy H Q):∃b,RcAt X.A s u v b/\RcNeAt X.A s u v (!b)/\Q (.bl (g b)) H:=by
 obtain⟨ρ,h⟩:=h
 rcases h with ⟨x,y,rx,ry,px,py,q⟩ | ⟨b,c,rfl,rfl,q⟩ | ⟨a,b,l,m,xs,ys,rfl,rfl,h1,h2,r1,r2,p1,p2,q⟩
 ·refine⟨eqv x y,?_,?_,q⟩ <;>
  (cases x with
  | tup l=>
    cases y with
    | tup m=>
      cases rx with
      | tup ha r1=>
        cases ry with
        | tup hb r2=>
          cases ux;cases uy
          obtain⟨_,its,ri,pi⟩:=I.hok _ _ ha
          obtain⟨_,its2,ri2,pi2⟩:=I.hok _ _ hb
          have z1:its.toArray.size=l.length:=by rw [List.size_toArray,←ri.length,r1.length]
          have z2:its2.toArray.size=m.length:=by rw [List.size_toArray,←ri2.length,r2.length]
          have hi:=r6 (A:=X.A.in1) (s:=s) r1 r2 ri ri2 (show l.all n9=true from px) (show m.all n9=true from py) (λx y vx vy u v rx ry h1 h2 u1 u2=>aO9 I X.A.in1 (M4 X.A 2 (by omega)) x y vx vy u v rx ry h1 h2 u1 u2)
          first
           | (have h:=RcAt.tuples (A:=X.A) (s:=s) (e:=λj=>eqv (l.getD j .non) (m.getD j .non)) pi pi2 (by omega) hi
              rw [z1,z2,←q9] at h;exact h)
           | (have h:=RcNeAt.tuples (A:=X.A) (s:=s) (e:=λj=>eqv (l.getD j .non) (m.getD j .non)) pi pi2 (by omega) hi
              rw [z1,z2,←q9] at h;exact h)
    | _=>first | exact (L0 I rx ry (by omega) ux uy (.inl ⟨_,rfl,py⟩)).2.1 | exact (L0 I rx ry (by omega) ux uy (.inl ⟨_,rfl,py⟩)).2.2
  | _=>
    cases y with
    | tup m=>first | exact (L0 I rx ry (by omega) ux uy (.inr ⟨_,rfl,px⟩)).2.1 | exact (L0 I rx ry (by omega) ux uy (.inr ⟨_,rfl,px⟩)).2.2
    | _=>first | exact (rc0 rx ry px py ux uy).1 | exact (rc0 rx ry px py ux uy).2)
 ·cases ux;cases uy
  exact⟨b == c,RcAt.bool_bool _ _,RcNeAt.bool_bool _ _,q⟩
 ·cases ux;cases uy
  obtain⟨its,ri,pi,_⟩:=I.list h1
  obtain⟨its2,ri2,pi2,_⟩:=I.list h2
  have z1:its.toArray.size=l.length:=by rw [List.size_toArray,←ri.length,r1.length]
  have z2:its2.toArray.size=m.length:=by rw [List.size_toArray,←ri2.length,r2.length]
  refine⟨N8 l m,?_,?_,q⟩
  ·by_cases hlm:l.length=m.length
   ·have hi:=r6 (A:=X.A.in1) (s:=s) r1 r2 ri ri2 p1 p2 (λx y vx vy u v rx ry h1 h2 u1 u2=>aD2 I X.A.in1 (M4 X.A 3 (by omega)) x y vx vy u v rx ry h1 h2 u1 u2)
    have h:=RcAt.lists (A:=X.A) (s:=s) (e:=λj=>eqv (l.getD j .non) (m.getD j .non)) pi.isList pi2.isList (by rw [z1,z2,hlm]) (by omega) hi
    rw [z1,←Z0 hlm] at h;exact h
   ·rw [Y9 hlm]
    exact RcAt.lists_lengths pi.isList pi2.isList (by rw [z1,z2];exact bne_iff_ne.mpr hlm) (by omega)
  ·by_cases hlm:l.length=m.length
   ·have hi:=r6 (A:=X.A.in1) (s:=s) r1 r2 ri ri2 p1 p2 (λx y vx vy u v rx ry h1 h2 u1 u2=>aD2 I X.A.in1 (M4 X.A 3 (by omega)) x y vx vy u v rx ry h1 h2 u1 u2)
    have h:=RcNeAt.lists (A:=X.A) (s:=s) (e:=λj=>eqv (l.getD j .non) (m.getD j .non)) pi.isList pi2.isList (by rw [z1,z2,hlm]) (by omega) hi
    rw [z1,←Z0 hlm] at h;exact h
   ·rw [Y9 hlm]
    exact RcNeAt.lists_lengths pi.isList pi2.isList (by rw [z1,z2];exact bne_iff_ne.mpr hlm) (by omega)
theorem g6 (hr:X.A.units+64<cLine):L2.OpR X (compareOp .Eq) (ao9 X.K id):=by
 intro pins s σ H x y v u Q I rx ry q
 obtain⟨b,h1,_,h3⟩:=as4 hr I rx ry q
 exact h1 _ _ _ _ ⟨.bl b,H,I,rfl,h3⟩
theorem S3 (hr:X.A.units+64<cLine):L2.OpR X (compareOp .NotEq) (ao9 X.K not):=by
 intro pins s σ H x y v u Q I rx ry q
 obtain⟨b,_,h2,h3⟩:=as4 hr I rx ry q
 exact h2 _ _ _ _ ⟨.bl (!b),H,I,rfl,h3⟩
theorem af1 {x y:PV} {B B':PHp} {b:Bool} {vx vy:L2.V} {Q:L2.VK} {g:Bool->Bool} (rl:Rel X.K cm ρ B H) (rx:RV ρ H x vx) (ry:RV ρ H y vy) (h:pEq x y B=.ok b B') (q:Q (.bl (g b)) H):B'=B/\ao9 X.K g vx vy H Q:=by
 have gen:∀x y,RV ρ H x vx->RV ρ H y vy->E3 (ae0 x y=true\/(plain x=true/\plain y=true)) (ret (eqv x y)) B=.ok b B'->B'=B/\ao9 X.K g vx vy H Q:=λx y rx ry h=>by
  obtain⟨c,h⟩:=C6 h
  cases h
  refine⟨rfl,ρ,?_⟩
  rcases c with c | c
  ·cases x with
   | bl b1=>
     cases y with
     | bl b2=>cases rx;cases ry;exact .inr (.inl ⟨b1,b2,rfl,rfl,q⟩)
     | _=>simp [ae0] at c
   | _=>simp [ae0] at c
  ·exact .inl ⟨x,y,rx,ry,c.1,c.2,q⟩
 cases x with
 | ref n=>
   cases y with
   | ref k=>
     obtain⟨l,B1,e1,h1⟩:=B0 h
     obtain⟨rfl,a,xs,rfl,hs,r⟩:=G9 rl rx e1
     obtain⟨m,B2,e2,h2⟩:=B0 h1
     obtain⟨rfl,a2,ys,rfl,hs2,r2⟩:=G9 rl ry e2
     obtain⟨c,h3⟩:=C6 h2
     cases h3
     exact⟨rfl,ρ,.inr (.inr ⟨a,a2,l,m,xs,ys,rfl,rfl,hs,hs2,r,r2,c.1,c.2,q⟩)⟩
   | _=>exact gen _ _ rx ry h
 | _=>cases y <;> exact gen _ _ rx ry h
theorem ac3:Q8 X.K cm oEq (ao9 X.K id):=λρ B H x y z B' vx vy Q rl rx ry ev k=>by
 obtain⟨b,B1,e1,ev1⟩:=B0 ev
 cases ev1
 have hB:B'=B:=(af1 (g:=id) (Q:=λ_ _=>True) rl rx ry e1 trivial).1
 subst hB
 exact (af1 (g:=id) rl rx ry e1 (k ρ H _ (Ext.refl _ _) rl (.bl b))).2
theorem Z1:Q8 X.K cm oNe (ao9 X.K not):=λρ B H x y z B' vx vy Q rl rx ry ev k=>by
 obtain⟨b,B1,e1,ev1⟩:=B0 ev
 cases ev1
 have hB:B'=B:=(af1 (g:=not) (Q:=λ_ _=>True) rl rx ry e1 trivial).1
 subst hB
 exact (af1 (g:=not) rl rx ry e1 (k ρ H _ (Ext.refl _ _) rl (.bl _))).2
noncomputable def a02 (K:PySem.W.Frag) (neg:Bool):L2.R2:=λvx vy H Q=>∃(ρ:List Addr) (x:PV) (a:Addr) (l:List PV) (xs:List L2.V),RV ρ H x vx/\vy=.ref a/\(L2.SqL K H a xs\/L2.SqT K H a xs)/\RVs ρ H l xs/\plain x=true/\G8 l=true/\Q (.bl (if neg then !pIn x l else pIn x l)) H
noncomputable def aw7 (ρ:List Addr) (H:L2.Hp) (x:PV) (u:Value):Bool:=@decide (∃y vy,L2.RelV vy u/\RV ρ H y vy/\plain y=true/\eqv y x=true) (Classical.propDecidable _)
theorem as5 {x y:PV} {vy:L2.V} {u:Value} (ru:L2.RelV vy u) (ry:RV ρ H y vy) (py:plain y=true):aw7 ρ H x u=eqv y x:=by
 unfold aw7
 cases e:eqv y x with
 | true=>exact @decide_eq_true _ (Classical.propDecidable _) ⟨y,vy,ru,ry,py,e⟩
 | false=>
   refine @decide_eq_false _ (Classical.propDecidable _) λ⟨z,vz,rz,qz,pz,ez⟩=>?_
   have:=rz.inj ru
   subst this
   have:=RV.uniq qz ry (R6 _ pz) (R6 _ py)
   subst this
   rw [e] at ez;cases ez
theorem r8 {x:PV}:∀{l:List PV} {xs:List L2.V} {us:List Value},RVs ρ H l xs->L2.Vals xs us->G8 l=true->us.any (aw7 ρ H x)=pIn x l
 | _,_,_,.nil,.nil,_=>rfl
 | _,_,_,.cons h r,.cons h' r',p=>by
   have p':=p
   unfold G8 at p'
   rw [List.all_cons,Bool.and_eq_true] at p'
   rw [List.any_cons,as5 h' h p'.1,r8 r r' p'.2];rfl
theorem r9 {x:PV} {vx:L2.V} {v:Value} (I:L2.Inv X pins σ H s) (A:Around) (hu:A.units+3<cLine) (rx:RV ρ H x vx) (px:plain x=true) (ux:L2.RelV vx v):∀{l:List PV} {xs:List L2.V} {us:List Value},RVs ρ H l xs->L2.Vals xs us->G8 l=true->∀u∈us,EqAt A s u v (aw7 ρ H x u)
 | _,_,_,.nil,.nil,_=>λu hu=>by cases hu
 | _,_,_,.cons h r,.cons h' r',p=>λu hm=>by
   have p':=p
   unfold G8 at p'
   rw [List.all_cons,Bool.and_eq_true] at p'
   rcases List.mem_cons.mp hm with rfl | hm
   ·rw [as5 h' h p'.1];exact aD2 I A hu _ _ _ _ _ _ h rx p'.1 px h' ux
   ·exact r9 I A hu rx px ux r r' p'.2 u hm
theorem aU6 (hr:X.A.units+64<cLine):L2.OpR X (compareOp .In) (a02 X.K false):=by
 intro pins s σ H x y v u Q I rx ry h
 obtain⟨ρ,z,a,l,xs,rz,rfl,hq,r,pz,pl,q⟩:=h
 cases ry
 rcases hq with hq | hq
 ·obtain⟨its,ri,pi,hz⟩:=I.list hq
  refine in_listAt (aw7 ρ H z) pi.isList (λw hw=>r9 I X.A.in1 (M4 X.A 3 (by omega)) rz pz rx r ri pl w (by simpa using hw)) ⟨.bl _,H,I,rfl,?_⟩
  rw [List.any_toArray,r8 r ri pl];exact q
 ·obtain⟨its,ri,pi,hz⟩:=I.tuple hq
  refine in_tupleAt (aw7 ρ H z) pi (λw hw=>r9 I X.A.in1 (M4 X.A 3 (by omega)) rz pz rx r ri pl w (by simpa using hw)) ⟨.bl _,H,I,rfl,?_⟩
  rw [List.any_toArray,r8 r ri pl];exact q
theorem a03:Q8 X.K cm oIn (a02 X.K false):=λρ B H x y z B' vx vy Q rl rx ry ev k=>by
 obtain⟨l,B1,e1,ev1⟩:=B0 ev
 obtain⟨rfl,a,xs,rfl,hs,r⟩:=Y2 rl ry e1
 obtain⟨c,ev2⟩:=C6 ev1
 cases ev2
 exact⟨ρ,x,a,l,xs,rx,rfl,hs,r,c.1,c.2,k ρ H _ (Ext.refl _ _) rl (.bl _)⟩
noncomputable def W7:Ty->String
 | .int=>"int"
 | .bool=>"bool"
 | .tuple=>"tuple"
 | .list=>"list"
structure Kit (K:PySem.W.Frag):Prop where
 t (a b:String) (ha:a∈["NoneType","bool","int","str","list","tuple"]) (hb:b∈["int","bool","tuple","list"]):PySem.W.kitOne K (.type a) (.type b)=some (a == b||(a == "bool"&&b == "int"))
noncomputable def a48 (K:PySem.W.Frag) (t:Ty):List L2.V->L2.Hp->L2.VK->Prop:=λvs H Q=>∃v ty,vs=[v,.ty (W7 t)]/\ty∈["NoneType","bool","int","str","list","tuple"]/\L2.X3 K H v (.type ty)/\Q (.bl (ty == W7 t||(ty == "bool"&&W7 t == "int"))) H
theorem aD3 (kit:Kit X.K) (t:Ty):L2.CallR X (.builtin "isinstance") (a48 X.K t):=by
 intro pins s σ H xs us Q I r h
 obtain⟨v,ty,rfl,hm,hty,q⟩:=h
 obtain⟨u,w,rfl,ru,rw'⟩:=L2.aA5 r
 cases rw'
 exact L2.ab3 I ru hty (kit.t ty (W7 t) hm (by cases t <;> simp [W7])) λtk=>⟨.bl _,H,I.tok tk,rfl,q⟩
theorem P2 {e:Expr} {d:ED} {t:Ty} {tn:Str} {p p2 pos:Pos} (kit:Kit X.K) (he:L2.PE X e (EvE X.K cm d)) (hg:L2.Gl X "isinstance") (hm:X.mg "isinstance" = none) (hgt:L2.Gl X tn) (hmt:X.mg tn=none) (hbt:bootBuiltins tn=some (.type (W7 t)))
 (hs:starEach [e,.Name tn p2] X.env=(false,eval e X.env)::starEach [.Name tn p2] X.env:=by exact C1 rfl) (hs2:starEach [Expr.Name tn p2] X.env=(false,eval (.Name tn p2) X.env)::starEach [] X.env:=by exact C1 rfl) (hpl:(backTo pos (starEach [Expr.Name tn p2] X.env)).any (·.1)=false:=by rfl)
 (hn:tn≠"__name__":=by decide) (hdb:(tn == ("__debug__" : Str))=false:=by decide) :
 L2.PE X (.Call (.Name "isinstance" p) [e,.Name tn p2] [] pos) (EvE X.K cm (S8 d t)):=
 D2 (L2.N7 (aD3 kit t) hg hm PyProof.Rows.boot_isinstance (L2.R4 he (L2.R4 (L2.aq2 (v:=.ty (W7 t)) hgt hmt hbt rfl hn hdb) L2.ad4 hs2) hs) (he:=hs) (hpl:=hpl)) λσ H Q ⟨ρ,A,σp,v,A',rl,rs,ev,k⟩=>by
  obtain⟨x,A1,e1,ev1⟩:=B0 ev
  obtain⟨b,A2,e2,ev2⟩:=B0 ev1
  cases ev2
  refine⟨ρ,A,σp,x,A1,rl,rs,e1,λρ1 H1 v1 x1 rl1 rv1=>?_⟩
  cases x with
  | non=>cases rv1;cases t <;> cases e2 <;> exact⟨_,"NoneType",rfl,by simp,.non,k ρ1 H1 _ x1 rl1 (.bl _)⟩
  | bl c=>cases rv1;cases t <;> cases e2 <;> exact⟨_,"bool",rfl,by simp,.bl c,k ρ1 H1 _ x1 rl1 (.bl _)⟩
  | int i=>cases rv1;cases t <;> cases e2 <;> exact⟨_,"int",rfl,by simp,.int i,k ρ1 H1 _ x1 rl1 (.bl _)⟩
  | str z=>cases rv1;cases t <;> cases e2 <;> exact⟨_,"str",rfl,by simp,.str z,k ρ1 H1 _ x1 rl1 (.bl _)⟩
  | tup l=>
    cases rv1 with
    | tup ha r=>cases t <;> cases e2 <;> exact⟨_,"tuple",rfl,by simp,.tup ha,k ρ1 H1 _ x1 rl1 (.bl _)⟩
  | ref n=>
    cases t <;>
    (obtain⟨l,A3,e3,e4⟩:=B0 e2
     obtain⟨rfl,hA,a,xs,rfl,hn,hH,r⟩:=Q9 rl1 rv1 e3
     cases e4
     exact⟨_,"list",rfl,by simp,.lst hH,k ρ1 H1 _ x1 rl1 (.bl _)⟩)
end
end Ws
namespace Ws
open PySem
theorem s8 {X:L2.Cx} {pins:List (Addr×Obj)} {σ:L2.St} {H:L2.Hp} {s:Shared} {h':Heap} {t':Nat} {fp:List Addr} {T:Addr} {o:L2.HO} (I:L2.Inv X pins σ H s) (hf:∀b∈fp,L2.X0 X pins H b)
 (k:∀b u,b∉fp->s.heap.get? b=some u->h'.get? b=some u) (hT:s.heap.objs.size<=T) (new:L2.ObjOk X.prog X.w (L2.upd H T o) h' T o):L2.Inv X pins σ (L2.upd H T o) { s with heap:=h',toks:=t' }:=by
 have hn:H T=none:=I.hok.fresh hT
 have neT:∀b u,s.heap.get? b=some u->b≠T:=λb u e=>Nat.ne_of_lt (Nat.lt_of_lt_of_le (Heap.lt_size e) hT)
 have nfp:∀b u,H b=some u->b∉fp:=λb u e z=>by rw [(hf b z).1] at e;cases e
 refine I.step (g':=s.gens) (d':=s.drawn) (ch:=fp) (λb hb=>?_) (λb u _ _ hc e _=>k b u hc e) (λb u _ _ hc e _=>⟨u.slots,k b u hc e⟩) (λb u hc e n=>by rw [L2.C9 (neT b u e)];exact n) (λb u hc e=>⟨u,k b u hc e⟩)
  (λb xs e=>by rw [L2.C9 (L2.E7 e hn)];exact e) (λb u xs e=>by rw [L2.C9 (L2.E7 e hn)];exact e) (λb ps e=>⟨#[],by rw [L2.C9 (L2.E7 e hn),e];simp⟩) (λm hm=>?_) (λb u e=>?_) I.bare
 ·obtain⟨_,f1,_,f3,f4,f5⟩:=hf b hb
  exact⟨f3,f1,f4,f5⟩
 ·obtain⟨ob,es,ep,ho,r⟩:=hm
  exact⟨ob,es,ep,k _ ob (λz=>(hf _ z).2.1 rfl) ho,r⟩
 ·by_cases hb:b=T
  ·subst hb;rw [L2.C7] at e;cases e;exact new
  ·rw [L2.C9 hb] at e
   refine (I.hok b u e).stay (λc v hc q=>k c v ?_ q) (λc q=>by rw [L2.C9 (L2.E7 q hn)];exact q) λc xs q=>by rw [L2.C9 (L2.E7 q hn)];exact q
   rcases hc with rfl | hc
   ·exact nfp c u e
   ·exact nfp c _ hc
theorem ac4 {X:L2.Cx} {pins:List (Addr×Obj)} {σ:L2.St} {H:L2.Hp} {s:Shared} {h':Heap} {t':Nat} {fp:List Addr} (I:L2.Inv X pins σ H s) (hf:∀b∈fp,L2.X0 X pins H b)
 (k:∀b u,b∉fp->s.heap.get? b=some u->h'.get? b=some u):L2.Inv X pins σ H { s with heap:=h',toks:=t' }:=by
 have nfp:∀b u,H b=some u->b∉fp:=λb u e z=>by rw [(hf b z).1] at e;cases e
 refine I.step (g':=s.gens) (d':=s.drawn) (ch:=fp) (λb hb=>?_) (λb u _ _ hc e _=>k b u hc e) (λb u _ _ hc e _=>⟨u.slots,k b u hc e⟩) (λb u hc e n=>n) (λb u hc e=>⟨u,k b u hc e⟩)
  (λb xs e=>e) (λb u xs e=>e) (λb ps e=>⟨#[],by rw [e];simp⟩) (λm hm=>?_) (λb u e=>?_) I.bare
 ·obtain⟨_,f1,_,f3,f4,f5⟩:=hf b hb
  exact⟨f3,f1,f4,f5⟩
 ·obtain⟨ob,es,ep,ho,r⟩:=hm
  exact⟨ob,es,ep,k _ ob (λz=>(hf _ z).2.1 rfl) ho,r⟩
 ·refine (I.hok b u e).stay (λc v hc q=>k c v ?_ q) (λc q=>q) λc xs q=>q
  rcases hc with rfl | hc
  ·exact nfp c u e
  ·exact nfp c _ hc
theorem aw8 {P:Program} {w:World} {K:PySem.W.Frag} {elts:List Expr} {x1:Nat} {pos:Pos} (a e it:Addr) (hei:e≠it):L2.al8 P w K (.Tuple elts x1 pos) (Ite K a) [e,it] e (λi h=>(∃old,IsEnum h e it i old)/\h.IsListIter it a i) where
 mem:=by simp
 obj:=λi h st b hb=>by
  obtain⟨⟨old,he⟩,o,e1,c,d⟩:=st
  rcases List.mem_cons.mp hb with rfl | hb
  ·exact⟨_,he,λv z=>by cases z⟩
  ·have e2:b=it:=by simpa using hb
   subst e2
   exact⟨o,e1,λv z=>by rw [d] at z;cases z⟩
 keep:=λi h h' st k=>by
  obtain⟨⟨old,he⟩,hit⟩:=st
  exact⟨⟨old,k e (by simp) _ he⟩,hit.at λo x=>k it (by simp) o x⟩
 item:=by
  intro X hP hw hK hc i pins s σ H E I hf st hg
  subst hP hw hK
  obtain⟨xs,x,hq,hx⟩:=hg
  obtain⟨its,rv,p,hz⟩:=I.list hq
  obtain⟨u,hu,ru⟩:=rv.get hx
  obtain⟨⟨old,he⟩,hit⟩:=st
  have el:=Heap.lt_size he
  refine wpAny_pyNext_enum_item he hit p.isList (x:=u) (by simpa using hu) hei λh' ho hit' hT hsz hk=>?_
  refine⟨.ref s.heap.objs.size,rfl,wpAny_letOwnedTupleGo_enum (s:={ s with heap:=h',toks:=s.toks+1 }) ho λh2 he2 hs2=>?_⟩
  have sb:∀b u,b≠e->h'.get? b=some u->h2.get? b=some u:=λb u hb q=>(hs2.2 b hb).trans q
  have hTe:s.heap.objs.size≠e:=Nat.ne_of_gt el
  have I2:L2.Inv X pins σ (L2.upd H s.heap.objs.size (.tup [.int i,x])) { s with heap:=h2,toks:=s.toks+1 }:=by
   refine s8 (s:=s) (t':=s.toks+1) I hf (λb u hb q=>?_) (Nat.le_refl _) ?_
   ·have h1:b≠e:=λz=>hb (by simp [z])
    have h2:b≠it:=λz=>hb (by simp [z])
    exact sb b u h1 (hk b u h1 h2 q)
   ·exact⟨by show 2<=sizeLine;decide,[.int i s.toks,u],.cons ⟨_,rfl⟩ (.cons ru .nil),_,sb _ _ hTe hT,rfl,_,rfl⟩
  refine⟨.ref s.heap.objs.size,L2.upd H s.heap.objs.size (.tup [.int i,x]),I2,rfl,⟨x,s.heap.objs.size,λys hy=>by rw [I.list_inj hy hq];exact hx,I.hok.fresh (Nat.le_refl _),rfl,rfl⟩,⟨⟨u,by exact_mod_cast he2⟩,hit'.at λo y=>sb it o hei.symm y⟩,λb hb=>?_⟩
  ·rw [L2.C9]
   ·exact (hf b hb).1
   ·rcases List.mem_cons.mp hb with rfl | hb
    ·exact hTe.symm
    ·have e2:b=it:=by simpa using hb
     subst e2
     obtain⟨_,y,_⟩:=hit
     exact Nat.ne_of_lt (Heap.lt_size y)
 done:=by
  intro X hP hw hK hc i pins s σ H E I hf st hg
  subst hP hw hK
  obtain⟨xs,hq,hx⟩:=hg
  obtain⟨its,rv,p,hz⟩:=I.list hq
  obtain⟨⟨old,he⟩,hit⟩:=st
  have hl:=rv.length
  exact wpAny_pyNext_enum_end (I.ok.hd hc) he hit p.isList (by rw [Array.getElem?_eq_none];simp;omega) λh' eb=>⟨rfl,ac4 (t':=s.toks) I hf λb u hb q=>eb b u (λz=>hb (by simp [z])) q⟩
 self:=λ_ _ _ _ _ st h=>by
  obtain⟨⟨old,he⟩,_⟩:=st
  exact wpAny_pyIter_enum he h
section
variable {X:L2.Cx} {cm:Nat->Addr}
theorem a04 {l:Expr} {d:ED} {elts:List Expr} {x1:Nat} {tpos p pos:Pos} (hg:L2.Gl X "enumerate") (hm:X.mg "enumerate" = none) (hl:L2.PE X l (EvE X.K cm d)) (hs:starEach [l] X.env=(false,eval l X.env)::starEach [] X.env:=by exact C1 rfl):L2.PI X (.Tuple elts x1 tpos) (.Call (.Name "enumerate" p) [l] [] pos) (EvI X.K cm (aZ3 d)):=by
 intro pins s σ H R I h
 obtain⟨ρ,A,σp,J,A',rl,rs,ev,k⟩:=h
 obtain⟨x,A1,e1,ev1⟩:=B0 ev
 refine PyProof.Rows.Call_ (L2.V9 I hg hm PyProof.Rows.boot_enumerate (PyProof.Rows.callWith_type1 (L2.thn ((r_cons hl r_nil hs) pos pins s σ H (λvs H1=>∃a xs,vs=[.ref a]/\L2.SqL X.K H1 a xs/\R (Ite X.K a) H1) I ⟨ρ,A,σp,[x],A1,rl,rs,by show bnd (d σp) _ A=_;rw [bnd_ok e1];rfl,λρ1 H1 vs1 x1 rl1 rv1=>?_⟩) λus s1 ⟨vs,H1,I1,r1,q1⟩=>?_) hs rfl))
 ·cases x with
  | ref n=>
    obtain⟨m,A2,e2,ev2⟩:=B0 ev1
    cases rv1 with
    | cons hv hr=>
      cases hr
      obtain⟨rfl,a,xs,rfl,hq,r⟩:=G9 rl1 hv e2
      cases ev2
      cases hv with
      | ref hn=>exact⟨a,xs,rfl,hq,k ρ1 H1 _ x1 rl1 ⟨a,hn,rfl⟩⟩
  | _=>cases ev1
 ·obtain⟨a,xs,rfl,hq,q⟩:=q1
  obtain⟨u,rfl,rx⟩:=L2.X1 r1
  cases rx
  obtain⟨its,rv,pl,hz⟩:=I1.list hq
  refine call_enumerate_list pl.isList λh' he hit hsz kp=>?_
  refine wpAny_pyIter_enum he ?_
  have I2:L2.Inv X pins σ H1 { s1 with heap:=h' }:=I1.kept (t':=s1.toks) kp
  refine⟨s1.heap.objs.size+1,[s1.heap.objs.size+1,s1.heap.objs.size],_,_,H1,rfl,I2,aw8 a _ _ (Nat.succ_ne_self _),⟨⟨_,he⟩,hit⟩,λb hb=>?_,q⟩
  have hb2:s1.heap.objs.size<=b:=by
   rcases List.mem_cons.mp hb with rfl | hb
   ·exact Nat.le_succ _
   ·have:b=s1.heap.objs.size:=by simpa using hb
    exact Nat.le_of_eq this.symm
  exact I1.fpOk hb2 (I1.hok.fresh hb2)
end
end Ws
namespace Ws
open PySem
structure Def (P:Program) (w:World) (K:PySem.W.Frag) (mg:Str->Option Value) (base:Heap) (cm:Nat->Addr) (x:Str) (k:Nat) (ps:List Str) (f:Fun) (n:Nat):Prop where
 ex:∃(fa:Addr) (fd:FuncData),L2.FnOk P w K mg base L2.CX0 k fa fd ps (SpF K cm f n)/\mg x=some (.ref fa)/\PySem.W.keepIn K (.ref fa)=true/\L2.Binds K fd ps []
 len:∀vs A v A',f vs A=.ok v A'->vs.length=n
structure g7 (P:Program) (w:World) (K:PySem.W.Frag) (mg:Str->Option Value) (base:Heap) (cm:Nat->Addr) (c:Nat) (m:Str) (k:Nat) (ps:List Str) (f:Fun) (n:Nat):Prop where
 ex:∃(fa:Addr) (fd:FuncData),L2.FnOk P w K mg base L2.CX0 k fa fd ps (SpF K cm f n)/\L2.aA8 K (cm c) m fa/\L2.Binds K fd ps []
 len:∀vs A v A',f vs A=.ok v A'->vs.length=n
structure s9 (P:Program) (w:World) (K:PySem.W.Frag) (mg:Str->Option Value) (base:Heap) (cm:Nat->Addr) (c:Nat) (x:Str) (k:Nat) (ps:List Str) (f:Fun) (n:Nat):Prop where
 ex:∃(fa:Addr) (fd:FuncData),L2.FnOk P w K mg base L2.CX0 k fa fd ps (SpF K cm f n)/\L2.Mk K (cm c) fa/\mg x=some (.ref (cm c))/\L2.Binds K fd ps []
 len:∀vs A v A',f vs A=.ok v A'->vs.length=n/\v=.non
section
variable {X:L2.Cx} {cm:Nat->Addr}
theorem G6 {f:Fun} {n k k':Nat} {ps:List Str} {x:Str} {e:Expr} {es:List Expr} {ds:AD} {p pos:Pos} (D:Def X.prog X.w X.K X.mg X.base cm x k ps f n) (hk:k<=k') (hr:L2.Room k' X.A) (hg:L2.Gl X x)
 (ha:L2.PA X (e::es) (EvA X.K cm ds)) (hdb:(x == ("__debug__" : Str))=false:=by decide) (he:starEach (e::es) X.env=(false,eval e X.env)::starEach es X.env:=by exact C1 rfl) (hpl:(backTo pos (starEach es X.env)).any (·.1)=false:=by rfl) :
 L2.PE X (.Call (.Name x p) (e::es) [] pos) (EvE X.K cm (L3 f ds)):=by
 obtain⟨fa,fd,F,hm,hkp,hb⟩:=D.ex
 exact aU1 F D.len (hr.mono hk) hg hm hkp hb ha hdb he hpl
theorem as6 {c:Nat} {f:Fun} {n k k':Nat} {ps:List Str} {m:Str} {o e:Expr} {es:List Expr} {d:ED} {ds:AD} {apos pos:Pos} {pl:Sem Bool} (D:g7 X.prog X.w X.K X.mg X.base cm c m k ps f n) (hk:k<=k') (hr:L2.Room k' X.A) (hc:L2.Cls X.K (cm c)) (ho:L2.PE X o (EvE X.K cm d)) (ha:L2.PA X (e::es) (EvA X.K cm ds)) (hnm:∀i,i<19->fnm i≠m)
 (hst:starEach (e::es) X.env=(false,eval e X.env)::starEach es X.env:=by exact C1 rfl) (hpl:(backTo pos (starEach es X.env)).any (·.1)=false:=by rfl)
 (ht:eval (.Call (.Attribute o m apos) (e::es) [] pos) X.env=(do
  let ov ←eval o X.env
  standAt apos.atName
  let (f,first) ←holding [ov] (getMethod ov m pl)
  callWith pos f first (backTo pos (starEach (e::es) X.env)) (backToKw pos (keywordEach [] X.env))):=by rfl) :
 L2.PE X (.Call (.Attribute o m apos) (e::es) [] pos) (EvE X.K cm (S9 c f d ds)):=by
 obtain⟨fa,fd,F,hm,hb⟩:=D.ex
 exact aU2 (pl:=pl) ho hc hm F D.len hnm (hr.mono hk) hb ha hst hpl ht
theorem U7 {c:Nat} {f:Fun} {n k k':Nat} {ps:List Str} {x:Str} {e:Expr} {es:List Expr} {ds:AD} {p pos:Pos} (D:s9 X.prog X.w X.K X.mg X.base cm c x k ps f n) (hk:k+1<=k') (hr:L2.Room k' X.A)
 (hg:L2.Gl X x) (ha:L2.PA X (e::es) (EvA X.K cm ds)) (hdb:(x == ("__debug__" : Str))=false:=by decide) (he:starEach (e::es) X.env=(false,eval e X.env)::starEach es X.env:=by exact C1 rfl) (hpl:(backTo pos (starEach es X.env)).any (·.1)=false:=by rfl) (h7:c<7:=by decide) :
 L2.PE X (.Call (.Name x p) (e::es) [] pos) (EvE X.K cm (V3 c f ds)):=by
 obtain⟨fa,fd,F,hM,hm,hb⟩:=D.ex
 exact aU3 h7 hM F D.len (hr.mono hk) hg hm hb ha hdb he hpl
theorem aD4 {x:Str} {i:Int} {pos:Pos} (hg:L2.Gl X x) (hm:∃t,X.mg x=some (.int i t)) (hd:(x == ("__debug__" : Str))=false:=by decide):L2.PE X (.Name x pos) (EvE X.K cm (eK (.int i))):=by
 obtain⟨t,hm⟩:=hm
 exact r_k (L2.aq1 hg hm (show L2.RelV (.int i) (.int i t) from ⟨t,rfl⟩) hd) λ_ _=>.int i
end
structure P3 (K:PySem.W.Frag) (mg:Str->Option Value) (cm:Nat->Addr):Prop where
 kit:Kit K
 cls:∀c,c<7->L2.Cls K (cm c)
 na:∀c i,i<19->c<7->L2.NoAttr K (cm c) (fnm i)
 b_len:mg "len" = none
 b_range:mg "range" = none
 b_list:mg "list" = none
 b_sorted:mg "sorted" = none
 b_isinstance:mg "isinstance" = none
 b_int:mg "int" = none
 b_bool:mg "bool" = none
 b_tuple:mg "tuple" = none
 b_enumerate:mg "enumerate" = none
 b_reversed:mg "reversed" = none
 b_max:mg "max" = none
 b_min:mg "min" = none
 b_all:mg "all" = none
 b_any:mg "any" = none
 b_set:mg "set" = none
 b_zip:mg "zip" = none
 b_dict:mg "dict" = none
end Ws
namespace Ws
open PySem
section
variable {prog:Program} {w:World} {A:Around} {R:Result->Shared->Prop} {s:Shared}
noncomputable abbrev as7 (ifs:List Expr) (env:Env):Sem Bool:=forIn ifs true λc r=>if r=true then do let ok ←isTrue c env (eval c env);pure (ForInStep.yield ok) else pure (ForInStep.yield r)
theorem aw9 {elt target iter:Expr} {ifs:List Expr} {scope:Scope} {pos:Pos} {it acc:Value} {env:Env} (I:Nat->Shared->Prop)
 (turn:∀n s,I n s->wpAny (model prog w) A (pyNext it) (λr s₁=>match r with
  | none=>R (.ok .next) s₁
  | some v=>wpAny (model prog w) A (letOwnedTupleGo target it v) (λ_ s₀=>wpAny (model prog w) A (assign target env v) (λ_ s₂=>
   wpAny (model prog w) A (as7 ifs env) (λok s₃=>
    if ok=true then wpAny (model prog w) A (eval elt env) (λx s₄=>
     wpAny (model prog w) A (call (.builtin "list.append") [acc,x]) (λ_ s₅=>∃m,m<n/\I m s₅) (λ_ _=>False) s₄) (λ_ _=>False) s₃
    else ∃m,m<n/\I m s₃) (λ_ _=>False) s₂) (λ_ _=>False) s₀) (λ_ _=>False) s₁) (λ_ _=>False) s)
 (n:Nat) (h:I n s):codeAny (model prog w) A (.compLoop (.ListComp elt [⟨target,iter,ifs,0⟩] scope pos) 0 it acc env) R s:=by
 have fe:∀{E':Value->Shared->Prop} {e:Value} {s':Shared},False->E' e s':=λh=>h.elim
 refine codeAny_loop rfl I (λn s hI=>?_) n h
 show wpAny _ A ((compTurn (.ListComp elt [⟨target,iter,ifs,0⟩] scope pos) 0 it acc env).onRaise (λx=>do noteFrame x env;theTreesLotGoes x)) _ _ s
 refine wpAny_noted ?_
 rw [compTurn_list]
 refine wpAny_bind (wpAny_standAt (wpAny_bind (wpAny_mono (turn n s hI) (λr s₁ h₁=>?_) λ_ _ h'=>h'.elim)))
 cases r with
 | none=>exact wpAny_pure h₁
 | some v=>
   refine wpAny_bind (wpAny_mono h₁ (λ_ s₀ h₀=>?_) λ_ _ h'=>h'.elim)
   refine wpAny_bind (wpAny_mono h₀ (λ_ s₂ h₂=>wpAny_bind (wpAny_mono h₂ (λok s₃ h₃=>?_) λ_ _ h'=>h'.elim)) λ_ _ h'=>h'.elim)
   cases ok with
   | false=>exact wpAny_pure ⟨rfl,h₃⟩
   | true=>
     exact wpAny_bind (wpAny_bind (wpAny_mono h₃ (λx s₄ h₄=>wpAny_bind (wpAny_mono h₄ (λ_ s₅ h₅=>wpAny_pure (wpAny_pure ⟨rfl,h₅⟩)) λ_ _ h'=>h'.elim)) λ_ _ h'=>h'.elim))
end
noncomputable def blk (X:L2.Cx) (N:List Str) (scope:Scope) (cl:List (Str×Addr)) (C:Addr) (s₀:Shared) (H₀:L2.Hp) (fp:List Addr):L2.Cx where
 prog:=X.prog
 w:=X.w
 K:=X.K
 mg:=X.mg
 base:=X.base
 A:=X.A
 N:=N
 s₀:=s₀
 H₀:=H₀
 env:=compEnvC scope cl C X.env
 outer:=X.stack
 stack:=X.stack
 ex:=fp
 fn:=λ_=>false
 calm:=X.calm
 pn:=[]
 xe:=λ_ _=>False
inductive FreeOk (X:L2.Cx) (scope:Scope) (cl:List (Str×Addr)):List Str->List (Option Nat)->Prop where
 | nil:FreeOk X scope cl [] []
 | own {x:Str} {N:List Str} {js:List (Option Nat)} (h:FreeOk X scope cl N js):FreeOk X scope cl (x::N) (none::js)
 | free {x:Str} {j:Nat} {N:List Str} {js:List (Option Nat)} (h1:X.N[j]?=some x) (h2:X.env.kindOf x=some .cell\/X.env.kindOf x=some .free) (h3:L2.Vis X.env.scope x) (h4:cl.lookup x=X.env.cells.lookup x) (h5:(relabel scope X.env).names.lookup x=some .cell\/(relabel scope X.env).names.lookup x=some .free) (h:FreeOk X scope cl N js):FreeOk X scope cl (x::N) (some j::js)
theorem FreeOk.len {X:L2.Cx} {scope:Scope} {cl:List (Str×Addr)}:∀{N:List Str} {js:List (Option Nat)},FreeOk X scope cl N js->js.length=N.length
 | _,_,.nil=>rfl
 | _,_,.own h=>by simp [h.len]
 | _,_,.free _ _ _ _ _ h=>by simp [h.len]
theorem FreeOk.get {X:L2.Cx} {scope:Scope} {cl:List (Str×Addr)}:∀{N:List Str} {js:List (Option Nat)} {i j:Nat} {x:Str},FreeOk X scope cl N js->N[i]?=some x->js[i]?=some (some j)->X.N[j]?=some x/\(X.env.kindOf x=some .cell\/X.env.kindOf x=some .free)/\L2.Vis X.env.scope x/\cl.lookup x=X.env.cells.lookup x/\((relabel scope X.env).names.lookup x=some .cell\/(relabel scope X.env).names.lookup x=some .free)
 | _,_,_,_,_,.nil,h,_=>by simp at h
 | _,_,0,_,_,.own _,_,h=>by simp at h
 | _,_,i+1,_,_,.own h,h1,h2=>FreeOk.get (i:=i) h (by simpa using h1) (by simpa using h2)
 | _,_,0,_,_,.free a b c d e _,h1,h2=>by simp at h1 h2;subst h1;subst h2;exact⟨a,b,c,d,e⟩
 | _,_,i+1,_,_,.free _ _ _ _ _ h,h1,h2=>FreeOk.get (i:=i) h (by simpa using h1) (by simpa using h2)
theorem as8 {α:Type} {js:List (Option Nat)} {σ:List (Option α)} {i:Nat} {v:α} (h:(bst js σ)[i]?=some (some v)):∃j,js[i]?=some (some j)/\σ[j]?=some (some v):=by
 unfold bst at h
 rw [List.getElem?_map] at h
 rcases e:js[i]? with _ | (_ | j)
 ·rw [e] at h;cases h
 ·rw [e] at h;cases h
 ·rw [e] at h
  refine⟨j,rfl,?_⟩
  have h':σ.getD j none=some v:=Option.some.inj h
  rw [List.getD_eq_getElem?_getD] at h'
  rcases e2:σ[j]? with _ | o
  ·rw [e2] at h';cases h'
  ·rw [e2] at h';exact congrArg some h'
theorem RSt.bst {ρ:List Addr} {H:L2.Hp} {σp:PSt} {σ:L2.St} (h:RSt ρ H σp σ) (js:List (Option Nat)):RSt ρ H (Ws.bst js σp) (Ws.bst js σ):=by
 refine⟨by simp [Ws.bst],λi p hp=>?_⟩
 obtain⟨j,h1,h2⟩:=as8 hp
 obtain⟨v,h3,h4⟩:=h.get j p h2
 refine⟨v,?_,h4⟩
 unfold Ws.bst
 rw [List.getElem?_map,h1]
 show some (σ.getD j none)=_
 rw [List.getD_eq_getElem?_getD,h3];rfl
structure aD5 (X:L2.Cx) (scope:Scope) (cl:List (Str×Addr)):Prop where
 kind:scope.kind=.function
 clos:closureFor scope X.env=pure cl
 nocell:∀y∈scope.names,y.2≠.cell
 names:∀y∈scope.names,y.2=.local->scope.names.lookup y.1=some .local
 sub:∀p∈cl,X.env.cells.lookup p.1=some p.2
 has:∀y∈scope.names,y.2=.free->(cl.lookup y.1).isSome=true
theorem aj3 {X:L2.Cx} {scope:Scope} {cl:List (Str×Addr)} (S:aD5 X scope cl) {x:Str} (h:(relabel scope X.env).names.lookup x=some .cell\/(relabel scope X.env).names.lookup x=some .free):∃c,cl.lookup x=some c:=by
 have key:∀k,(x,k)∈(relabel scope X.env).names->k=.cell\/k=.free->∃c,cl.lookup x=some c:=λk hm hk=>by
  unfold relabel at hm
  obtain⟨⟨n,k'⟩,hy,e⟩:=List.mem_map.mp hm
  dsimp only at e
  have hfree:n=x/\k'=.free:=by
   split at e
   ·rename_i hc
    cases e
    simp only [Bool.and_eq_true,beq_iff_eq] at hc
    exact⟨rfl,hc.1.1⟩
   ·cases e
    rcases hk with rfl | rfl
    ·exact absurd rfl (S.nocell _ hy)
    ·exact⟨rfl,rfl⟩
  obtain⟨rfl,rfl⟩:=hfree
  exact Option.isSome_iff_exists.mp (S.has _ hy rfl)
 rcases h with h | h
 ·exact key _ (PySem.mem_of_lookup h) (.inl rfl)
 ·exact key _ (PySem.mem_of_lookup h) (.inr rfl)
section
variable {X:L2.Cx} {cm:Nat->Addr} {pins:List (Addr×Obj)} {σ:L2.St} {H:L2.Hp} {s:Shared}
theorem ax0 {N:List Str} {js:List (Option Nat)} {scope:Scope} {cl:List (Str×Addr)} {C:Addr} {fp:List Addr} {h':Heap} {t':Nat} {m:Str->Option Value} (S:aD5 X scope cl) (Fr:FreeOk X scope cl N js) (I:L2.Inv X pins σ H s) (hf:∀b∈fp,L2.X0 X pins H b) (hfl:∀b∈fp,b<s.heap.objs.size)
 (hC:s.heap.objs.size<=C) (kp:∀b u,s.heap.get? b=some u->h'.get? b=some u) (hns:h'.Ns C m):L2.Inv (blk X N scope cl C s H fp) [] (Ws.bst js σ) H { s with heap:=h',toks:=t' }:=by
 have I1:L2.Inv X pins σ H { s with heap:=h',toks:=t' }:=I.kept kp
 have sub:∀x c,cl.lookup x=some c->X.env.cells.lookup x=some c:=λx c e=>S.sub (x,c) (PySem.mem_of_lookup e)
 refine⟨⟨I.ok.mod,S.kind,I.ok.glob,I.ok.blt,hC,λx y c h1 h2=>I.ok.inj x y c (sub x c h1) (sub y c h2),λx hx=>aj3 S hx,λx c h=>(nomatch h),I.ok.hd,I.ok.frames,.inl rfl,λb hb=>⟨Nat.ne_of_lt (Nat.lt_of_lt_of_le (hfl b hb) hC),λx c e=>(hf b hb).2.2.2.2.1 x c (sub x c e)⟩,
  I.bs,Nat.le_trans I.ok.bsz I.sz,λb o e hb=>?_,λb hb hz=>?_,I.stack,I.stkFree⟩,rfl,I.bare,L2.Un.kept kp,⟨m,hns,λi x v h1 h2 h3=>?_⟩,λx c e=>I1.cell x c (sub x c e),I.hok.fresh hC,λx c e=>I.freeC x c (sub x c e),λp hp=>absurd (show p∈([]:List (Addr×Obj)) from hp) (by simp),I1.hok,by simp [Ws.bst,Fr.len,blk]⟩
 ·rcases (hf b hb).2.2.2.1 with z | z
  ·exact I.ok.noex b o e z
  ·exact absurd (Nat.lt_of_lt_of_le (Heap.lt_size e) (Nat.le_trans I.ok.bsz z)) (Nat.lt_irrefl _)
 ·rcases List.mem_cons.mp (I.stkSub b hz) with z | z
  ·exact (hf b hb).2.1 z
  ·exact (hf b hb).2.2.1 z
 ·obtain⟨j,j1,j2⟩:=as8 h2
  obtain⟨a1,a2,a3,a4,a5⟩:=Fr.get h1 j1
  obtain⟨m0,_,hl⟩:=I1.loc
  obtain⟨u,ru,lk⟩:=hl j x v a1 j2 a3
  refine⟨u,ru,?_⟩
  rcases lk with ⟨q,_⟩ | ⟨_,c,e1,e2⟩
  ·rcases a2 with a2 | a2 <;> (rw [a2] at q;cases q)
  ·exact .inr ⟨a5,c,a4.trans e1,e2⟩
theorem a05 {D:Addr} {o:L2.HO} {fp:List Addr} (I:L2.Inv X pins σ H s) (hD:L2.X0 X pins H D) (new:L2.ObjOk X.prog X.w (L2.upd H D o) s.heap D o):L2.Inv X pins σ (L2.upd H D o) s:=by
 have hn:=hD.1
 have ne:∀b u,H b=some u->b≠D:=λb u e z=>by rw [z,hn] at e;cases e
 obtain⟨hp,g,d,tk,os⟩:=s
 refine I.step (g':=g) (d':=d) (t':=tk) (h':=hp) (ch:=[D]) (λb hb=>?_) (λb u _ _ _ e _=>e) (λb u _ _ _ e _=>⟨u.slots,e⟩) (λb u hc e n=>by rw [L2.C9 (λz=>hc (by simp [z]))];exact n) (λb u _ e=>⟨u,e⟩)
  (λb xs e=>by rw [L2.C9 (ne b _ e)];exact e) (λb u xs e=>by rw [L2.C9 (ne b _ e)];exact e) (λb ps e=>⟨#[],by rw [L2.C9 (ne b _ e),e];simp⟩) (λm hm=>hm) (λb u e=>?_) I.bare
 ·have e:b=D:=by simpa using hb
  subst e
  exact⟨hD.2.2.2.1,hD.2.1,hD.2.2.2.2.1,hD.2.2.2.2.2⟩
 ·by_cases hb:b=D
  ·subst hb;rw [L2.C7] at e;cases e;exact new
  ·rw [L2.C9 hb] at e
   exact (I.hok b u e).stay (λc v _ q=>q) (λc q=>by rw [L2.C9 (ne c _ q)];exact q) λc xs q=>by rw [L2.C9 (ne c _ q)];exact q
end
end Ws
namespace Ws
open PySem
section
variable {X:L2.Cx} {cm:Nat->Addr}
noncomputable def PTs (X:L2.Cx) (ifs:List Expr) (t:L2.TT):Prop:=
 ∀(pins:List (Addr×Obj)) (s:Shared) (σ:L2.St) (H:L2.Hp) (Q:Bool->L2.Hp->Prop),L2.Inv X pins σ H s->t σ H Q->wpAny (model X.prog X.w) X.A (as7 ifs X.env) (L2.TP X pins σ Q) X.xe s
theorem af2:PTs X [] (EvT X.K cm o3):=λpins s σ H Q I ⟨ρ,A,σp,b,A',rl,rs,ev,k⟩=>by
 cases ev
 exact wpAny_tests_nil ⟨H,I,k ρ H (Ext.refl _ _) rl⟩
theorem aD6 {c:Expr} {t:TD} (h:L2.PT X c (EvT X.K cm t)):PTs X [c] (EvT X.K cm t):=λpins s σ H Q I q=>wpAny_tests_one (h pins s σ H Q I q)
theorem ac5 {elt tg iter:Expr} {ifs:List Expr} {scope:Scope} {pos:Pos} {cl:List (Str×Addr)} {N:List Str} {js:List (Option Nat)} {g:GD} {t:TD} {e:ED} {pins:List (Addr×Obj)} {σ:L2.St} {H:L2.Hp} {s:Shared}
 {it:Addr} {fp:List Addr} {tn:Nat->Heap->Prop} {j:L2.It} {J:It} {ρ:List Addr} {A A':PHp} {σp:PSt} {n:Nat} {ys:List PV} {RR:Value->Addr->Result->Shared->Prop} {E:Value->Shared->Prop}
 (hc:X.calm=true) (S:aD5 X scope cl) (Fr:FreeOk X scope cl N js)
 (hg:∀C s0 H0 fp,L2.PG (blk X N scope cl C s0 H0 fp) tg (EvG X.K cm g)) (ht:∀C s0 H0 fp,PTs (blk X N scope cl C s0 H0 fp) ifs (EvT X.K cm t)) (he:∀C s0 H0 fp,L2.PE (blk X N scope cl C s0 H0 fp) elt (EvE X.K cm e))
 (I:L2.Inv X pins σ H s) (T:L2.al8 X.prog X.w X.K tg j fp it tn) (st:tn 0 s.heap) (hf:∀b∈fp,L2.X0 X pins H b) (rj:RIt X.K ρ H J j) (rl:Rel X.K cm ρ A H) (rs:RSt ρ H σp σ)
 (ev:T0 J g t e (n+1) 0 (Ws.bst js σp) A=.ok ys A') (hy:ys.length<=LIM)
 (hRR:∀D C s' m,s'.heap.Ns C m->C≠X.env.locals->(∀h'',Heap.SameBut C s'.heap h''->∃ρ' H',Ext ρ H ρ' H'/\Rel X.K cm ρ' (A'++[.lst ys]) H'/\ρ'[A'.length]?=some D/\L2.Inv X pins σ H' { s' with heap:=h'' }/\L2.X0 X pins H' C)->RR (.ref D) C (.ok .next) s') :
 wpAny (model X.prog X.w) X.A (newList []) (λacc s₃=>wpAny (model X.prog X.w) X.A (newFunctionEnv scope X.env.globals cl [] X.env.qual none .none (some X.env)) (λcenv s₄=>
  codeAny (model X.prog X.w) X.A (.compStart (.ListComp elt [⟨tg,iter,ifs,0⟩] scope pos) 0 (.ref it) acc { cenv with scope:=relabel scope X.env }) (RR acc cenv.locals) s₄) E s₃) E s:=by
 refine wpAny_newObj_type (wpAny_newFunctionEnv S.nocell (by intro y hy;simp at hy) (λh₁ hns₁ hsb₁=>?_) S.kind)
 dsimp only at hns₁ hsb₁ ⊢
 generalize hH2:s.heap.push { cls:=.type "list",dict:=none,data:=.seq ([]:List Value).toArray }=H2 at hns₁ hsb₁ ⊢
 have hCz:H2.objs.size=s.heap.objs.size+1:=by rw [←hH2,Heap.size_push]
 have hfl:∀b∈fp,b<s.heap.objs.size:=λb hb=>by
  obtain⟨o,ho,_⟩:=T.obj 0 _ st b hb
  exact Heap.lt_size ho
 have hDC:s.heap.objs.size≠H2.objs.size:=by rw [hCz];exact Nat.ne_of_lt (Nat.lt_succ_self _)
 have hCle:s.heap.objs.size<=H2.objs.size:=by rw [hCz];exact Nat.le_succ _
 have old:∀b o,s.heap.get? b=some o->h₁.get? b=some o:=λb o q=>hsb₁.extBut b o (by rw [hCz];exact Nat.ne_of_lt (Nat.lt_succ_of_lt (Heap.lt_size q))) (Heap.get?_push_of_some _ (hH2 ▸ Heap.get?_push_of_some _ q))
 have hacc:h₁.PlainList s.heap.objs.size #[]:=⟨_,hsb₁.extBut _ _ hDC (Heap.get?_push_of_some _ (hH2 ▸ Heap.get?_push_size _ rfl))⟩
 generalize hDe:s.heap.objs.size=D at *
 generalize hCe:H2.objs.size=C at *
 let Y:=blk X N scope cl C s H fp
 have hDfp:∀b∈fp,b≠D:=λb hb=>Nat.ne_of_lt (hfl b hb)
 have lt_of:∀b o,s.heap.get? b=some o->b<D:=λb o q=>by rw [←hDe];exact Heap.lt_size q
 have nD:D∉L2.frs X.stack:=λz=>by
  obtain⟨_,o,ho,_⟩:=I.stack.mem z
  exact Nat.lt_irrefl _ (lt_of _ _ ho)
 have cellD:∀x c,X.env.cells.lookup x=some c->c<D:=λx c q=>by
  obtain⟨v,o,ho,_⟩:=I.cell x c q
  exact lt_of _ _ ho
 have subc:∀x c,cl.lookup x=some c->X.env.cells.lookup x=some c:=λx c q=>S.sub (x,c) (PySem.mem_of_lookup q)
 have fpY:∀(ps:List (Addr×Obj)) (H':L2.Hp),(∀p∈ps,∀b∈fp,p.1≠b)->(∀b∈fp,H' b=none)->∀b∈fp,L2.X0 Y ps H' b:=λps H' hps hn b hb=>
  ⟨hn b hb,Nat.ne_of_lt (Nat.lt_of_lt_of_le (hfl b hb) hCle),λhz=>(List.mem_cons.mp (I.stkSub b hz)).elim (hf b hb).2.1 (hf b hb).2.2.1,.inl hb,λx c q=>(hf b hb).2.2.2.2.1 x c (subc x c q),λp hp=>hps p (by simpa [Y,blk] using hp) b hb⟩
 have I0:L2.Inv Y [] (Ws.bst js σ) H { s with heap:=h₁,toks:=s.toks+([]:List (Str×Value)).length }:=ax0 S Fr I hf (λb hb=>by rw [hDe];exact hfl b hb) (by rw [hDe];exact hCle) old hns₁
 have st1:tn 0 h₁:=T.keep 0 _ _ st λb hb o q=>old b o q
 have loop:∀s₃:Shared,s₃={ s with heap:=h₁,toks:=s.toks+([]:List (Str×Value)).length }->
  codeAny (model X.prog X.w) X.A (.compLoop (.ListComp elt [⟨tg,iter,ifs,0⟩] scope pos) 0 (.ref it) (.ref D) (compEnvC scope cl C X.env)) (RR (.ref D) C) s₃:=by
  rintro s₃ rfl
  refine aw9 (λm s'=>∃i σ' H' ρ' B σp' rest accp accv its,L2.Inv Y [] σ' H' s'/\tn i s'.heap/\(∀b∈fp,H' b=none)/\Ext ρ H ρ' H'/\Rel X.K cm ρ' B H'/\RSt ρ' H' σp' σ'/\T0 J g t e (m+1) i σp' B=.ok rest A'/\
   s'.heap.PlainList D (List.toArray its)/\H' D=none/\L2.Vals accv its/\RVs ρ' H' accp accv/\accp++rest=ys) ?_ n ⟨0,_,H,ρ,A,Ws.bst js σp,ys,[],[],[],I0,st1,λb hb=>(hf b hb).1,Ext.refl _ _,rl,rs.bst js,ev,hacc,by rw [←hDe];exact I.hok.fresh (Nat.le_refl _),.nil,.nil,rfl⟩
  rintro m s' ⟨i,σ',H',ρ',B,σp',rest,accp,accv,its,I1,st',fn',x1,rl1,rs1,ev1,pl,hDn,va,ra,hys⟩
  obtain⟨nD0,hDo⟩:=id pl
  have dD:∀v,({ cls:=.type "list",data:=.seq its.toArray nD0 }:Obj).data≠.cell v:=λv z=>nomatch z
  have I2:L2.Inv Y [(D,{ cls:=.type "list",data:=.seq its.toArray nD0 })] σ' H' s':=I1.pins_of λp hp=>by
   have e:p=(D,{ cls:=.type "list",data:=.seq its.toArray nD0 }):=by simpa using hp
   subst e
   exact⟨hDo,hDn,hDC,nD,dD⟩
  have f2:=fpY [(D,{ cls:=.type "list",data:=.seq its.toArray nD0 })] H' (λp hp b hb=>by
   have e:p=(D,{ cls:=.type "list",data:=.seq its.toArray nD0 }):=by simpa using hp
   subst e
   exact (hDfp b hb).symm) fn'
  rw [j0] at ev1
  obtain⟨x,B1,e1,ev2⟩:=B0 ev1
  obtain⟨rfl,hit⟩:=as2 rl1 (rj.mono x1) e1
  cases x with
  | none=>
    cases ev2
    rw [List.append_nil] at hys
    subst hys
    refine L2.thn (T.done Y rfl rfl rfl hc i _ s' σ' H' (λ_ _=>False) I2 f2 st' hit) λr s1 ⟨hr,I3⟩=>?_
    subst hr
    have hD3:=I3.pin (D,{ cls:=.type "list",data:=.seq its.toArray nD0 }) (by simp)
    obtain⟨mC,hnC,_⟩:=id I3.loc
    refine hRR D C s1 mC hnC (λz=>?_) λh2 sb=>?_
    ·have:=I.lt
     rw [←z,hDe] at this
     exact absurd (Nat.lt_of_lt_of_le this hCle) (Nat.lt_irrefl _)
    ·have ch:∀b∈fp,(b∈X.ex\/X.s₀.heap.objs.size<=b)/\b≠X.env.locals/\(∀x c,X.env.cells.lookup x=some c->c≠b)/\∀p∈X.pn++pins,p.1≠b:=λb hb=>⟨(hf b hb).2.2.2.1,(hf b hb).2.1,(hf b hb).2.2.2.2.1,(hf b hb).2.2.2.2.2⟩
     have IX:L2.Inv X pins σ H' s1:=I.call' I3.os I3.base I3.hok I3.bare ch
     have fpn:∀(H'':L2.Hp) b,D<=b->H'' b=none->L2.X0 X pins H'' b:=λH'' b hb hn=>by
      rw [←hDe] at hb
      exact I.fpOk (H':=H'') hb hn
     have IX2:L2.Inv X pins σ H' { s1 with heap:=h2 }:=IX.turned (t':=s1.toks) (λb o hb q=>(sb.2 b hb).trans q) I3.free (fpn H' C hCle I3.free).2.1 (fpn H' C hCle I3.free).2.2.2.1 (fpn H' C hCle I3.free).2.2.2.2.1 (fpn H' C hCle I3.free).2.2.2.2.2
     have hlen:accv.length<=sizeLine:=by rw [←ra.length];exact R0 hy
     have IX3:L2.Inv X pins σ (L2.upd H' D (.lst accv)) { s1 with heap:=h2 }:=a05 (fp:=fp) IX2 (fpn H' D (Nat.le_refl _) hDn) ⟨hlen,its,nD0,va,(sb.2 D hDC).trans hD3.1⟩
     have ex:Ext ρ' H' (ρ'++[D]) (L2.upd H' D (.lst accv)):=Ext.new hDn
     refine⟨ρ'++[D],L2.upd H' D (.lst accv),x1.trans ex,rl1.alloc hDn ⟨accv,L2.C7,ra.mono ex⟩ rfl,by rw [←rl1.len];simp,IX3,fpn _ C hCle ?_⟩
     rw [L2.C9 (Ne.symm hDC)];exact I3.free
  | some v=>
    refine L2.thn (T.item Y rfl rfl rfl hc i _ s' σ' H' (λ_ _=>False) I2 f2 st' hit.1) λr s1 ⟨u,hr,h4⟩=>?_
    subst hr
    refine L2.thn h4 λ_ s2 ⟨xv,H3,I3,ru,hyl,st3,fn3⟩=>?_
    obtain⟨x2,rl3,rv3⟩:=hit.2 xv H3 hyl
    have f3:=fpY [(D,{ cls:=.type "list",data:=.seq its.toArray nD0 })] H3 (λp hp b hb=>by
     have e:p=(D,{ cls:=.type "list",data:=.seq its.toArray nD0 }):=by simpa using hp
     subst e
     exact (hDfp b hb).symm) fn3
    have I4:=I3.pinned f3 (T.obj _ _ st3)
    obtain⟨σ4,B4,e4,ev3⟩:=B0 ev2
    obtain⟨b5,B5,e5,ev4⟩:=B0 ev3
    refine L2.thn (hg C s H fp _ s2 σ' H3 xv u (λσ5 H5=>∃ρ5,Ext ρ' H3 ρ5 H5/\Rel X.K cm ρ5 B4 H5/\RSt ρ5 H5 σ4 σ5) I4 ru ⟨ρ',B1,σp',v,σ4,B4,rl3,rs1.mono x2,rv3,e4,λρ5 H5 σ5 x5 rl5 rs5=>⟨ρ5,x5,rl5,rs5⟩⟩) λ_ s5 ⟨σ5,H5,I5,ρ5,x5,rl5,rs5⟩=>?_
    refine L2.thn (ht C s H fp _ s5 σ5 H5 (λb H6=>b=b5/\∃ρ6,Ext ρ5 H5 ρ6 H6/\Rel X.K cm ρ6 B5 H6) I5 ⟨ρ5,B4,σ4,b5,B5,rl5,rs5,e5,λρ6 H6 x6 rl6=>⟨rfl,ρ6,x6,rl6⟩⟩) λok s6 ⟨H6,I6,hok,ρ6,x6,rl6⟩=>?_
    subst hok
    have x16:Ext ρ' H' ρ6 H6:=(x2.trans x5).trans x6
    have unpin:∀{σ7:L2.St} {H7:L2.Hp} {s7:Shared},L2.Inv Y ([(D,{ cls:=.type "list",data:=.seq its.toArray nD0 })]++L2.n0 fp s2.heap) σ7 H7 s7->(s7.heap.get? D=some { cls:=.type "list",data:=.seq its.toArray nD0 }/\H7 D=none)/\(∀b∈fp,H7 b=none)/\(∀b∈fp,∀o,s2.heap.get? b=some o->s7.heap.get? b=some o):=λ{σ7 H7 s7} I7=>by
     have p1:=I7.pin (D,{ cls:=.type "list",data:=.seq its.toArray nD0 }) (List.mem_append_right _ (List.mem_append_left _ (by simp)))
     refine⟨⟨p1.1,p1.2.1⟩,λb hb=>?_,λb hb o q=>?_⟩
     ·obtain⟨o,q,_⟩:=T.obj _ _ st3 b hb
      exact (I7.pin (b,o) (List.mem_append_right _ (List.mem_append_right _ (L2.R3 hb q)))).2.1
     ·exact (I7.pin (b,o) (List.mem_append_right _ (List.mem_append_right _ (L2.R3 hb q)))).1
    have bare0:∀{ps:List (Addr×Obj)} {σ7:L2.St} {H7:L2.Hp} {s7:Shared},L2.Inv Y ps σ7 H7 s7->L2.Inv Y [] σ7 H7 s7:=λI7=>I7.pins_of λp hp=>absurd hp (by simp)
    cases ok with
    | false=>
      rw [if_neg (by simp)]
      rw [if_neg (by simp)] at ev4
      cases m with
      | zero=>rw [i8] at ev4;cases ev4
      | succ m=>
        obtain⟨⟨u1,u2⟩,u3,u4⟩:=unpin I6
        exact⟨m,Nat.lt_succ_self _,i+1,σ5,H6,ρ6,B5,σ4,rest,accp,accv,its,bare0 I6,T.keep _ _ _ st3 u4,u3,x1.trans x16,rl6,rs5.mono x6,ev4,⟨nD0,u1⟩,u2,va,ra.mono x16,hys⟩
    | true=>
      rw [if_pos rfl]
      rw [if_pos rfl] at ev4
      obtain⟨y,B7,e7,ev5⟩:=B0 ev4
      obtain⟨more,B8,e8,ev6⟩:=B0 ev5
      cases ev6
      refine L2.thn (he C s H fp _ s6 σ5 H6 (λyv H7=>∃ρ7,Ext ρ6 H6 ρ7 H7/\Rel X.K cm ρ7 B7 H7/\RV ρ7 H7 y yv) I6 ⟨ρ6,B5,σ4,y,B7,rl6,rs5.mono x6,e7,λρ7 H7 yv x7 rl7 rv7=>⟨ρ7,x7,rl7,rv7⟩⟩) λyu s7 ⟨yv,H7,I7,ry,ρ7,x7,rl7,rv7⟩=>?_
      obtain⟨⟨u1,u2⟩,u3,u4⟩:=unpin I7
      have hlen:its.length<=sizeLine:=by
       rw [←va.length,←ra.length]
       refine R0 (Nat.le_trans ?_ hy)
       rw [←hys,List.length_append];exact Nat.le_add_right _ _
      refine wpAny_list_append_plain (items:=its.toArray) ⟨nD0,u1⟩ (λh8 pl8 sb8=>?_) (by rw [List.size_toArray];exact hlen)
      have I8:L2.Inv Y [] σ5 H7 { s7 with heap:=h8 }:=(bare0 I7).turned (t':=s7.toks) (λb o hb q=>(sb8.2 b hb).trans q) u2 hDC (.inr (by show s.heap.objs.size<=D;rw [hDe];exact Nat.le_refl _)) (λx c q=>Nat.ne_of_lt (cellD x c (subc x c q))) (λp hp=>absurd (show p∈([]:List (Addr×Obj)) from hp) (by simp))
      cases m with
      | zero=>rw [i8] at e8;cases e8
      | succ m=>
        have x17:=x16.trans x7
        refine⟨m,Nat.lt_succ_self _,i+1,σ5,H7,ρ7,B7,σ4,more,accp++[y],accv++[yv],its++[yu],I8,T.keep _ _ _ st3 λb hb o q=>(sb8.2 b (hDfp b hb)).trans (u4 b hb o q),u3,x1.trans x17,rl7,(rs5.mono x6).mono x7,e8,by simpa using pl8,u2,va.append (.cons ry .nil),(ra.mono x17).append (.cons rv7 .nil),by rw [←hys];simp⟩
 exact codeAny_compStart_list (loop _ rfl) (T.self X.A 0 _ _ _ st1 (loop _ rfl))
end
end Ws
namespace Ws
open PySem
section
variable {X:L2.Cx} {cm:Nat->Addr}
theorem af3 {elt tg iter:Expr} {ifs:List Expr} {scope:Scope} {pos:Pos} {cl:List (Str×Addr)} {N:List Str} (js:List (Option Nat)) {it:ID} {g:GD} {t:TD} {e:ED} (hc:X.calm=true) (S:aD5 X scope cl) (Fr:FreeOk X scope cl N js) (hi:L2.PI X tg iter (EvI X.K cm it))
 (hg:∀C s0 H0 fp,L2.PG (blk X N scope cl C s0 H0 fp) tg (EvG X.K cm g)) (ht:∀C s0 H0 fp,PTs (blk X N scope cl C s0 H0 fp) ifs (EvT X.K cm t)) (he:∀C s0 H0 fp,L2.PE (blk X N scope cl C s0 H0 fp) elt (EvE X.K cm e))
 (hs:∀x,foldedSetIterable iter X.env x=pure x:=by intro _;rfl):L2.PE X (.ListComp elt [⟨tg,iter,ifs,0⟩] scope pos) (EvE X.K cm (T1 it (Ws.bst js) g t e)):=by
 intro pins s σ H Q I ⟨ρ,A,σp,v,A',rl,rs,ev,k⟩
 obtain⟨J,A1,e1,ev1⟩:=B0 ev
 obtain⟨n,A2,e2,ev2⟩:=B0 ev1
 obtain rfl:=d8 e2
 obtain⟨ys,A3,e3,ev3⟩:=B0 ev2
 obtain⟨c,ev4⟩:=C6 ev3
 cases ev4
 rw [eval_ListComp]
 refine wpAny_comprehension_free (use:=none) rfl hs S.clos S.kind S.names (wpAny_mono (hi pins s σ H (λj H1=>∃ρ1,Ext ρ H ρ1 H1/\Rel X.K cm ρ1 A2 H1/\RIt X.K ρ1 H1 J j) I ⟨ρ,A,σp,J,A2,rl,rs,e1,λρ1 H1 j x1 rl1 rj=>⟨ρ1,x1,rl1,rj⟩⟩) (λxv s1 h1=>wpAny_mono h1 (λitv s2 h2=>?_) λ_ _ z=>z) λ_ _ z=>z)
 obtain⟨itA,fp,tn,j,H1,rfl,I1,T,st,hf,ρ1,x1,rl1,rj⟩:=h2
 refine ac5 (RR:=λacc C=>compPost (model X.prog X.w) X.A X.xe none (L2.EP X pins σ Q) acc C) hc S Fr hg ht he I1 T st hf rj rl1 (rs.mono x1) e3 c λD C s' m hn hCL hfin=>⟨m,hn,λh'' sb=>?_⟩
 obtain⟨ρ2,H2,x2,rl2,hD,I2,_⟩:=hfin h'' sb
 exact⟨.ref D,H2,I2,rfl,k ρ2 H2 _ (x1.trans x2) rl2 (.ref hD)⟩
theorem aD7 {elt tg iter:Expr} {ifs:List Expr} {scope:Scope} {pos spos py:Pos} {y:Str} {i:Nat} {cl:List (Str×Addr)} {N:List Str} (js:List (Option Nat)) {it:ID} {g:GD} {t:TD} {e:ED} (hc:X.calm=true) (S:aD5 X scope cl) (Fr:FreeOk X scope cl N js) (hi:L2.PI X tg iter (EvI X.K cm it))
 (hg:∀C s0 H0 fp,L2.PG (blk X N scope cl C s0 H0 fp) tg (EvG X.K cm g)) (ht:∀C s0 H0 fp,PTs (blk X N scope cl C s0 H0 fp) ifs (EvT X.K cm t)) (he:∀C s0 H0 fp,L2.PE (blk X N scope cl C s0 H0 fp) elt (EvE X.K cm e))
 (hN:X.N.Nodup) (hiy:X.N[i]?=some y) (hy:L2.Loc X.env.scope y)
 (hsw:swapsWith (.ListComp elt [⟨tg,iter,ifs,0⟩] scope pos) (some (.Name y py)) spos.line X.env=pure true:=by rfl)
 (hfn:X.fn y=true\/X.env.scope.names.lookup y=some .local:=by first | exact .inl rfl | exact .inr rfl)
 (hs:∀x,foldedSetIterable iter X.env x=pure x:=by intro _;rfl):L2.PS X (.Assign [.Name y py] (.ListComp elt [⟨tg,iter,ifs,0⟩] scope pos) spos) (EvS X.K cm (V0 (T1 it (Ws.bst js) g t e) (gName i))):=by
 intro pins s σ H Dn I ⟨ρ,A,σp,fl,A',rl,rs,ev,k⟩
 obtain⟨v,A0,e0,ev0⟩:=B0 ev
 obtain⟨σ1,A9,e9,ev9⟩:=B0 ev0
 cases e9
 cases ev9
 obtain⟨J,A1,e1,ev1⟩:=B0 e0
 obtain⟨n,A2,e2,ev2⟩:=B0 ev1
 obtain rfl:=d8 e2
 obtain⟨ys,A3,e3,ev3⟩:=B0 ev2
 obtain⟨c,ev4⟩:=C6 ev3
 cases ev4
 rw [exec_Assign_Name_used _ _ _ _ hsw]
 refine wpAny_bind (wpAny_standAt (wpAny_bind ?_))
 show wpAny _ X.A (do let _ ←comprehension (.ListComp elt [⟨tg,iter,ifs,0⟩] scope pos) scope X.env _ (newList []) false (eval iter X.env) (some (assign (.Name y py) X.env))) _ _ s
 refine wpAny_bind (wpAny_mono (wpAny_comprehension_free (use:=some (assign (.Name y py) X.env)) (Q:=λ_ s'=>L2.SP X pins Dn .next s') rfl hs S.clos S.kind S.names (wpAny_mono (hi pins s σ H (λj H1=>∃ρ1,Ext ρ H ρ1 H1/\Rel X.K cm ρ1 A2 H1/\RIt X.K ρ1 H1 J j) I ⟨ρ,A,σp,J,A2,rl,rs,e1,λρ1 H1 j x1 rl1 rj=>⟨ρ1,x1,rl1,rj⟩⟩) (λxv s1 h1=>wpAny_mono h1 (λitv s2 h2=>?_) λ_ _ z=>z) λ_ _ z=>z)) (λ_ s' hq=>wpAny_pure (wpAny_pure hq)) λ_ _ z=>z)
 obtain⟨itA,fp,tn,j,H1,rfl,I1,T,st,hf,ρ1,x1,rl1,rj⟩:=h2
 refine ac5 (RR:=λacc C=>compPost (model X.prog X.w) X.A X.xe (some (assign (.Name y py) X.env)) (λ_ s'=>L2.SP X pins Dn .next s') acc C) hc S Fr hg ht he I1 T st hf rj rl1 (rs.mono x1) e3 c λD C s' m hn hCL hfin=>?_
 show wpAny _ X.A (assign (.Name y py) X.env (.ref D)) _ _ _
 obtain⟨ρ2,H2,x2,rl2,hD,I2,fC⟩:=hfin s'.heap (.refl ..)
 obtain⟨oC,es,ep,hoC,hdC,rC⟩:=id hn
 have I3:L2.Inv X (pins++[(C,oC)]) σ H2 s':=L2.Inv.pins_of (I:=I2) λp hp=>by
  rcases List.mem_append.mp hp with hp | hp
  ·exact I2.pin p (List.mem_append_right _ hp)
  ·have e:p=(C,oC):=by simpa using hp
   subst e
   exact⟨hoC,fC.1,fC.2.1,fC.2.2.1,λv z=>by rw [hdC] at z;cases z⟩
 refine wpAny_assign_Name (L2.m8 I3 hN hiy hy (show L2.RelV (.ref D) (.ref D) from rfl) (λs3 I4=>?_) hfn)
 have pC:=I4.pin (C,oC) (by simp)
 refine⟨m,⟨oC,es,ep,pC.1,hdC,rC⟩,λh4 sb=>?_⟩
 have I5:L2.Inv X pins (σ.set i (some (.ref D))) H2 s3:=I4.pins_of λp hp=>I4.pin p (List.mem_append_right _ (List.mem_append_left _ hp))
 have I6:L2.Inv X pins (σ.set i (some (.ref D))) H2 { s3 with heap:=h4 }:=I5.turned (t':=s3.toks) (λb o hb q=>(sb.2 b hb).trans q) fC.1 fC.2.1 fC.2.2.2.1 fC.2.2.2.2.1 fC.2.2.2.2.2
 exact⟨σ.set i (some (.ref D)),H2,I6,k ρ2 H2 (x1.trans x2) rl2 _ (((rs.mono x1).mono x2).set i (.ref hD))⟩
end
theorem N3 {α:Type} {P:α->Prop}:∀x∈([]:List α),P x:=λ_ h=>nomatch h
theorem D0 {α:Type} {P:α->Prop} {a:α} {l:List α} (h:P a) (r:∀x∈l,P x):∀x∈a::l,P x:=λx hx=>(List.mem_cons.mp hx).elim (λe=>e ▸ h) (r x)
end Ws
namespace Ws
open PySem PySem.W PyProof.Rows
noncomputable def wpk {α:Type} (n:Nat) (lt:Nat->Nat->Bool):KasT α->(α->Prop)->Prop
 | .ret a,Q=>Q a
 | .ask i j k,Q=>i<n/\j<n/\wpk n lt (k (lt i j)) Q
theorem R1 {α β:Type} {n:Nat} {lt:Nat->Nat->Bool} {f:α->KasT β} {Q:β->Prop}:∀{t:KasT α},wpk n lt t (λa=>wpk n lt (f a) Q)->wpk n lt (t.bind f) Q
 | .ret _,h=>h
 | .ask _ _ k,⟨h1,h2,h3⟩=>⟨h1,h2,R1 (t:=k _) h3⟩
theorem as9 {α:Type} {n:Nat} {lt:Nat->Nat->Bool} {cmp:Nat->Nat->(Bool->Shared->Prop)->Shared->Prop} {G:α->Shared->Prop} {s:Shared} (hc:∀i j C,i<n->j<n->C (lt i j) s->cmp i j C s):∀{t:KasT α} {Q:α->Prop},wpk n lt t Q->(∀a,Q a->G a s)->t.kasWp cmp G s
 | .ret a,Q,h,hq=>hq a h
 | .ask i j k,Q,⟨h1,h2,h3⟩,hq=>hc i j _ h1 h2 (as9 hc (t:=k _) h3 hq)
section
variable {n:Nat} {α:Type} {key:Nat->α} {lt:Nat->Nat->Bool}
structure Ord (key:Nat->α) (lt:Nat->Nat->Bool):Prop where
 asym:∀a b,lt a b=true->lt b a=false
 tr:∀a b c,lt b a=false->lt c b=false->lt c a=false
 tot:∀a b,lt a b=false->lt b a=false->key a=key b
 cong:∀a b c d,key a=key b->key c=key d->lt a c=lt b d
structure Pm (n:Nat) (p:Array Nat):Prop where
 size:p.size=n
 perm:p.Perm (List.toArray (List.range n))
theorem Pm.bd {p:Array Nat} (h:Pm n p) (hn:0<n) (i:Nat):p.getD i 0<n:=by
 by_cases hi:i<p.size
 ·have e:p.getD i 0=p[i]:=by simp [Array.getD,hi]
  rw [e]
  have hm:p[i]∈p.toList:=by simp
  have:=(Array.perm_iff_toList_perm.mp h.perm).mem_iff.mp hm
  simpa using this
 ·have e:p.getD i 0=0:=by simp [Array.getD,hi]
  rw [e];exact hn
theorem Z2 {p q:Array Nat} {i j:Nat} (h:p[i]?=q[j]?):p.getD i 0=q.getD j 0:=by
 rw [Array.getD_eq_getD_getElem?,Array.getD_eq_getD_getElem?,h]
theorem Pm.rev {p:Array Nat} (h:Pm n p) (i j:Nat):Pm n (kas_rev p i j):=⟨by unfold kas_rev;rw [mirror_size];exact h.size,(mirror_perm _ _ _ _).trans h.perm⟩
theorem ap0 {p:Array Nat} {i j:Nat} (hj:j<=p.size) (k:Nat):(kas_rev p i j).getD k 0=if i<=k/\k<j then p.getD (i+j - 1 - k) 0 else p.getD k 0:=by
 have e:=getElem?_mirror_all (xs:=p) (i:=i) hj k
 unfold kas_rev
 by_cases h:i<=k/\k<j
 ·rw [if_pos h] at e ⊢;exact Z2 e
 ·rw [if_neg h] at e ⊢;exact Z2 e
theorem Pm.bub {p:Array Nat} (h:Pm n p) (i d:Nat):Pm n (bubble p i d):=⟨by rw [bubble_size];exact h.size,(bubble_perm _ _ _).trans h.perm⟩
theorem aD8 {p:Array Nat} {src d:Nat} (hs:src<p.size) (hd:d<=src) (k:Nat):(bubble p src d).getD k 0=if k=src - d then p.getD src 0 else if src - d<k/\k<=src then p.getD (k - 1) 0 else p.getD k 0:=by
 have e:=getElem?_bubble hs d hd k
 by_cases h1:k=src - d
 ·rw [if_pos h1] at e ⊢;exact Z2 e
 ·rw [if_neg h1] at e ⊢
  by_cases h2:src - d<k/\k<=src
  ·rw [if_pos h2] at e ⊢;exact Z2 e
  ·rw [if_neg h2] at e ⊢;exact Z2 e
noncomputable def Inc (lt:Nat->Nat->Bool) (p:Array Nat) (m:Nat):Prop:=∀i j,i<=j->j<m->lt (p.getD j 0) (p.getD i 0)=false
noncomputable def Dec (lt:Nat->Nat->Bool) (p:Array Nat) (m:Nat):Prop:=∀i j,i<=j->j<m->lt (p.getD i 0) (p.getD j 0)=false
variable (O:Ord key lt) (hn:0<n)
include O hn
theorem Ord.irr (a:Nat):lt a a=false:=by
 cases h:lt a a with
 | false=>rfl
 | true=>have:=O.asym a a h;rw [h] at this;exact this
theorem aD9 {p:Array Nat} {m:Nat} (h:Inc lt p m) (h1:m=0\/lt (p.getD m 0) (p.getD (m - 1) 0)=false):Inc lt p (m+1):=λi j hij hj=>by
 by_cases e:j=m
 ·subst e
  by_cases e2:i=j
  ·subst e2;exact O.irr hn _
  ·rcases h1 with h1 | h1
   ·omega
   ·exact O.tr _ _ _ (h i (j - 1) (by omega) (by omega)) h1
 ·exact h i j hij (by omega)
theorem T6 {p:Array Nat} {m:Nat} (h:Dec lt p m) (h1:m=0\/lt (p.getD (m - 1) 0) (p.getD m 0)=false):Dec lt p (m+1):=λi j hij hj=>by
 by_cases e:j=m
 ·subst e
  by_cases e2:i=j
  ·subst e2;exact O.irr hn _
  ·rcases h1 with h1 | h1
   ·omega
   ·exact O.tr _ _ _ h1 (h i (j - 1) (by omega) (by omega))
 ·exact h i j hij (by omega)
theorem aE0 {p:Array Nat} (hp:Pm n p) {Q:Nat->Prop}:∀f m,1<=m->Inc lt p m->(∀m',m<=m'->m'<=m+f->Inc lt p m'->(m'<m+f->lt (p.getD m' 0) (p.getD (m' - 1) 0)=true)->Q m')->wpk n lt (kas_asc p f m) Q
 | 0,m,_,hi,h=>h m (Nat.le_refl _) (Nat.le_refl _) hi λz=>by omega
 | f+1,m,h1,hi,h=>by
   refine⟨hp.bd hn m,hp.bd hn (m - 1),?_⟩
   cases hc:lt (p.getD m 0) (p.getD (m - 1) 0) with
   | true=>exact h m (Nat.le_refl _) (by omega) hi λ_=>hc
   | false=>
     simp only [Bool.false_eq_true,if_false]
     exact aE0 hp f (m+1) (by omega) (aD9 O hn hi (.inr hc)) λm' a b c d=>h m' (by omega) (by omega) c λz=>d (by omega)
theorem t0 {p:Array Nat} {i j:Nat} (hj:j<=p.size) (he:∀k,i<=k->k<j->key (p.getD k 0)=key (p.getD (j - 1) 0)) (k:Nat):key ((kas_rev p i j).getD k 0)=key (p.getD k 0):=by
 rw [ap0 hj]
 by_cases h:i<=k/\k<j
 ·rw [if_pos h,he (i+j - 1 - k) (by omega) (by omega),he k h.1 h.2]
 ·rw [if_neg h]
theorem t3 {p q:Array Nat} {m:Nat} (h:∀k,key (p.getD k 0)=key (q.getD k 0)) (hd:Dec lt q m):Dec lt p m:=λi j hij hj=>by rw [O.cong _ _ _ _ (h i) (h j)];exact hd i j hij hj
noncomputable def Eqs (key:Nat->α) (p:Array Nat) (m q:Nat):Prop:=q+1<=m/\∀k,m - (q+1)<=k->k<m->key (p.getD k 0)=key (p.getD (m - 1) 0)
omit O hn in
theorem aU7 {p:Array Nat} {m:Nat} (h:1<=m):Eqs key p m 0:=⟨h,λk h1 h2=>by rw [show k=m - 1 by omega]⟩
theorem af4 {Q:Array Nat×Nat×Nat->Prop}:∀f (p:Array Nat) m q,Pm n p->m+f<=n->Dec lt p m->Eqs key p m q->(∀p' m' q',Pm n p'->m<=m'->m'<=m+f->Dec lt p' m'->Eqs key p' m' q'->Q (p',m',q'))->wpk n lt (kas_desc f p m q) Q
 | 0,p,m,q,hp,hmf,hd,he,h=>h p m q hp (Nat.le_refl _) (Nat.le_refl _) hd he
 | f+1,p,m,q,hp,hmf,hd,he,h=>by
   refine⟨hp.bd hn m,hp.bd hn (m - 1),?_⟩
   have h1:=he.1
   cases hc:lt (p.getD m 0) (p.getD (m - 1) 0) with
   | true=>
     simp only [if_true]
     by_cases hq:q > 0
     ·rw [if_pos hq]
      have hs:=t0 O hn (p:=p) (i:=m - (q+1)) (j:=m) (by rw [hp.size];omega) he.2
      refine af4 f _ (m+1) 0 (hp.rev _ _) (by omega) ?_ (aU7 (by omega)) λp' m' q' a b c d e=>h p' m' q' a (by omega) (by omega) d e
      exact t3 O hn hs (T6 O hn hd (.inr (O.asym _ _ hc)))
     ·rw [if_neg hq]
      exact af4 f p (m+1) 0 hp (by omega) (T6 O hn hd (.inr (O.asym _ _ hc))) (aU7 (by omega)) λp' m' q' a b c d e=>h p' m' q' a (by omega) (by omega) d e
   | false=>
     simp only [Bool.false_eq_true,if_false]
     refine⟨hp.bd hn (m - 1),hp.bd hn m,?_⟩
     cases hc2:lt (p.getD (m - 1) 0) (p.getD m 0) with
     | true=>exact h p m q hp (Nat.le_refl _) (by omega) hd he
     | false=>
       simp only [Bool.false_eq_true,if_false]
       refine af4 f p (m+1) (q+1) hp (by omega) (T6 O hn hd (.inr hc2)) ⟨by omega,λk k1 k2=>?_⟩ λp' m' q' a b c d e=>h p' m' q' a (by omega) (by omega) d e
       rw [Nat.add_sub_cancel]
       by_cases e:k=m
       ·rw [e]
       ·rw [he.2 k (by omega) (by omega)];exact O.tot _ _ hc2 hc
theorem aE1 {p:Array Nat} {m:Nat} (hp:Pm n p) (h1:1<=m) (hmn:m<=n) (hd:Dec lt p m) {Q:Nat×Array Nat->Prop} (h:∀m' p',Pm n p'->1<=m'->m'<=n->Inc lt p' m'->Q (m',p')):wpk n lt (kas_tail3 m n p) Q:=by
 refine R1 ?_
 have hi:Inc lt (kas_rev p 0 m) m:=λi j hij hj=>by
  rw [ap0 (by rw [hp.size];exact hmn),ap0 (by rw [hp.size];exact hmn),if_pos ⟨by omega,hj⟩,if_pos ⟨by omega,by omega⟩]
  exact hd _ _ (by omega) (by omega)
 exact aE0 O hn (hp.rev 0 m) (n - m) m h1 hi λm' a b c _=>h m' _ (hp.rev 0 m) (by omega) (by omega) c
theorem t4 {p:Array Nat} {m:Nat} (hp:Pm n p) (h1:1<=m) (hmn:m<n) (hd:Dec lt p (m+1)) {Q:Nat×Array Nat->Prop} (h:∀m' p',Pm n p'->1<=m'->m'<=n->Inc lt p' m'->Q (m',p')):wpk n lt (kas_descPart m n p) Q:=by
 refine R1 (af4 O hn (n - (m+1)) p (m+1) 0 hp (by omega) hd (aU7 (by omega)) λp' m' q' a b c d e=>?_)
 have e1:=e.1
 dsimp only
 by_cases hq:q' > 0
 ·rw [if_pos hq]
  have hs:=t0 O hn (p:=p') (i:=m' - (q'+1)) (j:=m') (by rw [a.size];omega) e.2
  exact aE1 O hn (a.rev _ _) (by omega) (by omega) (t3 O hn hs d) h
 ·rw [if_neg hq]
  exact aE1 O hn a (by omega) (by omega) d h
theorem aK8 {p:Array Nat} (hp:Pm n p) (h2:2<=n) {Q:Nat×Array Nat->Prop} (h:∀m' p',Pm n p'->1<=m'->m'<=n->Inc lt p' m'->Q (m',p')):wpk n lt (kas_count n p) Q:=by
 refine R1 (aE0 O hn hp (n - 1) 1 (Nat.le_refl _) (λi j hij hj=>by rw [show i=j by omega];exact O.irr hn _) λm a b c d=>?_)
 by_cases hm:(m == n)=true
 ·rw [if_pos hm];exact h m p hp a (by omega) c
 ·rw [if_neg hm]
  have hmn:m<n:=by have:m≠n:=λz=>hm (by simp [z]);omega
  have hstop:=d (by omega)
  by_cases h1:m > 1
  ·rw [if_pos h1]
   refine⟨hp.bd hn 0,hp.bd hn (m - 1),?_⟩
   cases hc:lt (p.getD 0 0) (p.getD (m - 1) 0) with
   | true=>exact h m p hp a (by omega) c
   | false=>
     simp only [Bool.false_eq_true,if_false]
     have eq1:∀k,0<=k->k<m->key (p.getD k 0)=key (p.getD (m - 1) 0):=λk _ hk=>by
      refine O.tot _ _ ?_ (c k (m - 1) (by omega) (by omega))
      exact O.tr _ _ _ hc (c 0 k (by omega) hk)
     have hs:=t0 O hn (p:=p) (i:=0) (j:=m) (by rw [hp.size];omega) eq1
     refine t4 O hn (hp.rev 0 m) a hmn (t3 O hn hs (T6 O hn (λi j hij hj=>?_) (.inr (O.asym _ _ hstop)))) h
     rw [O.cong _ _ _ _ (eq1 i (by omega) (by omega)) (eq1 j (by omega) hj)];exact O.irr hn _
  ·rw [if_neg h1]
   have:m=1:=by omega
   subst this
   refine t4 O hn hp a hmn (T6 O hn (λi j hij hj=>by rw [show i=j by omega];exact O.irr hn _) (.inr (O.asym _ _ hstop))) h
theorem af5 {p:Array Nat} (hp:Pm n p) {k:Nat} (hi:Inc lt p k) {Q:Nat->Prop}:∀f l r,l<=r->r<=k->r - l<=f->(∀i,i<l->lt (p.getD k 0) (p.getD i 0)=false)->(∀i,r<=i->i<k->lt (p.getD k 0) (p.getD i 0)=true)->
 (∀l',l'<=k->(∀i,i<l'->lt (p.getD k 0) (p.getD i 0)=false)->(∀i,l'<=i->i<k->lt (p.getD k 0) (p.getD i 0)=true)->Q l')->wpk n lt (kas_place p k f l r) Q
 | 0,l,r,hlr,hrk,hf,h1,h2,h=>h l (by omega) h1 λi a b=>h2 i (by omega) b
 | f+1,l,r,hlr,hrk,hf,h1,h2,h=>by
   unfold kas_place
   by_cases hc:l≥r
   ·rw [if_pos hc];exact h l (by omega) h1 λi a b=>h2 i (by omega) b
   ·rw [if_neg hc]
    refine⟨hp.bd hn k,hp.bd hn _,?_⟩
    cases hm:lt (p.getD k 0) (p.getD ((l+r) / 2) 0) with
    | true=>
      simp only [if_true]
      refine af5 hp hi f l ((l+r) / 2) (by omega) (by omega) (by omega) h1 (λi a b=>?_) h
      cases e:lt (p.getD k 0) (p.getD i 0) with
      | true=>rfl
      | false=>
        have:=O.tr _ _ _ (hi ((l+r) / 2) i a b) e
        rw [hm] at this;exact this.symm
    | false=>
      simp only [Bool.false_eq_true,if_false]
      refine af5 hp hi f ((l+r) / 2+1) r (by omega) hrk (by omega) (λi a=>?_) h2 h
      exact O.tr _ _ _ (hi i ((l+r) / 2) (by omega) (by omega)) hm
theorem aP0 {Q:Array Nat->Prop}:∀f (p:Array Nat) k,Pm n p->k+f=n->Inc lt p k->(∀p',Pm n p'->Inc lt p' n->Q p')->wpk n lt (kas_bin f p k) Q
 | 0,p,k,hp,hk,hi,h=>h p hp (by rw [←hk];exact hi)
 | f+1,p,k,hp,hk,hi,h=>by
   refine R1 (af5 O hn hp hi k 0 k (by omega) (by omega) (by omega) (λi a=>by omega) (λi a b=>by omega) λl hl h1 h2=>?_)
   refine aP0 f _ (k+1) (hp.bub _ _) (by omega) (λi j hij hj=>?_) h
   have hsz:k<p.size:=by rw [hp.size];omega
   have hkl:k - (k - l)=l:=by omega
   rw [aD8 hsz (by omega),aD8 hsz (by omega),hkl]
   by_cases hj1:j=l
   ·rw [if_pos hj1]
    by_cases hi1:i=l
    ·rw [if_pos hi1];exact O.irr hn _
    ·rw [if_neg hi1,if_neg (by omega)];exact h1 i (by omega)
   ·rw [if_neg hj1]
    by_cases hj2:l<j/\j<=k
    ·rw [if_pos hj2]
     by_cases hi1:i=l
     ·rw [if_pos hi1];exact O.asym _ _ (h2 (j - 1) (by omega) (by omega))
     ·rw [if_neg hi1]
      by_cases hi2:l<i/\i<=k
      ·rw [if_pos hi2];exact hi (i - 1) (j - 1) (by omega) (by omega)
      ·rw [if_neg hi2];exact hi i (j - 1) (by omega) (by omega)
    ·rw [if_neg hj2]
     have hjl:j<l:=by omega
     rw [if_neg (by omega),if_neg (by omega)]
     exact hi i j hij (by omega)
theorem aU8 (h2:2<=n) {Q:Array Nat->Prop} (h:∀p',Pm n p'->Inc lt p' n->Q p'):wpk n lt (kas_sort n) Q:=by
 refine R1 (aK8 O hn (p:=List.toArray (List.range n)) ⟨by simp,.refl _⟩ h2 λm p a b c d=>?_)
 dsimp only
 by_cases hm:m<n
 ·rw [if_pos hm,Nat.max_eq_left b]
  exact aP0 O hn (n - m) p m a (by omega) d h
 ·rw [if_neg hm]
  have:m=n:=by omega
  subst this
  exact h p a d
end
end Ws
namespace Ws
open PySem PySem.W PyProof.Rows
noncomputable def aa2 (fin:Bool):List Int->List Int->Bool
 | x::xs,y::ys=>if x=y then aa2 fin xs ys else decide (x<y)
 | _,_=>fin
theorem at0:∀xs ys:List Int,aa2 (decide (xs.length<ys.length)) xs ys=D8 xs ys
 | [],[]=>rfl
 | [],_::_=>by simp [aa2,D8]
 | _::_,[]=>by simp [aa2,D8]
 | x::xs,y::ys=>by
   simp only [aa2,D8,List.length_cons,Nat.add_lt_add_iff_right]
   rw [at0 xs ys]
section
variable {prog:Program} {w:World} {A:Around} {E:Value->Shared->Prop} {s:Shared}
theorem j4 {fin:Bool} {Q:Bool->Shared->Prop}:∀{vs us:List Value} {ns ms:List Int} (i:Nat),IntsAre vs ns->IntsAre us ms->Q (aa2 fin ns ms) s->KatLex prog w A true fin Q (vs.zip us) i s
 | _,_,_,_,i,.nil,_,h=>by simpa [aa2] using kat_nil h
 | _,_,_,_,i,.cons _ _ _,.nil,h=>by simpa [aa2] using kat_nil h
 | _,_,_,_,i,.cons a t hv,.cons c u hw,h=>by
   rw [List.zip_cons_cons]
   refine kat_cons (wpAny_eqBool_int ?_)
   by_cases e:a=c
   ·subst e
    simp only [aa2,if_true] at h
    rw [beq_self_eq_true]
    exact kat_yes (j4 (i+1) hv hw h)
   ·rw [beq_eq_false_iff_ne.mpr e]
    simp only [aa2,e,if_false] at h
    refine kat_no ?_
    cases hb:(true&&i == 0) with
    | true=>exact oneLt_int h
    | false=>exact kat_one _ _ (lt_int h)
noncomputable def Z3 (h:Heap) (v:Value) (t:List Int):Prop:=∃a o its n,v=.ref a/\h.get? a=some o/\o.cls=.type "tuple"/\o.data=.seq its n/\IntsAre its.toList t/\t≠[]
theorem t5 {h:Heap}:∀{vs:List Value} {ts:List (List Int)} {i:Nat},Paired (Z3 h) vs ts->i<vs.length->Z3 h (vs.getD i .none) (ts.getD i [])
 | _,_,_,.nil,hi=>by simp at hi
 | _,_,0,.cons r _,_=>r
 | _,_,i+1,.cons _ t,hi=>by
   have:=t5 (i:=i) t (by simpa using hi)
   simpa using this
theorem aj4 {h:Heap}:∀{vs:List Value} {ts:List (List Int)},Paired (Z3 h) vs ts->∃fs,KatTups h vs fs/\fs.length=vs.length/\∀f∈fs,∃i t,f=Value.int i t
 | _,_,.nil=>⟨[],KatTups.nil,rfl,by simp⟩
 | _,_,.cons r t=>by
   obtain⟨a,o,its,n,rfl,ho,hc,hd,hi,hne⟩:=r
   obtain⟨fs,k,hl,hf⟩:=aj4 t
   cases hh:its.toList with
   | nil=>rw [hh] at hi;cases hi;exact absurd rfl hne
   | cons v r=>
     rw [hh] at hi
     cases hi with
     | cons i tk hr=>
       refine⟨.int i tk::fs,KatTups.cons ho hc hd (by rw [←Array.getElem?_toList,hh];rfl) k,by simp [hl],λf hm=>?_⟩
       rcases List.mem_cons.mp hm with rfl | hm
       ·exact⟨_,_,rfl⟩
       ·exact hf f hm
theorem aK9 (ts:List (List Int)):Ord (λi=>ts.getD i []) (λi j=>D8 (ts.getD i []) (ts.getD j [])):=
 ⟨λ_ _ h=>o5 _ _ h,λ_ _ _ h h'=>ao1 _ _ _ h h',λ_ _ h h'=>m4 _ _ h h',λ_ _ _ _ h h'=>congr (congrArg D8 h) h'⟩
noncomputable def M7 (ts:List (List Int)) (n:Nat) (p:List Nat):Prop:=p.Perm (List.range n)/\(p.map λi=>ts.getD i []).Pairwise (λx y=>D8 y x=false)
theorem T7 {a:Addr} {vs:List Value} {ts:List (List Int)} {n:Nat} {P:PySem.Fin->Shared->Prop} (ho:s.heap.get? a=some (seqObj "list" vs.toArray n)) (ht:Paired (Z3 s.heap) vs ts) (h64:vs.length<64)
 (h:∀p,M7 ts vs.length p->P (.done (.ret .none)) { s with heap:=sortedHeap s.heap a vs (List.toArray (p.map λi=>vs.getD i Value.none)) }) :
 wpAny (model prog w) A (Builtin.«list.sort» ⟨[.ref a],[]⟩) P E s:=by
 rw [list_sort_plain]
 have ha:a<s.heap.objs.size:=Heap.lt_size ho
 refine wpAny_bind (listItems_at ho rfl ?_)
 refine wpAny_bind (listUpdate_at ho rfl ?_)
 obtain⟨e1,ho1⟩:∃e1,(s.heap.update a (Obj.mapSeq λ_=>#[])).get? a=some (seqObj "list" #[] e1):=⟨_,get?_update_seq ho (λ_=>#[])⟩
 refine wpAny_bind (seqEpoch_at ho1 rfl ?_)
 refine wpAny_bind (wpAny_newTuple ?_)
 refine wpAny_bind (wpAny_newList ?_)
 refine wpAny_holding ?_
 have ho6:(((s.heap.update a (Obj.mapSeq λ_=>#[])).push (seqObj "tuple" vs.toArray 0)).push (seqObj "list" #[] 0)).get? a=some (seqObj "list" #[] e1):=by
  rw [Heap.get?_push_ne _ _ _ (by rw [size_push',Heap.size_update];exact Nat.ne_of_lt (Nat.lt_succ_of_lt ha)),Heap.get?_push_ne _ _ _ (by rw [Heap.size_update];exact Nat.ne_of_lt ha)]
  exact ho1
 show wpAny (model prog w) A _ P E { s with heap:=((s.heap.update a (Obj.mapSeq λ_=>#[])).push (seqObj "tuple" vs.toArray 0)).push (seqObj "list" #[] 0) }
 dsimp only
 have hsz:vs.toArray.size=vs.length:=by simp
 have tst:∀v t,Z3 s.heap v t->Z3 (((s.heap.update a (Obj.mapSeq λ_=>#[])).push (seqObj "tuple" vs.toArray 0)).push (seqObj "list" #[] 0)) v t:=λv t ⟨b,o,its,k,e,q,c,d,r⟩=>by
  have hb:b≠a:=by
   rintro rfl
   rw [ho] at q;cases q
   exact absurd (Value.type.inj (show Value.type "list" = Value.type "tuple" from c)) (by decide)
  exact⟨b,o,its,k,e,Heap.get?_push_of_some _ (Heap.get?_push_of_some _ (by rw [Heap.get?_update_ne _ _ _ _ hb];exact q)),c,d,r⟩
 have ht6:Paired (Z3 (((s.heap.update a (Obj.mapSeq λ_=>#[])).push (seqObj "tuple" vs.toArray 0)).push (seqObj "list" #[] 0))) vs ts:=L2.Paired.mapP ht tst
 by_cases h2:vs.toArray.size<2
 ·rw [if_pos h2,if_pos h2]
  refine wpAny_bind (wpAny_pure ?_)
  rw [StateT.run_pure]
  refine wpAny_bind (wpAny_pure ?_)
  dsimp only
  refine wpAny_bind (seqEpoch_at ho6 rfl ?_)
  refine wpAny_bind (listUpdate_at ho6 rfl ?_ (hsz2:=by rw [Array.size_map];show (pairsOf vs).size<=_;rw [pairsOf_size,sizeLine_eq];omega))
  simp only [bne_self_eq_false,Bool.false_eq_true,if_false]
  have hp:M7 ts vs.length (List.range vs.length):=by
   refine⟨.refl _,?_⟩
   rw [hsz] at h2
   match hl:vs.length,h2 with
   | 0,_=>simp
   | 1,_=>simp [List.range_succ]
  have hout:(arrOf (SortSt.mk' general' (vs.toArray.zip vs.toArray) #[] 7 none)).map (·.2)=List.toArray ((List.range vs.length).map λi=>vs.getD i Value.none):=by
   apply Array.toList_inj.mp
   show ((vs.toArray.zip vs.toArray).map (·.2)).toList=_
   apply List.ext_getElem
   ·simp
   ·intro i h1 h2
    have hi:i<vs.length:=by simpa using h1
    simp [hi]
  have:=h _ hp
  rw [←hout] at this
  exact wpAny_pure this
 ·rw [if_neg h2,if_neg h2]
  have hl2:2<=vs.length:=by omega
  obtain⟨fs,hk,hfl,hfi⟩:=aj4 ht6
  refine wpAny_bind (kat_kind (T:=.type "int") hk (by omega) (λv hv=>by
   obtain⟨i,t,rfl⟩:=hfi v hv
   exact Looks.of_pure rfl) (by rfl) ?_)
  have ev:(kas_sort vs.length).kasWp (kas_ask prog w A (tuples' (Value.type "int" != Value.type "tuple")) vs) (λp s'=>M7 ts vs.length p.toList/\s'={ s with heap:=((s.heap.update a (Obj.mapSeq λ_=>#[])).push (seqObj "tuple" vs.toArray 0)).push (seqObj "list" #[] 0) }) { s with heap:=((s.heap.update a (Obj.mapSeq λ_=>#[])).push (seqObj "tuple" vs.toArray 0)).push (seqObj "list" #[] 0) }:=by
   refine as9 (n:=vs.length) (lt:=λi j=>D8 (ts.getD i []) (ts.getD j [])) (λi j C hi hj hC=>?_) (aU8 (aK9 ts) (by omega) hl2 (Q:=λp=>M7 ts vs.length p.toList) λp hp hinc=>?_) λp hp=>⟨hp,rfl⟩
   ·obtain⟨b,o,its,k,e,q,c,d,r,_⟩:=t5 ht6 hi
    obtain⟨b',o',its',k',e',q',c',d',r',_⟩:=t5 ht6 hj
    unfold kas_ask
    rw [e,e']
    refine kat_lt (b:=true) q d q' d' (j4 0 r r' ?_)
    have z1:its.size=(ts.getD i []).length:=by rw [←r.length];simp
    have z2:its'.size=(ts.getD j []).length:=by rw [←r'.length];simp
    rw [z1,z2,at0];exact hC
   ·refine⟨by simpa using Array.perm_iff_toList_perm.mp hp.perm,?_⟩
    rw [List.pairwise_map,List.pairwise_iff_getElem]
    intro i j hi hj hij
    have:=hinc i j (by omega) (by rw [←hp.size];simpa using hj)
    have hi':i<p.size:=by simpa using hi
    have hj':j<p.size:=by simpa using hj
    simpa [Array.getD,hi',hj'] using this
  refine wpAny_bind (wpAny_mono (kat_run (Q:=λst' s'=>∃p:Array Nat,p.size=vs.length/\arrOf st'=p.map (kas_item (vs.toArray.zip vs.toArray))/\failedOf st'=none/\M7 ts vs.length p.toList/\s'={ s with heap:=((s.heap.update a (Obj.mapSeq λ_=>#[])).push (seqObj "tuple" vs.toArray 0)).push (seqObj "list" #[] 0) })
   rfl hl2 h64 (λp' st' s' a1 a2 a3 a4=>⟨p',a1,a2,a3,a4.1,a4.2⟩) ev) ?_ λ_ _ e=>e)
  rintro⟨⟨⟩,st'⟩ s' ⟨p,hp,har,hf,hres,rfl⟩
  dsimp only
  have hout:=kat_snds rfl har
  have hsz3:(List.toArray (p.toList.map λi=>vs.getD i Value.none)).size=vs.length:=by rw [List.size_toArray,List.length_map,Array.length_toList,hp]
  refine wpAny_bind (seqEpoch_at ho6 rfl ?_)
  rw [hout]
  refine wpAny_bind (listUpdate_at ho6 rfl ?_ (hsz2:=by rw [hsz3,sizeLine_eq];omega))
  rw [hf]
  simp only [bne_self_eq_false,Bool.false_eq_true,if_false]
  exact wpAny_pure (h p.toList hres)
theorem aj5 {l:Addr} {vs:List Value} {ts:List (List Int)} {Q:Value->Shared->Prop} (hl:s.heap.IsList l vs.toArray) (ht:Paired (Z3 s.heap) vs ts) (h64:vs.length<64)
 (h:∀p,M7 ts vs.length p->Q (.ref (s.heap.objs.size+1)) { s with heap:=sortedAll s.heap vs (List.toArray (p.map λi=>vs.getD i Value.none)) }) :
 wpAny (model prog w) A (call (.builtin "sorted") [.ref l]) Q E s:=by
 refine Calls.call_function_entry kind_sorted plain_sorted entry_sorted (args_sorted1 _) ?_
 unfold Builtin.«sorted»
 refine wpAny_bind (m:=checkCount "sorted" 1 1 _) (wpAny_pure ?_)
 refine wpAny_bind (collect_list hl ?_)
 refine wpAny_bind (wpAny_newList ?_)
 have hsz:((s.heap.push (seqObj "list" #[] 0)).update s.heap.objs.size (Obj.mapSeq (·++vs.toArray))).objs.size=s.heap.objs.size+1:=by
  rw [Heap.size_update,size_push']
 have hoL:(((s.heap.push (seqObj "list" #[] 0)).update s.heap.objs.size (Obj.mapSeq (·++vs.toArray))).push (seqObj "list" vs.toArray 0)).get? (s.heap.objs.size+1)=some (seqObj "list" vs.toArray 0):=by
  rw [←hsz];exact Heap.get?_push_size _ rfl
 show wpAny _ _ _ _ _ { s with heap:=((s.heap.push (seqObj "list" #[] 0)).update s.heap.objs.size (Obj.mapSeq (·++vs.toArray))).push (seqObj "list" vs.toArray 0) }
 rw [hsz]
 have keep:∀b o,s.heap.get? b=some o->(((s.heap.push (seqObj "list" #[] 0)).update s.heap.objs.size (Obj.mapSeq (·++vs.toArray))).push (seqObj "list" vs.toArray 0)).get? b=some o:=λb o q=>by
  have hlt:b<s.heap.objs.size:=Heap.lt_size q
  rw [Heap.get?_push_ne _ _ _ (by rw [hsz];exact Nat.ne_of_lt (Nat.lt_succ_of_lt hlt)),Heap.get?_update_ne _ _ _ _ (Nat.ne_of_lt hlt),Heap.get?_push_ne _ _ _ (Nat.ne_of_lt hlt)]
  exact q
 refine wpAny_bind (wpAny_holding (wpAny_call_entry slot_list_sort ⟨_,hoL,rfl⟩ entry_list_sort (T7 hoL (L2.Paired.mapP ht λv t ⟨b,o,its,k,e,q,r⟩=>⟨b,o,its,k,e,keep b o q,r⟩) h64 λp hp=>⟨_,rfl,?_⟩) (args_list_sort _)))
 exact wpAny_pure ⟨_,rfl,h p hp⟩
end
section
variable {X:L2.Cx} {cm:Nat->Addr}
noncomputable def aU9 (K:PySem.W.Frag):List L2.V->L2.Hp->L2.VK->Prop:=λvs H Q=>∃a ns,vs=[.ref a]/\L2.SqL K H a (ns.map L2.V.int)/\ns.length<64/\∀l,H l=none->Q (.ref l) (L2.upd H l (.lst ((D9 ltI ns).map L2.V.int)))
theorem call_sortI:L2.CallR X (.builtin "sorted") (aU9 X.K):=by
 intro pins s σ H xs us Q I r h
 obtain⟨a,ns,rfl,hq,h64,q⟩:=h
 obtain⟨u,rfl,rx⟩:=L2.X1 r
 cases rx
 obtain⟨its,ri,pl,hz⟩:=I.list hq
 have hI:IntsAre its ns:=L2.n5 ri
 have hl:its.length=ns.length:=hI.length
 refine sorted_ints pl.isList hI (by omega) λout ns' h1 h2 h3=>?_
 have e:ns'=D9 ltI ns:=ab9 (h2.trans (L4 _ _).symm) h3 (ae5 ns)
 subst e
 obtain⟨c,hat⟩:=sortedAll_at s.heap its out
 have hlen:(D9 ltI ns).length=ns.length:=(L4 _ _).length_eq
 refine⟨.ref (s.heap.objs.size+1),_,I.laid (t':=s.toks) (a:=s.heap.objs.size+1) (o:=.lst ((D9 ltI ns).map L2.V.int)) (λb o e=>sortedAll_old e) (Nat.le_succ _) ?_,rfl,q _ (I.hok.fresh (Nat.le_succ _))⟩
 refine⟨by rw [List.length_map,hlen,sizeLine_eq];omega,out.toList,c,L2.d4 h1,?_⟩
 rw [Array.toArray_toList];exact hat
noncomputable def TupV (H:L2.Hp) (x:L2.V) (t:List Int):Prop:=∃b,x=.ref b/\H b=some (.tup (t.map L2.V.int))/\t≠[]
noncomputable def aV0 (K:PySem.W.Frag):List L2.V->L2.Hp->L2.VK->Prop:=λvs H Q=>∃a xs ts,vs=[.ref a]/\L2.SqL K H a xs/\Paired (TupV H) xs ts/\xs.length<64/\∀l p,M7 ts xs.length p->H l=none->Q (.ref l) (L2.upd H l (.lst (p.map λi=>xs.getD i .non)))
theorem af6 {pins:List (Addr×Obj)} {σ:L2.St} {H:L2.Hp} {s:Shared} (I:L2.Inv X pins σ H s):∀{xs:List L2.V} {its:List Value} {ts:List (List Int)},L2.Vals xs its->Paired (TupV H) xs ts->Paired (Z3 s.heap) its ts
 | _,_,_,.nil,.nil=>.nil
 | _,_,_,.cons r t,.cons h k=>by
   refine .cons ?_ (af6 I t k)
   obtain⟨b,rfl,hb,hne⟩:=h
   cases r
   obtain⟨_,vals,rv,ob,ho,hc,n,hd⟩:=I.hok b _ hb
   exact⟨b,ob,vals.toArray,n,rfl,ho,hc,hd,by simpa using L2.n5 rv,hne⟩
theorem g8 {xs:List L2.V} {its:List Value} (r:L2.Vals xs its):∀p:List Nat,(∀i∈p,i<xs.length)->L2.Vals (p.map λi=>xs.getD i .non) (p.map λi=>its.getD i .none)
 | [],_=>.nil
 | i::p,h=>by
   have hi:=h i List.mem_cons_self
   obtain⟨u,hu,ru⟩:=r.get (i:=i) (x:=xs[i]) (by simp [hi])
   refine .cons ?_ (g8 r p λj hj=>h j (List.mem_cons_of_mem _ hj))
   have e1:xs.getD i .non=xs[i]:=by simp [hi]
   have e2:its.getD i .none=u:=by rw [List.getD_eq_getElem?_getD,hu];rfl
   show L2.RelV (xs.getD i .non) (its.getD i .none)
   rw [e1,e2];exact ru
theorem ap1:L2.CallR X (.builtin "sorted") (aV0 X.K):=by
 intro pins s σ H xs us Q I r h
 obtain⟨a,ys,ts,rfl,hq,ht,h64,q⟩:=h
 obtain⟨u,rfl,rx⟩:=L2.X1 r
 cases rx
 obtain⟨its,ri,pl,hz⟩:=I.list hq
 have hl:ys.length=its.length:=ri.length
 refine aj5 pl.isList (af6 I ri ht) (by omega) λp hp=>?_
 have hp':M7 ts ys.length p:=by rw [hl];exact hp
 obtain⟨c,hat⟩:=sortedAll_at s.heap its (List.toArray (p.map λi=>its.getD i Value.none))
 have hpl:p.length=ys.length:=by rw [hp'.1.length_eq];simp
 refine⟨.ref (s.heap.objs.size+1),_,I.laid (t':=s.toks) (a:=s.heap.objs.size+1) (o:=.lst (p.map λi=>ys.getD i .non)) (λb o e=>sortedAll_old e) (Nat.le_succ _) ?_,rfl,q _ p hp' (I.hok.fresh (Nat.le_succ _))⟩
 refine⟨by rw [List.length_map,hpl,sizeLine_eq];omega,p.map λi=>its.getD i Value.none,c,g8 ri p λi hi=>?_,hat⟩
 have:=hp'.1.mem_iff.mp hi
 simpa using this
theorem S4:∀{l:List PV} {ns:List Int},K5 l=some ns->l=ns.map .int
 | [],ns,h=>by simp [K5] at h;subst h;rfl
 | x::r,ns,h=>by
   cases x with
   | int i=>
     simp only [K5,Option.map_eq_some_iff] at h
     obtain⟨m,h1,rfl⟩:=h
     rw [S4 h1];rfl
   | _=>simp [K5] at h
theorem t6:∀{l:List PV} {ts:List (List Int)},N9 l=some ts->l=ts.map (λt=>PV.tup (t.map .int))/\∀t∈ts,t≠[]
 | [],ts,h=>by simp [N9] at h;subst h;simp
 | x::r,ts,h=>by
   cases x with
   | tup m=>
     cases m with
     | nil=>simp [N9] at h
     | cons y ys=>
       unfold N9 at h
       rcases e1:K5 (y::ys) with _ | z
       ·rw [e1] at h;cases h
       ·rcases e2:N9 r with _ | zs
        ·rw [e1,e2] at h;cases h
        ·rw [e1,e2] at h
         cases h
         obtain⟨a,b⟩:=t6 e2
         have e3:=S4 e1
         refine⟨by rw [a,e3];rfl,λt ht=>?_⟩
         rcases List.mem_cons.mp ht with rfl | ht
         ·rintro rfl;simp at e3
         ·exact b t ht
   | _=>simp [N9] at h
theorem RVs.ints_inv {ρ:List Addr} {H:L2.Hp}:∀{ns:List Int} {xs:List L2.V},RVs ρ H (ns.map .int) xs->xs=ns.map L2.V.int
 | [],_,h=>by cases h;rfl
 | i::ns,_,h=>by cases h with | cons h r=>cases h;rw [RVs.ints_inv r];rfl
theorem at1 {ρ:List Addr} {H:L2.Hp}:∀{ts:List (List Int)} {xs:List L2.V},RVs ρ H (ts.map λt=>PV.tup (t.map .int)) xs->(∀t∈ts,t≠[])->Paired (TupV H) xs ts
 | [],_,h,_=>by cases h;exact .nil
 | t::ts,_,h,hne=>by
   cases h with
   | cons h r=>
     cases h with
     | tup ha rt=>
       rw [RVs.ints_inv rt] at ha
       exact .cons ⟨_,rfl,ha,hne t List.mem_cons_self⟩ (at1 r λu hu=>hne u (List.mem_cons_of_mem _ hu))
theorem t7 {ρ:List Addr} {H:L2.Hp} {l:List PV} {xs:List L2.V} (r:RVs ρ H l xs):∀p:List Nat,(∀i∈p,i<l.length)->RVs ρ H (p.map λi=>l.getD i .non) (p.map λi=>xs.getD i .non)
 | [],_=>.nil
 | i::p,h=>by
   have hi:=h i List.mem_cons_self
   obtain⟨u,hu,ru⟩:=r.get (i:=i) (x:=l[i]) (by simp [hi])
   refine .cons ?_ (t7 r p λj hj=>h j (List.mem_cons_of_mem _ hj))
   have e1:l.getD i .non=l[i]:=by simp [hi]
   have e2:xs.getD i .non=u:=by rw [List.getD_eq_getElem?_getD,hu];rfl
   show RV ρ H (l.getD i .non) (xs.getD i .non)
   rw [e1,e2];exact ru
theorem ac6 {α:Type} (ts:List α) (d:α) {p:List Nat} (hp:p.Perm (List.range ts.length)):(p.map λi=>ts.getD i d).Perm ts:=by
 refine (hp.map _).trans ?_
 have:(List.range ts.length).map (λi=>ts.getD i d)=ts:=by
  apply List.ext_getElem
  ·simp
  ·intro i h1 h2;simp [h2]
 rw [this]
theorem aE2 {e:Expr} {d:ED} {p pos:Pos} (hr:X.A.units+64<cLine) (he:L2.PE X e (EvE X.K cm d)) (hg:L2.Gl X "sorted") (hm:X.mg "sorted" = none) (hs:starEach [e] X.env=(false,eval e X.env)::starEach [] X.env:=by exact C1 rfl):L2.PE X (.Call (.Name "sorted" p) [e] [] pos) (EvE X.K cm (ar0 d)):=
 D2 (L2.N7 (call_sortI.or ap1) hg hm PyProof.Rows.boot_sorted (r_cons he r_nil hs) (he:=hs)) λσ H Q h=>W6 (f:=λx=>match x with | .ref n=>bnd (D3 n) λl=>bnd (X8 l) λm=>alloc (.lst m) | _=>stuck) (λ_=>rfl) (λρ A H x z A' v Q rl rx ev k=>by
  cases x with
  | ref n=>
    obtain⟨l,A1,e1,ev1⟩:=B0 ev
    obtain⟨rfl,a,xs,rfl,hq,r⟩:=G9 rl rx e1
    obtain⟨m,A2,e2,ev2⟩:=B0 ev1
    obtain⟨h64,e3⟩:=C6 e2
    rcases hi:K5 l with _ | ns
    ·rcases ht:N9 l with _ | ts
     ·rw [hi,ht] at e3;cases e3
     ·rw [hi,ht] at e3
      cases e3
      cases ev2
      obtain⟨rfl,hne⟩:=t6 ht
      have hl:xs.length=ts.length:=by rw [←r.length];simp
      refine .inr ⟨a,xs,ts,rfl,hq,at1 r hne,by rw [←r.length];exact h64,λD p hp hD=>?_⟩
      rw [hl] at hp
      have es:(p.map λi=>ts.getD i [])=D9 D8 ts:=d7 (lt:=D8) m4 ((ac6 ts [] hp.1).trans (L4 _ _).symm) hp.2 (o6 ts)
      have hlt:∀i∈p,i<ts.length:=λi hi=>by simpa using hp.1.mem_iff.mp hi
      have ep:(D9 D8 ts).map (λt=>PV.tup (t.map .int))=p.map λi=>(ts.map λt=>PV.tup (t.map .int)).getD i .non:=by
       rw [←es,List.map_map]
       refine List.map_congr_left λi hi=>?_
       have:=hlt i hi
       simp [this]
      have ex:Ext ρ H (ρ++[D]) (L2.upd H D (.lst (p.map λi=>xs.getD i .non))):=Ext.new hD
      refine k (ρ++[D]) _ _ ex (rl.alloc hD ⟨_,L2.C7,?_⟩ rfl) (.ref (by rw [←rl.len];simp))
      rw [ep]
      exact (t7 r p λi hi=>by rw [List.length_map];exact hlt i hi).mono ex
    ·rw [hi] at e3
     cases e3
     cases ev2
     have hl:=S4 hi
     subst hl
     have hx:=RVs.ints_inv r
     subst hx
     refine .inl ⟨a,ns,rfl,hq,by simpa using h64,λD hD=>?_⟩
     have ex:Ext ρ H (ρ++[D]) (L2.upd H D (.lst ((D9 ltI ns).map L2.V.int))):=Ext.new hD
     exact k (ρ++[D]) _ _ ex (rl.alloc hD ⟨_,L2.C7,RVs.ints _⟩ rfl) (.ref (by rw [←rl.len];simp))
  | _=>cases ev) h
end
end Ws
namespace Ws
open PySem
theorem aL0 (K:PySem.W.Frag):Kit K:=⟨λa b ha hb=>by
 simp only [List.mem_cons,List.not_mem_nil,or_false] at ha hb
 rcases ha with rfl | rfl | rfl | rfl | rfl | rfl <;> rcases hb with rfl | rfl | rfl | rfl <;> with_unfolding_all rfl⟩
noncomputable def W8 (s:SD):Prop:=∀σ A v A',s σ A≠.ok (.rt v) A'
theorem E8 {a b:SD} (ha:W8 a) (hb:W8 b):W8 (E6 a b):=λσ A v A' h=>by
 obtain⟨o,A1,e1,e2⟩:=B0 h
 cases o with
 | nx σ1=>exact hb _ _ _ _ e2
 | rt u=>exact ha _ _ _ _ e1
 | bk σ1=>cases e2
 | ct σ1=>cases e2
theorem af7 {t:TD} {a b:SD} (ha:W8 a) (hb:W8 b):W8 (sIf t a b):=λσ A v A' h=>by
 obtain⟨c,A1,e1,e2⟩:=B0 h
 cases c with
 | true=>rw [if_pos rfl] at e2;exact ha _ _ _ _ e2
 | false=>rw [if_neg (by simp)] at e2;exact hb _ _ _ _ e2
theorem Z4:W8 sPass:=λσ A v A' h=>by cases h
theorem U8:W8 sNever:=λσ A v A' h=>by cases h
theorem at2 {e:ED} {g:GD}:W8 (V0 e g):=λσ A v A' h=>by
 obtain⟨x,A1,e1,e2⟩:=B0 h
 obtain⟨y,A2,e3,e4⟩:=B0 e2
 cases e4
theorem G7 {a e:ED} {f:Nat}:W8 (sFld a f e):=λσ A v A' h=>by
 obtain⟨x,A1,e1,e2⟩:=B0 h
 obtain⟨y,A2,e3,e4⟩:=B0 e2
 cases y with
 | ref n=>
   obtain⟨o,A3,e5,e6⟩:=B0 e4
   obtain⟨_,e7⟩:=C6 e6
   cases e7
 | _=>cases e4
theorem t8 {n p:Nat} {s:SD} (hs:W8 s) {vs:List PV} {A A':PHp} {v:PV} (h:fn n p s vs A=.ok v A'):v=.non:=by
 obtain⟨_,h1⟩:=C6 h
 obtain⟨o,A1,e1,e2⟩:=B0 h1
 cases o with
 | nx σ1=>cases e2;rfl
 | rt u=>exact absurd e1 (hs _ _ _ _)
 | bk σ1=>cases e2
 | ct σ1=>cases e2
noncomputable def at3 (K:PySem.W.Frag):L2.Sp:=λvs H Q _=>∃(a:Addr) (ns:List Int),vs=[.ref a]/\L2.SqL K H a (ns.map L2.V.int)/\ns.length<=63/\L2.aS6 H/\∀H',Q (.bl true) H'
theorem aV1 {K:PySem.W.Frag} {cm:Nat->Addr} {f:Fun} (h:∀ns:List Int,∃A',f [.ref 0] [.ro (ns.map .int)]=.ok (.bl true) A') (vs:List L2.V) (H:L2.Hp) (Q:L2.VK) (E:L2.XK) (q:at3 K vs H Q E):SpF K cm f 1 vs H Q E:=by
 obtain⟨a,ns,rfl,hS,_,hO,k⟩:=q
 obtain⟨A',e⟩:=h ns
 have fz:Fz K H a (ns.map L2.V.int):=by
  rcases hS with (hS | hS) | hS
  ·rcases hO a with z | ⟨o,xs,z⟩ <;> (rw [hS] at z;cases z)
  ·exact .inl hS
  ·exact .inr hS
 refine⟨[a],[.ro (ns.map .int)],[.ref 0],.bl true,A',⟨rfl,λn o b h1 h2=>?_,λm n b o p h1 h2 h3 h4 m1 m2=>?_⟩,.cons (.ref rfl) .nil,rfl,e,λρ' H' v' _ _ rv=>by cases rv;exact k H'⟩
 ·cases n with
  | zero=>simp at h1 h2;subst h1;subst h2;exact⟨_,fz,RVs.ints ns⟩
  | succ n=>simp at h1
 ·cases m with
  | zero=>cases n with
    | zero=>rfl
    | succ n=>simp at h4
  | succ m=>simp at h3
end Ws
namespace Ws
open PySem PySem.W
noncomputable def aL1 (ok:Thread->Bool) (stp:SharedT->Thread->Option (SharedT×Thread)) (n:Nat):SharedT->Thread->Option SharedT:=
 @Nat.rec (λ_=>SharedT->Thread->Option SharedT) (λ_ _=>none)
  (λ_ ih s t=>@Bool.rec (λ_=>Option SharedT) (@Bool.rec (λ_=>Option SharedT) none (@Option.rec _ (λ_=>Option SharedT) none (λr=>ih r.1 r.2) (stp s t)) (ok t)) (some s) (through t)) n
theorem aL2 {tb:String->Option Builtin} {p:Program} {w:World} {m:Nat} {an:Option Value}:∀(n:Nat) (S:SharedT) (t:Thread) (R:SharedT),
 aL1 (stepOk m an) (stepT (denote tb) p w) n S t=some R->topRun tb p w m an n S.abs t=some R.abs:=by
 intro n
 induction n with
 | zero=>intro S t R h;cases h
 | succ n ih=>
   intro S t R h
   unfold topRun
   have h':@Bool.rec (λ_=>Option SharedT) (@Bool.rec (λ_=>Option SharedT) none (@Option.rec _ (λ_=>Option SharedT) none (λr=>aL1 (stepOk m an) (stepT (denote tb) p w) n r.1 r.2) (stepT (denote tb) p w S t)) (stepOk m an t)) (some S) (through t)=some R:=h
   cases a:through t with
   | true=>rw [a] at h';cases h';rfl
   | false=>
     rw [a] at h'
     cases b:stepOk m an t with
     | false=>rw [b] at h';cases h'
     | true=>
       rw [b] at h'
       cases c:stepT (denote tb) p w S t with
       | none=>rw [c] at h';cases h'
       | some r=>
         rw [c] at h'
         obtain⟨S1,t1⟩:=r
         show (match step (denote tb) p w S.abs t with | .go s' t'=>topRun tb p w m an n s' t' | .halt _ _=>none)=_
         rw [stepT_spec c]
         exact ih S1 t1 R h'
noncomputable def aE3:List Obj->Nat->BT->BT
 | [],_,t=>t
 | o::r,n,t=>aE3 r (n+1) (t.ins n o)
noncomputable def aE4 (w:World) (os:OsState):SharedT:=⟨aE3 (boot_heap w.params).objs.toList 0 .nil,11,(boot_heap w.params).life,#[],boot_drawn,boot_toks,os⟩
theorem aE5 (w:World) (os:OsState):(aE4 w os).abs=⟨boot_heap w.params,#[],boot_drawn,boot_toks,os⟩:=by kernel_rfl
theorem aL3 (P:Params):((boot_heap P).isNs mainGlobals,(boot_heap P).objs.size,(boot_heap P).nsMap mainGlobals "__annotations__")=(true,11,some (.ref 6)):=by kernel_rfl
noncomputable def aj6 (h:Heap):Frag:=(List.range h.objs.size).filterMap λa=>(h.get? a).map λo=>(a,o)
noncomputable def at4 (S:SharedT):Frag:=(List.range S.n).filterMap λa=>(alive ((S.tree.get a).getD default)).map λo=>(a,o)
theorem g9 {h:Heap}:∀(l:List Nat) {a:Addr} {o:Obj},(l.filterMap λa=>(h.get? a).map λo=>(a,o)).lookup a=some o->h.get? a=some o
 | [],_,_,e=>by cases e
 | b::l,a,o,e=>by
   rw [List.filterMap_cons] at e
   cases q:h.get? b with
   | none=>rw [q] at e;exact g9 l e
   | some x=>
     rw [q] at e
     change ((b,x)::_).lookup a=some o at e
     rw [List.lookup_cons] at e
     by_cases z:(a == b)=true
     ·rw [z] at e;cases e;rw [beq_iff_eq.mp z];exact q
     ·have z':(a == b)=false:=by simpa using z
      rw [z'] at e;exact g9 l e
theorem aL4 (h:Heap):(aj6 h).In h:=λa o e=>g9 _ e
theorem aE6 (S:SharedT):aj6 S.abs.heap=at4 S:=by
 have hs:S.abs.heap.objs.size=S.n:=absHeap_size ..
 unfold aj6 at4
 rw [hs]
 have key:∀l:List Nat,(∀a∈l,a<S.n)->(l.filterMap λa=>(S.abs.heap.get? a).map λo=>(a,o))=l.filterMap λa=>(alive ((S.tree.get a).getD default)).map λo=>(a,o):=by
  intro l
  induction l with
  | nil=>intro _;rfl
  | cons a l ih=>
    intro h
    have ha:S.abs.heap.get? a=alive ((S.tree.get a).getD default):=by
     show (absHeap S.tree S.n S.life).get? a=_
     unfold Heap.get?
     rw [absHeap_at,if_pos (h a (.head _))]
     cases (S.tree.get a).getD default with
     | mk c d dt sl=>cases dt <;> rfl
    rw [List.filterMap_cons,List.filterMap_cons,ha,ih λb hb=>h b (.tail _ hb)]
 exact key _ λa ha=>List.mem_range.mp ha
noncomputable def Kw (p:Program) (N:Nat) (w:World):Frag:=match openEnds treeTable p w N with
 | some s=>aj6 s.heap
 | none=>[]
noncomputable def lk {α:Type} (sn:Program->List Str->List Str->(Shared->Bool)->Bool->Shared->α) (p q:Program) (loose:List Str) (Xt:Shared->Bool) (w:World) (s:Shared):Bool×α:=
 (staticsOk (importedModules p.main.body) (boot_heap w.params) s.heap&&namesBound p s.heap&&gensDone s&&laidKept (boot_heap w.params) s.heap,sn q loose (importedModules p.main.body) Xt true s)
theorem aL5 {p p':Program} {q:Program->Program} {loose:List Str} {Xt:Program->Shared->Bool} {N:Nat} {β:Type} {ob:Frag->β} {va:Program->β}
 {ok:Nat->Option Value->Thread->Bool} {st:(Code->Sem Fin)->Program->World->SharedT->Thread->Option (SharedT×Thread)} {dn:(String->Option Builtin)->Code->Sem Fin} {tb:String->Option Builtin}
 {sn:Program->List Str->List Str->(Shared->Bool)->Bool->Shared->_}
 (hp:p=p') (hok:stepOk=ok) (hst:stepT=st) (hdn:denote=dn) (htb:treeTable=tb) (hsn:openSeen=sn)
 (op:∀w:World,(fencedOpening treeTable p w N).map (λs=>(s.heap,s.gens,s.drawn,s.toks))=some (boot_heap w.params,#[],boot_drawn,boot_toks))
 (ck:∀(w:World) (os:OsState),(aL1 (ok 11 (some (.ref 6))) (st (dn tb) p' w) N (aE4 w os) (topStub p')).map (λS=>(lk sn p' (q p') loose (Xt p') w S.abs,ob (at4 S)))=some ((true,openGood (q p') loose),va p')) :
 LeftO p (q p) loose (Xt p) (λs=>aj6 s.heap) (Kw p N) N/\∀w,ob (Kw p N w)=va p:=by
 subst hp hok hst hdn htb hsn
 have key:∀w,∃s,openEnds treeTable p w N=some s/\openSeen (q p) loose (importedModules p.main.body) (Xt p) true s=openGood (q p) loose/\ob (aj6 s.heap)=va p:=by
  intro w
  obtain⟨⟨h,gs,d,k,os⟩,e,e'⟩:=Option.map_eq_some_iff.mp (op w)
  simp only [Prod.mk.injEq] at e'
  obtain⟨rfl,rfl,rfl,rfl⟩:=e'
  obtain⟨S,r,c⟩:=Option.map_eq_some_iff.mp (ck w os)
  simp only [lk,Prod.mk.injEq] at c
  obtain⟨⟨c1,c2⟩,c3⟩:=c
  have r1:=aL2 N _ _ _ r
  rw [aE5] at r1
  have b:=aL3 w.params
  simp only [Prod.mk.injEq] at b
  obtain⟨b1,b2,b3⟩:=b
  refine⟨S.abs,?_,c2,by rw [aE6];exact c3⟩
  unfold openEnds
  rw [e]
  show topFrom treeTable p w N _=_
  unfold topFrom
  dsimp only
  rw [b1,b2,b3,r1]
  show (match staticsOk (importedModules p.main.body) (boot_heap w.params) S.abs.heap&&namesBound p S.abs.heap&&gensDone S.abs&&laidKept (boot_heap w.params) S.abs.heap with | true=>some S.abs | false=>none)=_
  rw [c1]
 refine⟨λw=>?_,λw=>?_⟩
 ·obtain⟨s,e,c2,_⟩:=key w
  rw [e]
  show some _=some _
  unfold Kw
  rw [e]
  exact congrArg some (Prod.ext c2 rfl)
 ·obtain⟨s,e,_,c3⟩:=key w
  unfold Kw
  rw [e]
  exact c3
noncomputable def a06:Stmt->Pos
 | .FunctionDef _ _ _ _ _ _ _ _ _ p=>p
 | _=>⟨0,0,0,0⟩
theorem aE7 {l:OpenLaw} {q:Program} {loose:List Str} {N:Nat} {d:DefRec}
 (left:LeftO l.row.prog q loose (λs=>xlAt q [] s&&recOk (RowW.records l.row.toRowW) s) (λs=>aj6 s.heap) (Kw l.row.prog N) N)
 (hdef:defOf q l.row.name=some (d,[])) (hp:l.row.prog.theDef l.row.name=some (d.params,d.body,d.scope)) (hk:kwWritten? d.params.kwonlyargs d.params.kw_defaults=some [])
 (hwr:(!l.row.writes||l.row.records.isEmpty)=true) (k1:l.row.wellSaid=true) (ok:(chainsOk q&&opensWell l.row.prog&&(frees l.row.toRowW&&l.row.within.isEmpty))=true) (hb:l.row.prog.bare) (hw:l.row.toRowW.promised)
 (call:WalkO q loose (XL q []) (λw h=>(Kw l.row.prog N w).In h) l.row.toRowW d [] λf vs=>PySem.call f vs):l.row.Holds:=
 holds_open left (λw s e=>by rw [←e];exact aL4 _) (λw h h' x k=>x.keeps k) (λs e=>xl_of s (Bool.and_eq_true_iff.mp e).1) XL.keeps hdef hp hk (λs e=>recFacts_of (Bool.and_eq_true_iff.mp e).2) hwr k1 ok hb hw call
theorem p1 {α β:Type} {a a':α} {b b':β} (h:(a,b)=(a',b')):a=a':=(Prod.mk.inj h).1
theorem p2 {α β:Type} {a a':α} {b b':β} (h:(a,b)=(a',b')):b=b':=(Prod.mk.inj h).2
theorem s2 {α β γ:Type} {a a':α} {b b':β} {c c':γ} (h:(a,b,c)=(a',b',c')):c=c':=p2 (p2 h)
theorem s4 {α β γ δ ε:Type} {a a':α} {b b':β} {c c':γ} {d d':δ} {e e':ε} (h:(a,b,c,d,e)=(a',b',c',d',e')):e=e':=s2 (s2 h)
end Ws
namespace Ws
open PySem
theorem ax1 {l:PySem.W.OpenLaw} {q:Program} {loose:List Str} {XP:(Str->Option Value)->Heap->Prop} {YP:World->Heap->Prop} {d:DefRec} {K:World->PySem.W.Frag} {k:Nat} {x:Str} (hn:l.most=some 63) (hdf:d.params.defaults=[]) (hr:L2.Room k PySem.callerA)
 (hY:∀(w:World) (h:Heap),YP w h->(K w).In h)
 (F:∀(w:World) (mg:Str->Option Value) (fa:Addr) (h:Heap),(K w).In h->h.Ns mainGlobals mg->mg d.name=some (.ref fa)->
  ∃fd:FuncData,(∀(s:Shared) (u:Value),BindsTo s fd ⟨[u],[]⟩ [(x,u)])/\∀base:Heap,(K w).In base->base.Ns mainGlobals mg->L2.FnOk l.prog w (K w) mg base L2.CX0 k fa fd [x] (at3 (K w))) :
 PySem.W.WalkO q loose XP YP l.row.toRowW d [] (λf vs=>PySem.call f vs):=by
 refine Att.ah4 hn hdf λw s₀ s₁ mg mb fa o pm cd doc a vs ns G Y ho hd hcd hmg hobj hints hlen hg=>?_
 obtain⟨fd,hb,hF⟩:=F w mg fa _ (hY w _ Y) G.T.g hmg
 exact L2.aB4 (hY w _ Y) G.T.g G.T.b G.T.builtins G.T.nolimit hg hobj hints (Nat.le_trans hlen (by decide)) hr hF hb (λH hO hS=>⟨a,ns,rfl,hS,hlen,hO,λ_=>rfl⟩) λH e s' z=>z
end Ws
open PySem PySem.Spec PyProof.Rows
namespace Ws
end Ws
namespace Ws
open PySem
end Ws
namespace Ws
open PySem
section
variable {ρ:List Addr} {H:L2.Hp} {K:PySem.W.Frag} {A:PHp} {n:Nat} {v:L2.V}
theorem Pairs.cons_inv {κ κ':Type} {f:κ->κ'} {p:κ×PV} {r:List (κ×PV)} {kv:List (κ'×L2.V)} (h:Pairs f ρ H (p::r) kv):∃u kv',kv=(f p.1,u)::kv'/\RV ρ H p.2 u/\Pairs f ρ H r kv':=by
 obtain⟨k,v⟩:=h
 cases kv with
 | nil=>cases k
 | cons q t=>
   obtain⟨g,u⟩:=q
   simp only [List.map_cons,List.cons.injEq] at k
   cases v with
   | cons hv hr=>exact⟨u,t,by rw [←k.1],hv,k.2,hr⟩
theorem Pairs.nil_inv {κ κ':Type} {f:κ->κ'} {kv:List (κ'×L2.V)} (h:Pairs f ρ H [] kv):kv=[]:=by
 obtain⟨k,v⟩:=h
 cases kv with
 | nil=>rfl
 | cons q t=>cases k
theorem Pairs.cons' {κ κ':Type} {f:κ->κ'} {p:κ×PV} {u:L2.V} {r:List (κ×PV)} {kv:List (κ'×L2.V)} (h:RV ρ H p.2 u) (t:Pairs f ρ H r kv):Pairs f ρ H (p::r) ((f p.1,u)::kv):=
 ⟨by rw [List.map_cons,List.map_cons,t.keys],.cons h t.vals⟩
end
end Ws
namespace Ws
open PySem
end Ws
namespace Ws
open PySem PySem.W PyProof.Rows
end Ws
namespace Ws
open PySem PySem.W PyProof.Rows
end Ws
namespace Ws
open PySem PySem.W PyProof.Rows
end Ws
namespace Ws
open PySem PySem.W PyProof.Rows
section
variable {X:L2.Cx} {cm:Nat->Addr}
theorem aV2 {σ:L2.St} {H:L2.Hp} {Q:List L2.V->L2.Hp->Prop} (h:EvA X.K cm aNil σ H Q):L2.tNil σ H Q:=by
 obtain⟨ρ,A,σp,vs,A',rl,rs,ev,k⟩:=h
 cases ev
 exact k ρ H [] (Ext.refl _ _) rl .nil
theorem Z5 {c:Nat} {f:Fun} {n k k':Nat} {ps:List Str} {m:Str} {o:Expr} {d:ED} {apos pos:Pos} {pl:Sem Bool} (D:g7 X.prog X.w X.K X.mg X.base cm c m k ps f n) (hk:k<=k') (hr:L2.Room k' X.A) (hc:L2.Cls X.K (cm c)) (ho:L2.PE X o (EvE X.K cm d)) (hnm:∀i,i<19->fnm i≠m)
 (ht:eval (.Call (.Attribute o m apos) [] [] pos) X.env=(do
  let ov ←eval o X.env
  standAt apos.atName
  let (f,first) ←holding [ov] (getMethod ov m pl)
  callWith pos f first (backTo pos (starEach [] X.env)) (backToKw pos (keywordEach [] X.env))):=by rfl) :
 L2.PE X (.Call (.Attribute o m apos) [] [] pos) (EvE X.K cm (S9 c f d aNil)):=by
 obtain⟨fa,fd,F,hm,hb⟩:=D.ex
 refine D2 (L2.aB0 (pl:=pl) ho hc hm F (hr.mono hk) hb (dvs:=[]) .nil L2.aq6 ht) λσ H Q h=>?_
 obtain⟨ρ,A,σp,v,A',rl,rs,ev,k⟩:=as1 (n:=n) D.len hnm h
 exact⟨ρ,A,σp,v,A',rl,rs,ev,λρ1 H1 v1 x1 rl1 rv1=>by
  obtain⟨a,dx,fs,h1,h2,h3,h4⟩:=k ρ1 H1 v1 x1 rl1 rv1
  exact⟨a,dx,fs,h1,h2,h3,aV2 h4⟩⟩
end
structure FunD (K:PySem.W.Frag) (x qual:Str) (st:Stmt) (f:Addr) (fd:FuncData) (items:Array Value):Prop where
 ex:∃(T:Addr) (oc:Value) (od:Option Addr) (kV doc pm:Value) (an:Option Addr) (cdv ct:Value) (osl:Array (Option Value)) (tc:Value) (td:Option Addr) (tn:Nat) (ts:Array (Option Value)),
  fd=PySem.W.fnOf x qual (L2.C3 st) (L2.C2 st) (L2.B6 st) (.ref T) kV doc pm an cdv ct/\K.lookup f=some ⟨oc,od,.func fd,osl⟩/\PySem.W.codeIn K cdv qual=true/\K.lookup T=some ⟨tc,td,.seq items tn,ts⟩
 kp:PySem.W.keepIn K (.ref f)=true
section
variable {P:Program} {w:World} {K:PySem.W.Frag} {mg:Str->Option Value} {base:Heap} {cm:Nat->Addr}
theorem FunD.binds {x qual:Str} {st:Stmt} {f:Addr} {fd:FuncData} {items:Array Value} {ps:List Str} {ds:List Value} (F:FunD K x qual st f fd items) (n:Nat) (hn:n+ds.length=ps.length)
 (h:∀(T:Addr) (kV doc pm:Value) (an:Option Addr) (cdv ct:Value) (us:List Value),us.length=n->∃k,bindArgs (PySem.W.fnOf x qual (L2.C3 st) (L2.C2 st) (L2.B6 st) (.ref T) kV doc pm an cdv ct) ⟨us,[]⟩=(seqItems? (.ref T)>>=k)/\k (some items)=pure (ps.zip (us++ds))):L2.Binds K fd ps ds:=by
 obtain⟨T,oc,od,kV,doc,pm,an,cdv,ct,osl,tc,td,tn,ts,rfl,lk,hcd,lt⟩:=F.ex
 intro s us X hl
 obtain⟨k,h1,h2⟩:=h T kV doc pm an cdv ct us (by rw [List.length_append] at hl;omega)
 exact binds_K X rfl lt rfl h1 h2
theorem aL6 {x qual:Str} {st:Stmt} {f T:Addr} {items:Array Value} {oc:Value} {od an:Option Addr} {osl:Array (Option Value)} {kV doc pm cdv ct:Value} {tc:Value} {td:Option Addr} {tn:Nat} {ts:Array (Option Value)}
 (l:K.lookup f=some ⟨oc,od,.func (PySem.W.fnOf x qual (L2.C3 st) (L2.C2 st) (L2.B6 st) (.ref T) kV doc pm an cdv ct),osl⟩) (c:PySem.W.codeIn K cdv qual=true) (k:PySem.W.keepIn K (.ref f)=true) (lt:K.lookup T=some ⟨tc,td,.seq items tn,ts⟩) :
 FunD K x qual st f (PySem.W.fnOf x qual (L2.C3 st) (L2.C2 st) (L2.B6 st) (.ref T) kV doc pm an cdv ct) items:=⟨⟨T,oc,od,kV,doc,pm,an,cdv,ct,osl,tc,td,tn,ts,rfl,l,c,lt⟩,k⟩
theorem aV3 {x qual:Str} {st:Stmt} {f:Addr} {fd:FuncData} {items:Array Value} {N ps:List Str} {k:Nat} {s:SD} (F:FunD K x qual st f fd items) (S:L2.D1 N ps (L2.B6 st))
 (hbody:∀(cdv:Value) (A:Around) (outer:List Env) (s0:Shared) (H:L2.Hp) (E:L2.XK),L2.Room k (A.deeper (PyProof.Rows.envOfC qual (L2.B6 st) s0.heap.objs.size f cdv))->
  L2.PSs (L2.ah2 L2.CX0 P w K mg base N qual (L2.B6 st) f cdv A outer s0 H E).nox (L2.C2 st) (EvS K cm s)) :
 L2.FnOk P w K mg base L2.CX0 (k+1) f fd ps (SpF K cm (fn N.length ps.length s) ps.length):=by
 obtain⟨T,oc,od,kV,doc,pm,an,cdv,ct,osl,tc,td,tn,ts,rfl,lk,hcd,lt⟩:=F.ex
 refine L2.aO1 lk hcd S (λvs H Q E ⟨ρ,A,qs,v,A',rl,rv,hl,_,_⟩=>by rw [←rv.length];exact hl) λA outer s0 H vs Q E hr h=>⟨_,(hbody cdv A outer s0 H E hr).nox,?_⟩
 obtain⟨ρ,B,qs,v,B',rl,rv,hl,ev,k⟩:=h
 obtain⟨_,ev1⟩:=C6 ev
 obtain⟨o,B1,e1,ev2⟩:=B0 ev1
 refine⟨ρ,B,Ws.start N.length qs,o,B1,rl,RSt.start0 rv,e1,λρ1 H1 x1 rl1=>?_⟩
 cases o with
 | nx σ1=>cases ev2;exact λσ' _=>k ρ1 H1 _ x1 rl1 .non
 | rt u=>cases ev2;exact λv' rv'=>k ρ1 H1 v' x1 rl1 rv'
 | bk σ1=>cases ev2
 | ct σ1=>cases ev2
end
end Ws
namespace Ws
open PySem PySem.W PyProof.Rows
section
variable {X:L2.Cx} {cm:Nat->Addr}
theorem at5:∀{bs:List Bool} {us:List Value},L2.Vals (bs.map L2.V.bl) us->∀(i:Nat) (v:Value),us[i]?=some v->∃b,bs[i]?=some b/\v=.bool b
 | [],_,.nil,i,v,h=>by simp at h
 | b::bs,_,.cons r t,0,v,h=>by
   cases r
   simp at h;subst h
   exact⟨b,rfl,rfl⟩
 | b::bs,_,.cons r t,i+1,v,h=>at5 t i v (by simpa using h)
theorem ax2 (bs:List Bool):((List.range bs.length).all λi=>(bs[i]?).getD true)=bs.all id:=by
 induction bs with
 | nil=>rfl
 | cons b r ih=>
   rw [List.length_cons,List.range_succ_eq_map,List.all_cons,List.all_map,List.all_cons,←ih]
   rfl
noncomputable def a49 (K:PySem.W.Frag):List L2.V->L2.Hp->L2.VK->Prop:=λvs H Q=>∃(a:Addr) (bs:List Bool),vs=[.ref a]/\L2.SqL K H a (bs.map L2.V.bl)/\Q (.bl (bs.all id)) H
theorem ax3 (hcalm:X.calm=true):L2.CallR X (.builtin "all") (a49 X.K):=by
 intro pins s σ H xs us Q I r h
 obtain⟨a,bs,rfl,hq,q⟩:=h
 obtain⟨u,rfl,rx⟩:=L2.X1 r
 cases rx
 obtain⟨its,ri,pl,hz⟩:=I.list hq
 have hil:=pl.isList
 have hal:a<s.heap.objs.size:=by
  obtain⟨_,e,_⟩:=hil
  exact Heap.lt_size e
 have hlen:its.length=bs.length:=by
  have:=ri.length
  simpa using this.symm
 refine call_all_walk (wpAny_pyIter_list hil ⟨s.heap.objs.size,[s.heap.objs.size,a],[s.heap.objs.size],its.toArray.size,_,_,λi=>(bs[i]?).getD true,rfl,
  Walks.list (A:=X.A.in1) (I.ok.hd hcalm) _ a (Nat.ne_of_lt hal) its.toArray,⟨⟨_,Heap.get?_push_size _ rfl,rfl,rfl⟩,hil.push _⟩,?_,?_⟩)
 ·intro i v s2 Q2 E2 hP hQ2
  obtain⟨b,e1,rfl⟩:=at5 ri i v (by simpa using hP)
  have hQ3:Q2 ((bs[i]?).getD true) s2:=hQ2
  rw [e1] at hQ3
  exact wpAny_truthy_bool hQ3
 ·intro h2 tk hk
  have e1:its.toArray.size=bs.length:=by rw [List.size_toArray];exact hlen
  rw [e1,ax2]
  exact⟨.bl _,H,I.kept (t':=tk) (λb o e=>hk b o (λhm=>by rw [List.mem_singleton.mp hm] at e;exact absurd (Heap.lt_size e) (Nat.lt_irrefl _)) (Heap.get?_push_of_some _ e)),rfl,q⟩
theorem ac7:∀{l:List PV} {bs:List Bool},V4 l=some bs->l=bs.map .bl
 | [],bs,h=>by simp [V4] at h;subst h;rfl
 | x::r,bs,h=>by
   cases x with
   | bl b=>
     simp only [V4,Option.map_eq_some_iff] at h
     obtain⟨m,h1,rfl⟩:=h
     rw [ac7 h1];rfl
   | _=>simp [V4] at h
theorem at6:∀{ρ:List Addr} {H:L2.Hp} {bs:List Bool} {xs:List L2.V},RVs ρ H (bs.map PV.bl) xs->xs=bs.map L2.V.bl
 | _,_,[],_,.nil=>rfl
 | _,_,b::bs,_,.cons h t=>by cases h;rw [at6 t];rfl
theorem aE8 {e:Expr} {d:ED} {p pos:Pos} (hcalm:X.calm=true) (he:L2.PE X e (EvE X.K cm d)) (hg:L2.Gl X "all") (hm:X.mg "all" = none) (hs:starEach [e] X.env=(false,eval e X.env)::starEach [] X.env:=by exact C1 rfl):L2.PE X (.Call (.Name "all" p) [e] [] pos) (EvE X.K cm (aC1 d)):=
 D2 (L2.N7 (ax3 hcalm) hg hm (by rfl) (r_cons he r_nil hs) (he:=hs)) λσ H Q h=>W6 (f:=λx=>match x with | .ref n=>bnd (D3 n) λl=>(match V4 l with | some bs=>ret (.bl (bs.all id)) | none=>stuck) | _=>stuck) (λ_=>rfl) (λρ A H x z A' v Q rl rx ev k=>by
  cases x with
  | ref n=>
    obtain⟨l,A1,e1,ev1⟩:=B0 ev
    obtain⟨rfl,a,xs,rfl,hq,hv⟩:=G9 rl rx e1
    cases hb:V4 l with
    | none=>rw [hb] at ev1;cases ev1
    | some bs=>
      rw [hb] at ev1
      cases ev1
      rw [ac7 hb] at hv
      exact⟨a,bs,rfl,by rw [←at6 hv];exact hq,k ρ H _ (Ext.refl _ _) rl (.bl _)⟩
  | _=>cases ev) h
end
end Ws
namespace Ws
open PySem PySem.W PyProof.Rows
section
variable {X:L2.Cx} {cm:Nat->Addr}
theorem aj7:∀{ρ:List Addr} {H:L2.Hp} {ns:List Int} {xs:List L2.V},RVs ρ H (ns.map PV.int) xs->xs=ns.map L2.V.int
 | _,_,[],_,.nil=>rfl
 | _,_,i::ns,_,.cons h t=>by cases h;rw [aj7 t];rfl
end
end Ws
namespace Ws
open PySem PySem.W PyProof.Rows
end Ws
namespace Ws
open PySem PySem.W PyProof.Rows
end Ws
namespace Ws
open PySem PySem.W PyProof.Rows
section
variable {X:L2.Cx} {cm:Nat->Addr}
theorem r_neg {i:Int} {j:Nat} {pos pos':Pos}:L2.PE X (.UnaryOp .USub (.Constant (.int i) j pos) pos') (EvE X.K cm (eK (.int (-i)))):=
 D2 (L2.aY1 L2.aR5 L2.az3) λσ H Q ⟨ρ,A,σp,v,A',rl,rs,ev,k⟩=>by
  cases ev
  exact⟨i,rfl,k ρ H _ (Ext.refl _ _) rl (.int _)⟩
end
end Ws
namespace Ws
open PySem
end Ws
namespace Ws
open PySem PySem.W PyProof.Rows
end Ws
namespace Ws
open PySem PySem.W PyProof.Rows
section
variable {X:L2.Cx} {cm:Nat->Addr}
noncomputable def aL7 (K:PySem.W.Frag):List L2.V->L2.Hp->L2.VK->Prop:=λvs H Q=>∃(a:Addr) (xs:List L2.V),vs=[.ref a]/\L2.SqL K H a xs/\∀p,H p=none->Q (.ref p) (L2.upd H p (.tup xs))
theorem aj8:L2.CallR X (.type "tuple") (aL7 X.K):=by
 intro pins s σ H xs us Q I r h
 obtain⟨a,ys,rfl,hq,q⟩:=h
 obtain⟨u,rfl,rx⟩:=L2.X1 r
 cases rx
 obtain⟨its,ri,pl,hz⟩:=I.list hq
 have hl:ys.length=its.length:=ri.length
 refine call_tuple_list pl.isList (λh' hk=>?_) (by rw [List.size_toArray,←hl];exact hz)
 have I1:=I.kept (t':=s.toks) hk
 exact⟨.ref h'.objs.size,_,I1.laid (t':=s.toks) (a:=h'.objs.size) (o:=.tup ys) (λb o e=>Heap.get?_push_of_some _ e) (Nat.le_refl _) ⟨hz,its,ri,_,Heap.get?_push_size _ rfl,rfl,_,rfl⟩,rfl,q _ (I1.hok.fresh (Nat.le_refl _))⟩
theorem ac8 {e:Expr} {d:ED} {p pos:Pos} (he:L2.PE X e (EvE X.K cm d)) (hg:L2.Gl X "tuple") (hm:X.mg "tuple" = none) (hv:bootBuiltins "tuple" = some (.type "tuple")) (hs:starEach [e] X.env=(false,eval e X.env)::starEach [] X.env:=by exact C1 rfl):L2.PE X (.Call (.Name "tuple" p) [e] [] pos) (EvE X.K cm (Y0 d)):=
 D2 (L2.d0 aj8 hg hm hv (r_cons he r_nil hs) (he:=hs)) λσ H Q h=>W6 (f:=λx=>match x with | .ref n=>bnd (D3 n) λl=>E3 (l.length<=LIM) (ret (.tup l)) | _=>stuck) (λ_=>rfl) (λρ A H x z A' v Q rl rx ev k=>by
  cases x with
  | ref n=>
    obtain⟨l,A1,e1,ev1⟩:=B0 ev
    obtain⟨rfl,a,xs,rfl,hq,hv⟩:=G9 rl rx e1
    obtain⟨c,ev2⟩:=C6 ev1
    cases ev2
    refine⟨a,xs,rfl,hq,λp hp=>?_⟩
    have ex:Ext ρ H ρ (L2.upd H p (.tup xs)):=Ext.same hp
    exact k ρ _ _ ex (rl.tup hp) (.tup L2.C7 (hv.mono ex))
  | _=>cases ev) h
end
end Ws
namespace Ws
open PySem PySem.W PyProof.Rows
section
variable {prog:Program} {w:World} {A:Around} {E:Value->Shared->Prop} {s:Shared}
theorem aE9 {it t:Addr} {i:Nat} {its:Array Value} {x:Value} {Q:Value->Shared->Prop} (hi:s.heap.IsTupleIter it t i) (ht:s.heap.IsTuple t its) (hx:its[i]?=some x)
 (hQ:∀h',h'.IsTupleIter it t (i+1)->Heap.SameBut it s.heap h'->Q x { s with heap:=h' }):wpAny (model prog w) A (Builtin.SmallTypes.nextOf (.ref it)) Q E s:=by
 obtain⟨o,ho,hc,hd⟩:=id hi
 obtain⟨ot,hot,_,nt,hdt⟩:=ht
 unfold Builtin.SmallTypes.nextOf
 refine wpAny_bind (wpAny_callSpecial?_slot (name:=Str.ofString "__next__") hi.typeIs F.slot_tuple_iterator_next (wpAny_call_entry F.slot_tuple_iterator_next hi.typeIs F.entry_tuple_iterator_next ?_ (F.args_tuple_iterator_next_1 _)))
 show wpAny _ _ (field (.ref it) 0>>=_) _ _ s
 refine wpAny_bind (wpAny_field ho hd (x:=.ref t) rfl ?_)
 show wpAny _ _ (if (Value.ref t == Value.none)=true then _ else _) _ _ s
 rw [if_neg (show ¬((Value.ref t == Value.none)=true) from Bool.false_ne_true)]
 show wpAny _ _ (field (.ref it) 1>>=_) _ _ s
 refine wpAny_bind (wpAny_field ho hd (x:=.int i 0) rfl ?_)
 show wpAny _ _ (seqItems? (.ref t)>>=_) _ _ s
 refine wpAny_bind (wpAny_seqItems hot hdt ?_)
 simp only [Int.toNat_natCast,hx]
 refine wpAny_bind (wpAny_setField ho hd (by simp) (wpAny_pure ⟨x,rfl,wpAny_pure (hQ _ ⟨_,Heap.get?_update_self _ ho (Obj.isFreed_of_fields (Obj.data_mapFields hd _)),(Obj.cls_mapFields ..).trans hc,by rw [Obj.data_mapFields hd];simp [rawInt]⟩ (Heap.SameBut.update ..))⟩))
theorem aL8 {it t:Addr} {i:Nat} {its:Array Value} {Q:Value->Shared->Prop} (hh:A.handled=none) (hi:s.heap.IsTupleIter it t i) (ht:s.heap.IsTuple t its) (hx:its[i]?=none)
 (hE:∀h' e,Heap.ExtBut it s.heap h'->(∃o,h'.get? e=some o/\o.cls=.type "StopIteration")->E (.ref e) { s with heap:=h' }):wpAny (model prog w) A (Builtin.SmallTypes.nextOf (.ref it)) Q E s:=by
 obtain⟨o,ho,hc,hd⟩:=id hi
 obtain⟨ot,hot,_,nt,hdt⟩:=ht
 unfold Builtin.SmallTypes.nextOf
 refine wpAny_bind (wpAny_callSpecial?_slot (name:=Str.ofString "__next__") hi.typeIs F.slot_tuple_iterator_next (wpAny_call_entry F.slot_tuple_iterator_next hi.typeIs F.entry_tuple_iterator_next ?_ (F.args_tuple_iterator_next_1 _)))
 show wpAny _ _ (field (.ref it) 0>>=_) _ _ s
 refine wpAny_bind (wpAny_field ho hd (x:=.ref t) rfl ?_)
 show wpAny _ _ (if (Value.ref t == Value.none)=true then _ else _) _ _ s
 rw [if_neg (show ¬((Value.ref t == Value.none)=true) from Bool.false_ne_true)]
 show wpAny _ _ (field (.ref it) 1>>=_) _ _ s
 refine wpAny_bind (wpAny_field ho hd (x:=.int i 0) rfl ?_)
 show wpAny _ _ (seqItems? (.ref t)>>=_) _ _ s
 refine wpAny_bind (wpAny_seqItems hot hdt ?_)
 simp only [Int.toNat_natCast,hx]
 refine wpAny_bind (wpAny_rule (wpAny_bind (wpAny_setField ho hd (by simp) ?_)))
 show wpAny _ _ (newExc (.type "StopIteration") []>>=_) _ _ _
 refine wpAny_bind ?_
 simp only [newExc,newTuple]
 refine wpAny_bind (wpAny_newObj_type ?_ (by size_fits))
 refine wpAny_bind (m:=firstArgMember _ _) (wpAny_of_eq (a:=Value.none) (by first | rfl | (simp only [firstArgMember];rfl)) ?_)
 refine wpAny_newObj_type ?_ (by size_fits)
 simp only [raiseNew]
 refine wpAny_bind (wpAny_handled ?_)
 first | rw [show A.in1.handled=none from hh] | rw [hh]
 refine wpAny_bind (wpAny_pure (wpAny_throw ?_))
 exact hE _ _ (((Heap.SameBut.update ..).extBut.push _).push _) ⟨_,Heap.get?_push_size _ rfl,rfl⟩
noncomputable def IterAt (k:Bool) (h:Heap) (it l:Addr) (i:Nat):Prop:=match k with
 | true=>h.IsTupleIter it l i
 | false=>h.IsListIter it l i
noncomputable def SeqAt (k:Bool) (h:Heap) (l:Addr) (its:Array Value):Prop:=match k with
 | true=>h.IsTuple l its
 | false=>h.IsList l its
theorem IterAt.at {k:Bool} {h h':Heap} {it l:Addr} {i:Nat} (x:IterAt k h it l i) (e:∀o,h.get? it=some o->h'.get? it=some o):IterAt k h' it l i:=by
 cases k with
 | true=>exact Heap.IsTupleIter.at x e
 | false=>exact Heap.IsListIter.at x e
theorem SeqAt.at {k:Bool} {h h':Heap} {l:Addr} {its:Array Value} (x:SeqAt k h l its) (e:∀o,h.get? l=some o->h'.get? l=some o):SeqAt k h' l its:=by
 cases k with
 | true=>obtain⟨o,h1,h2⟩:=x;exact⟨o,e o h1,h2⟩
 | false=>exact Heap.IsList.at x e
theorem IterAt.obj {k:Bool} {h:Heap} {it l:Addr} {i:Nat} (x:IterAt k h it l i):∃o vs,h.get? it=some o/\o.data=.fields vs:=by
 cases k with
 | true=>obtain⟨o,h1,_,h2⟩:=x;exact⟨o,_,h1,h2⟩
 | false=>obtain⟨o,h1,_,h2⟩:=x;exact⟨o,_,h1,h2⟩
theorem SeqAt.lt {k:Bool} {h:Heap} {l:Addr} {its:Array Value} (x:SeqAt k h l its):l<h.objs.size:=by
 cases k with
 | true=>obtain⟨o,h1,_⟩:=x;exact Heap.lt_size h1
 | false=>obtain⟨o,h1,_⟩:=x;exact Heap.lt_size h1
theorem U9 {k:Bool} {it t:Addr} {i:Nat} {its:Array Value} {x:Value} {Q:Value->Shared->Prop} (hi:IterAt k s.heap it t i) (ht:SeqAt k s.heap t its) (hx:its[i]?=some x)
 (hQ:∀h',IterAt k h' it t (i+1)->Heap.SameBut it s.heap h'->Q x { s with heap:=h' }):wpAny (model prog w) A (Builtin.SmallTypes.nextOf (.ref it)) Q E s:=by
 cases k with
 | true=>exact aE9 hi ht hx hQ
 | false=>exact wpAny_nextOf_list_item hi ht hx hQ
theorem af8 {k:Bool} {it t:Addr} {i:Nat} {its:Array Value} {Q:Value->Shared->Prop} (hh:A.handled=none) (hi:IterAt k s.heap it t i) (ht:SeqAt k s.heap t its) (hx:its[i]?=none)
 (hE:∀h' e,Heap.ExtBut it s.heap h'->(∃o,h'.get? e=some o/\o.cls=.type "StopIteration")->E (.ref e) { s with heap:=h' }):wpAny (model prog w) A (Builtin.SmallTypes.nextOf (.ref it)) Q E s:=by
 cases k with
 | true=>exact aL8 hh hi ht hx hE
 | false=>exact wpAny_nextOf_list_end hh hi ht hx hE
noncomputable def aj9 (k:Bool) (l:Addr):Obj:={ cls:=.type (match k with | true=>"tuple_iterator" | false=>"list_iterator"),data:=.fields #[.ref l,.int 0 0] }
theorem aF0 (k:Bool) (h:Heap) (l:Addr):IterAt k (h.push (aj9 k l)) h.objs.size l 0:=by
 cases k with
 | true=>exact⟨_,Heap.get?_push_size _ rfl,rfl,rfl⟩
 | false=>exact⟨_,Heap.get?_push_size _ rfl,rfl,rfl⟩
theorem ak0 {k:Bool} {l:Addr} {its:Array Value} {Q:Value->Shared->Prop} (hl:SeqAt k s.heap l its) (hQ:Q (.ref s.heap.objs.size) { s with heap:=s.heap.push (aj9 k l) }):wpAny (model prog w) A (pyIter (.ref l)) Q E s:=by
 cases k with
 | true=>exact wpAny_pyIter_tuple hl hQ
 | false=>exact wpAny_pyIter_list hl hQ
noncomputable def aF1 (h:Heap) (z TI TO:Addr):Prop:=∃(f0:Value) (f1:Bool),(f0=.none\/∃T:Addr,f0=rawInt T)/\h.get? z=some { cls:=.type "zip",dict:=none,data:=.fields #[f0,.bool f1,.bool false,.ref TI,.ref TO],slots:=#[] }
end
end Ws
namespace Ws
open PySem PySem.W PyProof.Rows
section
variable {prog:Program} {w:World} {A:Around} {E:Value->Shared->Prop} {s:Shared}
noncomputable abbrev t9 (f0:Value) (f1:Bool) (TI TO:Addr):Obj:={ cls:=.type "zip",dict:=none,data:=.fields #[f0,.bool f1,.bool false,.ref TI,.ref TO],slots:=#[] }
structure ZSt (k1 k2:Bool) (z TI TO i1 i2 l1 l2:Addr) (i:Nat) (h:Heap):Prop where
 zr:aF1 h z TI TO
 ti:IsPair h TI (.ref i1) (.ref i2)
 to:∃a b,IsPair h TO a b
 j1:IterAt k1 h i1 l1 i
 j2:IterAt k2 h i2 l2 i
noncomputable abbrev Kp (z TO i1 i2:Addr) (h h':Heap):Prop:=∀c o,c≠z->c≠TO->c≠i1->c≠i2->h.get? c=some o->h'.get? c=some o
structure ZA (z TI TO i1 i2 l1 l2:Addr):Prop where
 TIz:TI≠z
 TOz:TO≠z
 i1z:i1≠z
 i2z:i2≠z
 TITO:TI≠TO
 TIi1:TI≠i1
 TIi2:TI≠i2
 TOi1:TO≠i1
 TOi2:TO≠i2
 i12:i1≠i2
 l1z:l1≠z
 l1TO:l1≠TO
 l1i1:l1≠i1
 l1i2:l1≠i2
 l2z:l2≠z
 l2TO:l2≠TO
 l2i1:l2≠i1
 l2i2:l2≠i2
theorem ZSt.keep {k1 k2:Bool} {z TI TO i1 i2 l1 l2:Addr} {i:Nat} {h h':Heap} (S:ZSt k1 k2 z TI TO i1 i2 l1 l2 i h) (k:∀b∈[z,TI,TO,i1,i2],∀o,h.get? b=some o->h'.get? b=some o):ZSt k1 k2 z TI TO i1 i2 l1 l2 i h':=by
 obtain⟨⟨f0,f1,hf,hz⟩,ti,⟨a,b,to⟩,j1,j2⟩:=S
 exact⟨⟨f0,f1,hf,k z (by simp) _ hz⟩,k TI (by simp) _ ti,⟨a,b,k TO (by simp) _ to⟩,j1.at λo e=>k i1 (by simp) o e,j2.at λo e=>k i2 (by simp) o e⟩
theorem ax4 {a:Addr} {Q:Option Obj->Shared->Prop} (h:Q (s.heap.get? a) s):wpAny (model prog w) A (loadIfAlive a) Q E s:=λ_ _ _=>h
theorem ak1 {z TI TO:Addr} {Q:Bool->Shared->Prop} (hz:aF1 s.heap z TI TO) (h:∀b h' f0 f1,h'.get? z=some (t9 f0 f1 TI TO)->(b=false->∃T:Addr,f0=rawInt T)->Heap.SameBut z s.heap h'->Q b { s with heap:=h' }) :
 wpAny (model prog w) A (Builtin.SmallTypes.ownedTupleIsFree (.ref z)) Q E s:=by
 obtain⟨f0,f1,hf,hz⟩:=hz
 unfold Builtin.SmallTypes.ownedTupleIsFree
 rcases hf with rfl | ⟨T,rfl⟩
 ·exact wpAny_bind (wpAny_field hz rfl (x:=.none) rfl (wpAny_pure (h true s.heap _ _ hz (by simp) ⟨rfl,λ_ _=>rfl⟩)))
 ·refine wpAny_bind (wpAny_field hz rfl (x:=rawInt T) rfl ?_)
  refine wpAny_bind (ax4 ?_)
  by_cases hn:(s.heap.get? ((T:Int).toNat)).isNone=true
  ·rw [if_pos hn]
   exact wpAny_pure (h true s.heap _ _ hz (by simp) ⟨rfl,λ_ _=>rfl⟩)
  ·rw [if_neg hn]
   refine wpAny_bind (wpAny_field hz rfl (x:=.bool f1) rfl ?_)
   cases f1 with
   | true=>
     rw [if_neg (by simp)]
     exact wpAny_pure (h false s.heap _ _ hz (λ_=>⟨T,rfl⟩) ⟨rfl,λ_ _=>rfl⟩)
   | false=>
     rw [if_pos (by decide)]
     refine wpAny_bind (wpAny_setField_rec hz (by simp) λh1 hz1 hs1=>wpAny_pure (h false h1 (rawInt T) true hz1 (λ_=>⟨T,rfl⟩) hs1))
theorem aV4 {k1 k2:Bool} {z TI TO i1 i2 l1 l2:Addr} {k:Nat} {xs ys:Array Value} {x y:Value} {Q:Value->Shared->Prop} (D:ZA z TI TO i1 i2 l1 l2) (S:ZSt k1 k2 z TI TO i1 i2 l1 l2 k s.heap)
 (hl1:SeqAt k1 s.heap l1 xs) (hl2:SeqAt k2 s.heap l2 ys) (hx:xs[k]?=some x) (hy:ys[k]?=some y)
 (hQ:∀h',ZSt k1 k2 z TI TO i1 i2 l1 l2 (k+1) h'->IsPair h' s.heap.objs.size x y->Kp z TO i1 i2 s.heap h'->Q (.ref s.heap.objs.size) { s with heap:=h' }) :
 wpAny (model prog w) A (Builtin.«zip.__next__» ⟨[.ref z],[]⟩) (λfin s'=>∃v,fin=.done (.ret v)/\Q v s') E s:=by
 obtain⟨hz,hTI,⟨a,b,hTO⟩,h1,h2⟩:=S
 obtain⟨g0,g1,_,hzz⟩:=id hz
 show wpAny _ _ (field (.ref z) 2>>=_) _ _ _
 refine wpAny_bind (wpAny_field hzz rfl (x:=.bool false) rfl ?_)
 show wpAny _ _ (field (.ref z) 3>>=_) _ _ _
 refine wpAny_bind (wpAny_field hzz rfl (x:=.ref TI) rfl ?_)
 refine wpAny_bind (wpAny_seqItems hTI rfl ?_)
 show wpAny _ _ (Builtin.SmallTypes.ownedTupleIsFree (.ref z)>>=_) _ _ _
 refine wpAny_bind (ak1 hz λfr h0 f0 f1 hz0 hfr hs0=>?_)
 have hTO0:IsPair h0 TO a b:=hs0.extBut _ _ D.TOz hTO
 have hTI0:IsPair h0 TI (.ref i1) (.ref i2):=hs0.extBut _ _ D.TIz hTI
 have j1:IterAt k1 h0 i1 l1 k:=h1.at λo e=>hs0.extBut _ _ D.i1z e
 have j2:IterAt k2 h0 i2 l2 k:=h2.at λo e=>hs0.extBut _ _ D.i2z e
 have q1:SeqAt k1 h0 l1 xs:=hl1.at λo e=>hs0.extBut _ _ D.l1z e
 have q2:SeqAt k2 h0 l2 ys:=hl2.at λo e=>hs0.extBut _ _ D.l2z e
 cases fr with
 | true=>
   simp only [if_true]
   refine wpAny_bind (wpAny_rule ?_)
   refine wpAny_bind (wpAny_field hz0 rfl (x:=.ref TO) rfl ?_)
   refine wpAny_bind (wpAny_setField_rec hz0 (by simp) λh₁ hz₁ hs₁=>?_)
   replace hz₁:h₁.get? z=some (t9 .ellipsis f1 TI TO):=hz₁
   refine wpAny_bind ?_
   simp only [List.zipIdx_cons,List.zipIdx_nil,List.forIn_cons,List.forIn_nil]
   refine wpAny_bind (wpAny_bind (wpAny_onRaise ?_))
   show wpAny _ _ (Builtin.SmallTypes.nextOf (.ref i1)>>=_) _ _ _
   refine wpAny_bind (U9 (j1.at λo e=>hs₁.extBut _ _ D.i1z e) (q1.at λo e=>hs₁.extBut _ _ D.l1z e) hx λh₂ h1₂ hs₂=>wpAny_pure ?_)
   have hTO₂:IsPair h₂ TO a b:=hs₂.extBut _ _ D.TOi1 (hs₁.extBut _ _ D.TOz hTO0)
   refine wpAny_bind (wpAny_seqItems hTO₂ rfl ?_)
   refine wpAny_bind (wpAny_updateSeq_pair hTO₂ λh₃ hTO₃ hs₃=>?_)
   replace hTO₃:IsPair h₃ TO x b:=hTO₃
   refine wpAny_bind (wpAny_letGo (wpAny_pure ?_))
   refine wpAny_bind (wpAny_bind (wpAny_onRaise ?_))
   show wpAny _ _ (Builtin.SmallTypes.nextOf (.ref i2)>>=_) _ _ _
   refine wpAny_bind (U9 (j2.at λo e=>hs₃.extBut _ _ D.TOi2.symm (hs₂.extBut _ _ D.i12.symm (hs₁.extBut _ _ D.i2z e))) (q2.at λo e=>hs₃.extBut _ _ D.l2TO (hs₂.extBut _ _ D.l2i1 (hs₁.extBut _ _ D.l2z e))) hy λh₄ h2₄ hs₄=>wpAny_pure ?_)
   have hTO₄:IsPair h₄ TO x b:=hs₄.extBut _ _ D.TOi2 hTO₃
   refine wpAny_bind (wpAny_seqItems hTO₄ rfl ?_)
   refine wpAny_bind (wpAny_updateSeq_pair hTO₄ λh₅ hTO₅ hs₅=>?_)
   replace hTO₅:IsPair h₅ TO x y:=hTO₅
   refine wpAny_bind (wpAny_letGo (wpAny_pure (wpAny_pure ?_)))
   refine wpAny_bind (wpAny_seqItems hTO₅ rfl ?_)
   refine wpAny_bind (wpAny_newTuple ?_)
   have hsz:h₅.objs.size=s.heap.objs.size:=by rw [hs₅.1,hs₄.1,hs₃.1,hs₂.1,hs₁.1,hs0.1]
   have hz₅:h₅.get? z=some (t9 .ellipsis f1 TI TO):=hs₅.extBut _ _ D.TOz.symm (hs₄.extBut _ _ D.i2z.symm (hs₃.extBut _ _ D.TOz.symm (hs₂.extBut _ _ D.i1z.symm hz₁)))
   have hk₅:Kp z TO i1 i2 s.heap h₅:=λc o c1 c2 c3 c4 e=>
    hs₅.extBut _ _ c2 (hs₄.extBut _ _ c4 (hs₃.extBut _ _ c2 (hs₂.extBut _ _ c3 (hs₁.extBut _ _ c1 (hs0.extBut _ _ c1 e)))))
   have h1₅:IterAt k1 h₅ i1 l1 (k+1):=h1₂.at λo e=>hs₅.extBut _ _ D.TOi1.symm (hs₄.extBut _ _ D.i12 (hs₃.extBut _ _ D.TOi1.symm e))
   have h2₅:IterAt k2 h₅ i2 l2 (k+1):=h2₄.at λo e=>hs₅.extBut _ _ D.TOi2.symm e
   have hzlt:z<h₅.objs.size:=Heap.lt_size hz₅
   show wpAny _ _ (Builtin.SmallTypes.ownedTupleHandOut (.ref z) (.ref h₅.objs.size)>>=_) _ _ _
   refine wpAny_bind ?_
   unfold Builtin.SmallTypes.ownedTupleHandOut
   have hz₆:(h₅.push { cls:=.type "tuple",data:=.seq #[x,y] }).get? z=some (t9 .ellipsis f1 TI TO):=Heap.get?_push_of_some _ hz₅
   refine wpAny_bind (wpAny_setField_rec hz₆ (by simp) λh₇ hz₇ hs₇=>?_)
   replace hz₇:h₇.get? z=some (t9 (rawInt h₅.objs.size) f1 TI TO):=hz₇
   refine wpAny_setField_rec hz₇ (by simp) λh₈ hz₈ hs₈=>?_
   replace hz₈:h₈.get? z=some (t9 (rawInt h₅.objs.size) false TI TO):=hz₈
   have up:∀c o,c≠z->h₅.get? c=some o->h₈.get? c=some o:=λc o c1 e=>hs₈.extBut _ _ c1 (hs₇.extBut _ _ c1 (Heap.get?_push_of_some _ e))
   have hT₈:IsPair h₈ h₅.objs.size x y:=hs₈.extBut _ _ (Nat.ne_of_gt hzlt) (hs₇.extBut _ _ (Nat.ne_of_gt hzlt) (Heap.get?_push_size _ rfl))
   refine wpAny_pure ⟨_,rfl,?_⟩
   show Q (.ref h₅.objs.size) _
   rw [hsz] at hT₈ ⊢
   exact hQ h₈ ⟨⟨_,_,.inr ⟨_,rfl⟩,hz₈⟩,up _ _ D.TIz (hk₅ _ _ D.TIz D.TITO D.TIi1 D.TIi2 hTI),⟨_,_,up _ _ D.TOz hTO₅⟩,h1₅.at λo e=>up _ o D.i1z e,h2₅.at λo e=>up _ o D.i2z e⟩ hT₈ λc o c1 c2 c3 c4 e=>up c o c1 (hk₅ c o c1 c2 c3 c4 e)
 | false=>
   simp only [Bool.false_eq_true,if_false]
   obtain⟨T,hT⟩:=hfr rfl
   refine wpAny_bind ?_
   simp only [Array.forIn_toList.symm,List.forIn_cons,List.forIn_nil]
   refine wpAny_bind (wpAny_bind (wpAny_holding ?_))
   show wpAny _ _ (Builtin.SmallTypes.nextOf (.ref i1)>>=_) _ _ _
   refine wpAny_bind (U9 (s:={ s with heap:=h0 }) j1 q1 hx λh₂ h1₂ hs₂=>wpAny_pure (wpAny_pure ?_))
   refine wpAny_bind (wpAny_bind (wpAny_holding ?_))
   show wpAny _ _ (Builtin.SmallTypes.nextOf (.ref i2)>>=_) _ _ _
   refine wpAny_bind (U9 (s:={ s with heap:=h₂ }) (j2.at λo e=>hs₂.extBut _ _ D.i12.symm e) (q2.at λo e=>hs₂.extBut _ _ D.l2i1 e) hy λh₄ h2₄ hs₄=>wpAny_pure (wpAny_pure (wpAny_pure ?_)))
   refine wpAny_bind (wpAny_newTuple ?_ (by show 2<=sizeLine;decide))
   have hsz:h₄.objs.size=s.heap.objs.size:=by rw [hs₄.1,hs₂.1,hs0.1]
   refine wpAny_pure ⟨_,rfl,?_⟩
   show Q (.ref h₄.objs.size) _
   have hk:Kp z TO i1 i2 s.heap h₄:=λc o c1 c2 c3 c4 e=>hs₄.extBut _ _ c4 (hs₂.extBut _ _ c3 (hs0.extBut _ _ c1 e))
   have hz₄:h₄.get? z=some (t9 f0 f1 TI TO):=hs₄.extBut _ _ D.i2z.symm (hs₂.extBut _ _ D.i1z.symm hz0)
   have hp:IsPair (h₄.push { cls:=.type "tuple",data:=.seq #[x,y] }) h₄.objs.size x y:=Heap.get?_push_size _ rfl
   rw [hsz] at hp ⊢
   refine hQ _ ⟨⟨_,_,.inr ⟨T,hT⟩,Heap.get?_push_of_some _ hz₄⟩,Heap.get?_push_of_some _ (hk _ _ D.TIz D.TITO D.TIi1 D.TIi2 hTI),⟨a,b,Heap.get?_push_of_some _ (hs₄.extBut _ _ D.TOi2 (hs₂.extBut _ _ D.TOi1 hTO0))⟩,
    h1₂.at λo e=>Heap.get?_push_of_some _ (hs₄.extBut _ _ D.i12 e),h2₄.at λo e=>Heap.get?_push_of_some _ e⟩ hp λc o c1 c2 c3 c4 e=>Heap.get?_push_of_some _ (hk c o c1 c2 c3 c4 e)
theorem aL9 {k1 k2:Bool} {z TI TO i1 i2 l1 l2:Addr} {k:Nat} {xs ys:Array Value} {Q:Fin->Shared->Prop} (hh:A.handled=none) (D:ZA z TI TO i1 i2 l1 l2) (S:ZSt k1 k2 z TI TO i1 i2 l1 l2 k s.heap)
 (hl1:SeqAt k1 s.heap l1 xs) (hl2:SeqAt k2 s.heap l2 ys) (hend:xs[k]?=none\/ys[k]?=none)
 (hE:∀h' e,Kp z TO i1 i2 s.heap h'->(∃o,h'.get? e=some o/\o.cls=.type "StopIteration")->E (.ref e) { s with heap:=h' }) :
 wpAny (model prog w) A (Builtin.«zip.__next__» ⟨[.ref z],[]⟩) Q E s:=by
 obtain⟨hz,hTI,⟨a,b,hTO⟩,h1,h2⟩:=S
 obtain⟨g0,g1,_,hzz⟩:=id hz
 show wpAny _ _ (field (.ref z) 2>>=_) _ _ _
 refine wpAny_bind (wpAny_field hzz rfl (x:=.bool false) rfl ?_)
 show wpAny _ _ (field (.ref z) 3>>=_) _ _ _
 refine wpAny_bind (wpAny_field hzz rfl (x:=.ref TI) rfl ?_)
 refine wpAny_bind (wpAny_seqItems hTI rfl ?_)
 show wpAny _ _ (Builtin.SmallTypes.ownedTupleIsFree (.ref z)>>=_) _ _ _
 refine wpAny_bind (ak1 hz λfr h0 f0 f1 hz0 hfr hs0=>?_)
 have hTO0:IsPair h0 TO a b:=hs0.extBut _ _ D.TOz hTO
 have j1:IterAt k1 h0 i1 l1 k:=h1.at λo e=>hs0.extBut _ _ D.i1z e
 have j2:IterAt k2 h0 i2 l2 k:=h2.at λo e=>hs0.extBut _ _ D.i2z e
 have q1:SeqAt k1 h0 l1 xs:=hl1.at λo e=>hs0.extBut _ _ D.l1z e
 have q2:SeqAt k2 h0 l2 ys:=hl2.at λo e=>hs0.extBut _ _ D.l2z e
 cases fr with
 | true=>
   simp only [if_true]
   refine wpAny_bind (wpAny_rule ?_)
   refine wpAny_bind (wpAny_field hz0 rfl (x:=.ref TO) rfl ?_)
   refine wpAny_bind (wpAny_setField_rec hz0 (by simp) λh₁ hz₁ hs₁=>?_)
   replace hz₁:h₁.get? z=some (t9 .ellipsis f1 TI TO):=hz₁
   refine wpAny_bind ?_
   simp only [List.zipIdx_cons,List.zipIdx_nil,List.forIn_cons,List.forIn_nil]
   refine wpAny_bind (wpAny_bind (wpAny_onRaise ?_))
   show wpAny _ _ (Builtin.SmallTypes.nextOf (.ref i1)>>=_) _ _ _
   cases hx:xs[k]? with
   | none=>
     refine wpAny_bind (af8 hh (j1.at λo e=>hs₁.extBut _ _ D.i1z e) (q1.at λo e=>hs₁.extBut _ _ D.l1z e) hx λh₂ e hs₂ he=>?_)
     obtain⟨oe,hoe,hce⟩:=he
     have hz₂:h₂.get? z=some (t9 .ellipsis f1 TI TO):=hs₂ _ _ D.i1z.symm hz₁
     have hez:e≠z:=λx=>by subst x;rw [hz₂] at hoe;cases hoe;simp at hce
     refine wpAny_setField_rec hz₂ (by simp) λh₃ _ hs₃=>hE h₃ e (λc o c1 _ c3 _ x=>hs₃.extBut _ _ c1 (hs₂ _ _ c3 (hs₁.extBut _ _ c1 (hs0.extBut _ _ c1 x)))) ⟨oe,hs₃.extBut _ _ hez hoe,hce⟩
   | some x=>
     have hy:ys[k]?=none:=by rcases hend with h | h;· rw [hx] at h;cases h
                             ·exact h
     refine wpAny_bind (U9 (j1.at λo e=>hs₁.extBut _ _ D.i1z e) (q1.at λo e=>hs₁.extBut _ _ D.l1z e) hx λh₂ h1₂ hs₂=>wpAny_pure ?_)
     have hTO₂:IsPair h₂ TO a b:=hs₂.extBut _ _ D.TOi1 (hs₁.extBut _ _ D.TOz hTO0)
     refine wpAny_bind (wpAny_seqItems hTO₂ rfl ?_)
     refine wpAny_bind (wpAny_updateSeq_pair hTO₂ λh₃ hTO₃ hs₃=>?_)
     refine wpAny_bind (wpAny_letGo (wpAny_pure ?_))
     refine wpAny_bind (wpAny_bind (wpAny_onRaise ?_))
     show wpAny _ _ (Builtin.SmallTypes.nextOf (.ref i2)>>=_) _ _ _
     refine wpAny_bind (af8 hh (j2.at λo e=>hs₃.extBut _ _ D.TOi2.symm (hs₂.extBut _ _ D.i12.symm (hs₁.extBut _ _ D.i2z e))) (q2.at λo e=>hs₃.extBut _ _ D.l2TO (hs₂.extBut _ _ D.l2i1 (hs₁.extBut _ _ D.l2z e))) hy λh₄ e hs₄ he=>?_)
     obtain⟨oe,hoe,hce⟩:=he
     have hz₄:h₄.get? z=some (t9 .ellipsis f1 TI TO):=hs₄ _ _ D.i2z.symm (hs₃.extBut _ _ D.TOz.symm (hs₂.extBut _ _ D.i1z.symm hz₁))
     have hez:e≠z:=λx=>by subst x;rw [hz₄] at hoe;cases hoe;simp at hce
     refine wpAny_setField_rec hz₄ (by simp) λh₅ _ hs₅=>hE h₅ e (λc o c1 c2 c3 c4 x=>hs₅.extBut _ _ c1 (hs₄ _ _ c4 (hs₃.extBut _ _ c2 (hs₂.extBut _ _ c3 (hs₁.extBut _ _ c1 (hs0.extBut _ _ c1 x)))))) ⟨oe,hs₅.extBut _ _ hez hoe,hce⟩
 | false=>
   simp only [Bool.false_eq_true,if_false]
   refine wpAny_bind ?_
   simp only [Array.forIn_toList.symm,List.forIn_cons,List.forIn_nil]
   refine wpAny_bind (wpAny_bind (wpAny_holding ?_))
   show wpAny _ _ (Builtin.SmallTypes.nextOf (.ref i1)>>=_) _ _ _
   cases hx:xs[k]? with
   | none=>exact wpAny_bind (af8 (s:={ s with heap:=h0 }) hh j1 q1 hx λh₂ e hs₂ he=>hE h₂ e (λc o c1 _ c3 _ x=>hs₂ _ _ c3 (hs0.extBut _ _ c1 x)) he)
   | some x=>
     have hy:ys[k]?=none:=by rcases hend with h | h;· rw [hx] at h;cases h
                             ·exact h
     refine wpAny_bind (U9 (s:={ s with heap:=h0 }) j1 q1 hx λh₂ h1₂ hs₂=>wpAny_pure (wpAny_pure ?_))
     refine wpAny_bind (wpAny_bind (wpAny_holding ?_))
     show wpAny _ _ (Builtin.SmallTypes.nextOf (.ref i2)>>=_) _ _ _
     exact wpAny_bind (af8 (s:={ s with heap:=h₂ }) hh (j2.at λo e=>hs₂.extBut _ _ D.i12.symm e) (q2.at λo e=>hs₂.extBut _ _ D.l2i1 e) hy λh₄ e hs₄ he=>hE h₄ e (λc o c1 _ c3 c4 x=>hs₄ _ _ c4 (hs₂.extBut _ _ c3 (hs0.extBut _ _ c1 x))) he)
theorem ap2 {k1 k2:Bool} {z TI TO i1 i2 l1 l2:Addr} {k:Nat} {xs ys:Array Value} {x y:Value} {Q:Option Value->Shared->Prop} (D:ZA z TI TO i1 i2 l1 l2) (S:ZSt k1 k2 z TI TO i1 i2 l1 l2 k s.heap)
 (hl1:SeqAt k1 s.heap l1 xs) (hl2:SeqAt k2 s.heap l2 ys) (hx:xs[k]?=some x) (hy:ys[k]?=some y)
 (hQ:∀h',ZSt k1 k2 z TI TO i1 i2 l1 l2 (k+1) h'->IsPair h' s.heap.objs.size x y->Kp z TO i1 i2 s.heap h'->Q (some (.ref s.heap.objs.size)) { s with heap:=h' }) :
 wpAny (model prog w) A (pyNext (.ref z)) Q E s:=by
 have hT:s.TypeIs (.ref z) "zip":=by obtain⟨_,_,_,h⟩:=S.zr;exact⟨_,h,rfl⟩
 unfold pyNext
 refine wpAny_bind (wpAny_attempt (wpAny_callSpecial?_slot (name:=Str.ofString "__next__") hT F.slot_zip_next (wpAny_call_entry F.slot_zip_next hT F.entry_zip_next (aV4 D S hl1 hl2 hx hy λh' a1 a2 a3=>wpAny_pure (hQ h' a1 a2 a3)) (F.args_zip_next_1 _))))
theorem ak2 {k1 k2:Bool} {z TI TO i1 i2 l1 l2:Addr} {k:Nat} {xs ys:Array Value} {Q:Option Value->Shared->Prop} (hh:A.handled=none) (D:ZA z TI TO i1 i2 l1 l2) (S:ZSt k1 k2 z TI TO i1 i2 l1 l2 k s.heap)
 (hl1:SeqAt k1 s.heap l1 xs) (hl2:SeqAt k2 s.heap l2 ys) (hend:xs[k]?=none\/ys[k]?=none) (hQ:∀h',Kp z TO i1 i2 s.heap h'->Q none { s with heap:=h' }) :
 wpAny (model prog w) A (pyNext (.ref z)) Q E s:=by
 have hT:s.TypeIs (.ref z) "zip":=by obtain⟨_,_,_,h⟩:=S.zr;exact⟨_,h,rfl⟩
 unfold pyNext
 refine wpAny_bind (wpAny_attempt (wpAny_callSpecial?_slot (name:=Str.ofString "__next__") hT F.slot_zip_next (wpAny_call_entry F.slot_zip_next hT F.entry_zip_next (aL9 (A:=_) hh D S hl1 hl2 hend λh' e hk he=>?_) (F.args_zip_next_1 _))))
 obtain⟨o,ho,hc⟩:=he
 exact wpAny_bind (wpAny_isInstance (T:="StopIteration") (b:=true) ⟨o,ho,hc⟩ isSubtype_stop (wpAny_pure (hQ _ hk)))
theorem aV5 {k1 k2:Bool} {tg:Expr} {z TI TO i1 i2 l1 l2 T:Addr} {k:Nat} {Q:Unit->Shared->Prop} (ht:∀es p,tg≠.List es p) (D:ZA z TI TO i1 i2 l1 l2) (S:ZSt k1 k2 z TI TO i1 i2 l1 l2 k s.heap)
 (hQ:∀h',ZSt k1 k2 z TI TO i1 i2 l1 l2 k h'->Heap.SameBut z s.heap h'->Q () { s with heap:=h' }) :
 wpAny (model prog w) A (letOwnedTupleGo tg (.ref z) (.ref T)) Q E s:=by
 have q0:Q () s:=hQ s.heap S ⟨rfl,λ_ _=>rfl⟩
 unfold letOwnedTupleGo
 cases tg with
 | Tuple elts x1 pos=>
   obtain⟨⟨f0,f1,hf,hz⟩,hTI,⟨a,b,hTO⟩,h1,h2⟩:=S
   refine wpAny_bind (wpAny_load hz ?_)
   by_cases c:(["enumerate","zip","dict_itemiterator","dict_reverseitemiterator","odict_iterator","itertools.zip_longest","itertools.pairwise"].contains "zip"&&(#[f0,.bool f1,.bool false,.ref TI,.ref TO]:Array Value)[0]? == some (rawInt T))=true
   ·show wpAny _ _ (if _ then _ else _) Q E s
    rw [if_pos c]
    refine wpAny_bind (wpAny_rule ?_)
    show wpAny _ _ (setField (.ref z) 0 .none) Q E s
    refine wpAny_setField_rec hz (by simp) λh' hz' hs'=>hQ h' ⟨⟨.none,f1,.inl rfl,hz'⟩,hs'.extBut _ _ D.TIz hTI,⟨a,b,hs'.extBut _ _ D.TOz hTO⟩,h1.at λo e=>hs'.extBut _ _ D.i1z e,h2.at λo e=>hs'.extBut _ _ D.i2z e⟩ hs'
   ·show wpAny _ _ (if _ then _ else _) Q E s
    rw [if_neg c]
    exact wpAny_pure q0
 | List es p=>exact absurd rfl (ht _ _)
 | _=>exact wpAny_pure q0
theorem u0 {z TI TO:Addr} {Q:Value->Shared->Prop} (hz:aF1 s.heap z TI TO) (h:Q (.ref z) s):wpAny (model prog w) A (pyIter (.ref z)) Q E s:=by
 have hT:s.TypeIs (.ref z) "zip":=by obtain⟨_,_,_,h⟩:=hz;exact⟨_,h,rfl⟩
 refine wpAny_pyIter_slot hT F.slot_zip_iter (wpAny_call_entry F.slot_zip_iter hT F.entry_zip_iter ?_ (F.args_zip_iter_1 _))
 show wpAny _ _ (PySem.ret (.ref z)) _ _ s
 exact wpAny_pure ⟨_,rfl,"zip",_,hT,F.slot_zip_next.lookup,h⟩
end
end Ws
namespace Ws
open PySem PySem.W PyProof.Rows
section
variable {X:L2.Cx} {cm:Nat->Addr}
theorem h9 {k:Bool} {pins:List (Addr×Obj)} {σ:L2.St} {H:L2.Hp} {s:Shared} {a:Addr} {xs:List L2.V} (I:L2.Inv X pins σ H s) (h:SqK k X.K H a xs):∃its:List Value,L2.Vals xs its/\SeqAt k s.heap a its.toArray:=by
 cases k with
 | true=>obtain⟨its,r,p,_⟩:=I.tuple h;exact⟨its,r,p⟩
 | false=>obtain⟨its,r,p,_⟩:=I.list h;exact⟨its,r,p.isList⟩
theorem at7 {k:Bool} {pins:List (Addr×Obj)} {σ:L2.St} {H:L2.Hp} {s:Shared} {a:Addr} {xs ys:List L2.V} (I:L2.Inv X pins σ H s) (h:SqK k X.K H a xs) (h':SqK k X.K H a ys):xs=ys:=by
 cases k with
 | true=>exact I.tuple_inj h h'
 | false=>exact I.list_inj h h'
end
theorem aF2 {P:Program} {w:World} {K:PySem.W.Frag} {tg:Expr} (ht:∀es p,tg≠.List es p) (k1 k2:Bool) (a b z TI TO i1 i2:Addr) (D:ZA z TI TO i1 i2 a b) :
 L2.al8 P w K tg (Itz K k1 k2 a b) [z,TI,TO,i1,i2] z (λi h=>ZSt k1 k2 z TI TO i1 i2 a b i h) where
 mem:=by simp
 obj:=λi h S c hc=>by
  obtain⟨⟨f0,f1,_,hz⟩,ti,⟨x,y,to⟩,j1,j2⟩:=S
  simp only [List.mem_cons,List.not_mem_nil,or_false] at hc
  rcases hc with rfl | rfl | rfl | rfl | rfl
  ·exact⟨_,hz,λv z=>by cases z⟩
  ·exact⟨_,ti,λv z=>by cases z⟩
  ·exact⟨_,to,λv z=>by cases z⟩
  ·obtain⟨o,vs,h1,h2⟩:=j1.obj;exact⟨o,h1,λv z=>by rw [h2] at z;cases z⟩
  ·obtain⟨o,vs,h1,h2⟩:=j2.obj;exact⟨o,h1,λv z=>by rw [h2] at z;cases z⟩
 keep:=λi h h' S k=>S.keep k
 item:=by
  intro X hP hw hK hc i pins s σ H E I hf S hg
  subst hP hw hK
  obtain⟨xs,ys,x,y,hq1,hq2,hx,hy⟩:=hg
  obtain⟨its1,r1,p1⟩:=h9 I hq1
  obtain⟨its2,r2,p2⟩:=h9 I hq2
  obtain⟨u,hu,ru⟩:=r1.get hx
  obtain⟨v,hv,rv⟩:=r2.get hy
  refine ap2 D S p1 p2 (x:=u) (y:=v) (by simpa using hu) (by simpa using hv) λh' S' hT hk=>?_
  refine⟨.ref s.heap.objs.size,rfl,aV5 (s:={ s with heap:=h' }) ht D S' λh2 S2 hs2=>?_⟩
  have zlt:z<s.heap.objs.size:=by obtain⟨_,_,_,e⟩:=S.zr;exact Heap.lt_size e
  have I2:L2.Inv X pins σ (L2.upd H s.heap.objs.size (.tup [x,y])) { s with heap:=h2 }:=by
   refine s8 (s:=s) (t':=s.toks) I hf (λb u hb q=>?_) (Nat.le_refl _) ?_
   ·have n1:b≠z:=λe=>hb (by simp [e])
    exact hs2.extBut _ _ n1 (hk b u n1 (λe=>hb (by simp [e])) (λe=>hb (by simp [e])) (λe=>hb (by simp [e])) q)
   ·exact⟨by show 2<=sizeLine;decide,[u,v],.cons ru (.cons rv .nil),_,hs2.extBut _ _ (Nat.ne_of_gt zlt) hT,rfl,_,rfl⟩
  refine⟨.ref s.heap.objs.size,L2.upd H s.heap.objs.size (.tup [x,y]),I2,rfl,⟨x,y,s.heap.objs.size,λzs hz=>by rw [at7 I hz hq1];exact hx,λzs hz=>by rw [at7 I hz hq2];exact hy,I.hok.fresh (Nat.le_refl _),rfl,rfl⟩,S2,λb hb=>?_⟩
  rw [L2.C9]
  ·exact (hf b hb).1
  ·intro e
   subst e
   have:∃o,s.heap.get? s.heap.objs.size=some o:=by
    obtain⟨⟨f0,f1,_,hz⟩,ti,⟨x,y,to⟩,j1,j2⟩:=S
    simp only [List.mem_cons,List.not_mem_nil,or_false] at hb
    rcases hb with e | e | e | e | e
    ·rw [e];exact⟨_,hz⟩
    ·rw [e];exact⟨_,ti⟩
    ·rw [e];exact⟨_,to⟩
    ·rw [e];obtain⟨o,vs,h1,h2⟩:=j1.obj;exact⟨o,h1⟩
    ·rw [e];obtain⟨o,vs,h1,h2⟩:=j2.obj;exact⟨o,h1⟩
   obtain⟨o,ho⟩:=this
   exact absurd (Heap.lt_size ho) (Nat.lt_irrefl _)
 done:=by
  intro X hP hw hK hc i pins s σ H E I hf S hg
  subst hP hw hK
  obtain⟨xs,ys,hq1,hq2,hx⟩:=hg
  obtain⟨its1,r1,p1⟩:=h9 I hq1
  obtain⟨its2,r2,p2⟩:=h9 I hq2
  have l1:=r1.length
  have l2:=r2.length
  refine ak2 (I.ok.hd hc) D S p1 p2 ?_ λh' hk=>⟨rfl,ac4 (t':=s.toks) I hf λb u hb q=>hk b u (λe=>hb (by simp [e])) (λe=>hb (by simp [e])) (λe=>hb (by simp [e])) (λe=>hb (by simp [e])) q⟩
  rcases hx with hx | hx
  ·left;rw [Array.getElem?_eq_none];simp;omega
  ·right;rw [Array.getElem?_eq_none];simp;omega
 self:=λ_ _ _ _ _ S h=>u0 S.zr h
end Ws
namespace Ws
open PySem PySem.W PyProof.Rows
noncomputable abbrev zH1 (k1:Bool) (h:Heap) (l1:Addr):Heap:=h.push (aj9 k1 l1)
noncomputable abbrev zH2 (k1 k2:Bool) (h:Heap) (l1 l2:Addr):Heap:=(zH1 k1 h l1).push (aj9 k2 l2)
noncomputable abbrev zH3 (k1 k2:Bool) (h:Heap) (l1 l2:Addr):Heap:=(zH2 k1 k2 h l1 l2).push { cls:=.type "tuple",data:=.seq #[.ref h.objs.size,.ref (zH1 k1 h l1).objs.size] }
noncomputable abbrev zH4 (k1 k2:Bool) (h:Heap) (l1 l2:Addr):Heap:=(zH3 k1 k2 h l1 l2).push { cls:=.type "tuple",data:=.seq #[.none,.none] }
noncomputable abbrev zH5 (k1 k2:Bool) (h:Heap) (l1 l2:Addr):Heap:=(zH4 k1 k2 h l1 l2).push (t9 .none false (zH2 k1 k2 h l1 l2).objs.size (zH3 k1 k2 h l1 l2).objs.size)
theorem ap3 (k1 k2:Bool) (l1 l2:Addr) (xs ys:Array Value) :
 Meets (Builtin.«zip.__new__» ⟨[.type "zip",.ref l1,.ref l2],[]⟩) (λ_ R s=>SeqAt k1 s.heap l1 xs/\SeqAt k2 s.heap l2 ys/\R (.ok (.ret (.ref (zH4 k1 k2 s.heap l1 l2).objs.size))) { s with heap:=zH5 k1 k2 s.heap l1 l2 }):=
 .of_wp λprog w A R s h=>by
  obtain⟨hp,g,d,tk,os⟩:=s
  obtain⟨hl1,hl2,h⟩:=h
  have hsub:=sub_zip
  have hL1:SeqAt k1 (Shared.heap ⟨hp,g,d,tk,os⟩) l1 xs:=hl1
  have hL2:SeqAt k2 (Shared.heap ⟨hp.push (aj9 k1 l1),g,d,tk,os⟩) l2 ys:=hl2.at λo e=>Heap.get?_push_of_some _ e
  wp_walk using ak0 hL1,ak0 hL2
  exact⟨_,rfl,h⟩
section
variable {prog:Program} {w:World} {A:Around} {E:Value->Shared->Prop} {s:Shared}
theorem ax5 {k1 k2:Bool} {l1 l2:Addr} {xs ys:Array Value} {Q:Value->Shared->Prop} (hl1:SeqAt k1 s.heap l1 xs) (hl2:SeqAt k2 s.heap l2 ys)
 (h:∀h',ZSt k1 k2 (s.heap.objs.size+4) (s.heap.objs.size+2) (s.heap.objs.size+3) s.heap.objs.size (s.heap.objs.size+1) l1 l2 0 h'->(∀c o,s.heap.get? c=some o->h'.get? c=some o)->Q (.ref (s.heap.objs.size+4)) { s with heap:=h' }) :
 wpAny (model prog w) A (call (.type "zip") [.ref l1,.ref l2]) Q E s:=by
 refine callType_new F.called_zip (by decide) (F.typeCall_zip_2 _ _) (F.newCall_zip_2 _ _) (λobj=>F.args_object_init_3 obj _ _) F.entry_zip_new (ap3 k1 k2 l1 l2 xs ys) ⟨hl1,hl2,?_⟩
 have z1:(zH1 k1 s.heap l1).objs.size=s.heap.objs.size+1:=Heap.size_push ..
 have z2:(zH2 k1 k2 s.heap l1 l2).objs.size=s.heap.objs.size+2:=by rw [Heap.size_push,z1]
 have z3:(zH3 k1 k2 s.heap l1 l2).objs.size=s.heap.objs.size+3:=by rw [Heap.size_push,z2]
 have z4:(zH4 k1 k2 s.heap l1 l2).objs.size=s.heap.objs.size+4:=by rw [Heap.size_push,z3]
 have g5:(zH5 k1 k2 s.heap l1 l2).get? (zH4 k1 k2 s.heap l1 l2).objs.size=some _:=Heap.get?_push_size _ rfl
 have g4:(zH5 k1 k2 s.heap l1 l2).get? (zH3 k1 k2 s.heap l1 l2).objs.size=some _:=Heap.get?_push_of_some _ (Heap.get?_push_size _ rfl)
 have g3:(zH5 k1 k2 s.heap l1 l2).get? (zH2 k1 k2 s.heap l1 l2).objs.size=some _:=Heap.get?_push_of_some _ (Heap.get?_push_of_some _ (Heap.get?_push_size _ rfl))
 have g2:IterAt k2 (zH5 k1 k2 s.heap l1 l2) (zH1 k1 s.heap l1).objs.size l2 0:=(aF0 k2 (zH1 k1 s.heap l1) l2).at λo e=>Heap.get?_push_of_some _ (Heap.get?_push_of_some _ (Heap.get?_push_of_some _ e))
 have g1:IterAt k1 (zH5 k1 k2 s.heap l1 l2) s.heap.objs.size l1 0:=(aF0 k1 s.heap l1).at λo e=>Heap.get?_push_of_some _ (Heap.get?_push_of_some _ (Heap.get?_push_of_some _ (Heap.get?_push_of_some _ e)))
 show _/\_
 rw [z2,z3,z4] at g5
 rw [z1,z2] at g3
 rw [z3] at g4
 rw [z1] at g2
 rw [z4]
 exact⟨⟨_,g5,rfl⟩,h _ ⟨⟨_,_,.inl rfl,g5⟩,g3,⟨_,_,g4⟩,g1,g2⟩ λc o x=>Heap.get?_push_of_some _ (Heap.get?_push_of_some _ (Heap.get?_push_of_some _ (Heap.get?_push_of_some _ (Heap.get?_push_of_some _ x))))⟩
end
section
variable {X:L2.Cx} {cm:Nat->Addr}
theorem a07 {a b tg:Expr} {d e:ED} {p pos:Pos} (ht:∀es p,tg≠.List es p) (hg:L2.Gl X "zip") (hm:X.mg "zip" = none) (ha:L2.PE X a (EvE X.K cm d)) (hb:L2.PE X b (EvE X.K cm e))
 (hs:starEach [a,b] X.env=(false,eval a X.env)::starEach [b] X.env:=by exact C1 rfl) (hs2:starEach [b] X.env=(false,eval b X.env)::starEach [] X.env:=by exact C1 rfl):L2.PI X tg (.Call (.Name "zip" p) [a,b] [] pos) (EvI X.K cm (aT4 d e)):=by
 intro pins s σ H R I h
 obtain⟨ρ,A,σp,J,A',rl,rs,ev,k⟩:=h
 obtain⟨x,A1,e1,ev1⟩:=B0 ev
 obtain⟨y,A2,e2,ev2⟩:=B0 ev1
 refine Call_ (L2.V9 I hg hm (show bootBuiltins "zip" = some (.type "zip") from by rfl) (callWith_type1 (L2.thn ((r_cons ha (r_cons hb r_nil hs2) hs) pos pins s σ H (λvs H1=>∃a xs b ys,vs=[.ref a,.ref b]/\SqK (kindOf x) X.K H1 a xs/\SqK (kindOf y) X.K H1 b ys/\R (Itz X.K (kindOf x) (kindOf y) a b) H1) I ⟨ρ,A,σp,[x,y],A2,rl,rs,by show bnd (d σp) _ A=_;rw [bnd_ok e1];show bnd (bnd (e σp) _) _ A1=_;rw [bnd_ok (show bnd (e σp) _ A1=.ok [y] A2 by rw [bnd_ok e2];rfl)];rfl,λρ1 H1 vs1 x1 rl1 rv1=>?_⟩) λus s1 ⟨vs,H1,I1,r1,q1⟩=>?_) hs (by rw [hs2];rfl)))
 ·cases rv1 with
  | cons hv hr=>
    cases hr with
    | cons hv2 hr2=>
      cases hr2
      obtain⟨l,A3,e3,ev3⟩:=B0 ev2
      obtain⟨rfl,a,xs,rfl,hq,r⟩:=U6 rl1 hv e3
      obtain⟨m,A4,e4,ev4⟩:=B0 ev3
      obtain⟨rfl,b,ys,rfl,hq2,r2⟩:=U6 rl1 hv2 e4
      cases ev4
      exact⟨a,xs,b,ys,rfl,hq,hq2,k ρ1 H1 _ x1 rl1 ⟨a,b,hv,hv2,rfl⟩⟩
 ·obtain⟨a,xs,b,ys,rfl,hq,hq2,q⟩:=q1
  cases r1 with
  | cons h1 t1=>
    cases t1 with
    | cons h2 t2=>
      cases t2
      cases h1
      cases h2
      obtain⟨its1,r1,p1⟩:=h9 I1 hq
      obtain⟨its2,r2,p2⟩:=h9 I1 hq2
      refine ax5 p1 p2 λh' S kp=>?_
      refine u0 S.zr ?_
      have I2:L2.Inv X pins σ H1 { s1 with heap:=h' }:=I1.kept (t':=s1.toks) kp
      have la:=p1.lt
      have lb:=p2.lt
      refine⟨s1.heap.objs.size+4,[s1.heap.objs.size+4,s1.heap.objs.size+2,s1.heap.objs.size+3,s1.heap.objs.size,s1.heap.objs.size+1],_,_,H1,rfl,I2,aF2 ht (kindOf x) (kindOf y) a b _ _ _ _ _ ?_,S,λc hc=>?_,q⟩
      ·have la:@LT.lt Nat _ a s1.heap.objs.size:=la
       have lb:@LT.lt Nat _ b s1.heap.objs.size:=lb
       constructor <;> first | exact Nat.ne_of_lt (by omega) | exact Nat.ne_of_gt (by omega)
      ·have hb2:s1.heap.objs.size<=c:=by
        simp only [List.mem_cons,List.not_mem_nil,or_false] at hc
        rcases hc with rfl | rfl | rfl | rfl | rfl
        ·exact Nat.le_add_right _ 4
        ·exact Nat.le_add_right _ 2
        ·exact Nat.le_add_right _ 3
        ·exact Nat.le_refl _
        ·exact Nat.le_add_right _ 1
       exact I1.fpOk hb2 (I1.hok.fresh hb2)
end
end Ws
namespace Ws
open PySem PySem.W PyProof.Rows
end Ws
namespace Ws
open PySem PySem.W PyProof.Rows
end Ws
namespace Ws
open PySem PySem.W PyProof.Rows
end Ws
namespace Ws
open PySem PySem.W PyProof.Rows PySem.Calls
end Ws
namespace Ws
open PySem PySem.W PyProof.Rows PySem.Calls
end Ws
namespace Ws
open PySem PySem.W PyProof.Rows PySem.Calls Builtin Builtin.ObjectAttr
end Ws
namespace Ws
open PySem PySem.W PyProof.Rows PySem.Calls
end Ws
namespace Ws
open PySem PySem.W PyProof.Rows PySem.Calls
end Ws
namespace Ws
open PySem PySem.W PyProof.Rows PySem.Calls
end Ws
namespace Ws
open PySem PySem.W PyProof.Rows PySem.Calls
end Ws
namespace Ws
open PySem PySem.W PyProof.Rows PySem.Calls
end Ws
namespace Ws
open PySem PySem.W PyProof.Rows PySem.Calls
end Ws
namespace Ws
open PySem PySem.W PyProof.Rows PySem.Calls
end Ws
namespace Ws
open PySem PySem.W PyProof.Rows PySem.Calls
end Ws
namespace Ws
open PySem PySem.W PyProof.Rows PySem.Calls
end Ws
namespace Ws
open PySem PySem.W PyProof.Rows PySem.Calls
end Ws
namespace Ws
open PySem PySem.W PyProof.Rows PySem.Calls
end Ws
namespace Ws
open PySem
end Ws
namespace Ws
open PySem
open PySem.SeqAt
end Ws
namespace Ws
end Ws
namespace Ws
open PySem PySem.Spec PySem.Calls PyProof.Rows
end Ws
namespace Ws
open PySem
theorem u5 {i j:List Int} (h:i.map (Sum.inl:Int->L2.Key)=j.map Sum.inl):i=j:=(List.map_inj_right λ_ _ z=>Sum.inl.inj z).mp h
section
variable {ρ:List Addr} {H:L2.Hp} {K:PySem.W.Frag} {A:PHp} {n:Nat} {v:L2.V}
noncomputable abbrev PT2 (ρ:List Addr) (H:L2.Hp) (m:List (List Int×PV)) (kv:List (List L2.Key×L2.V)):Prop:=Pairs (List.map Sum.inl:List Int->List L2.Key) ρ H m kv
theorem PT2.len {m:List (List Int×PV)} {kv:List (List L2.Key×L2.V)} (h:PT2 ρ H m kv):m.length=kv.length:=by
 have:=congrArg List.length h.keys
 simpa using this.symm
theorem PT2.val:∀{m:List (List Int×PV)} {kv:List (List L2.Key×L2.V)} (i:List Int),PT2 ρ H m kv->(R7 m i=none/\L2.X4 kv (i.map Sum.inl)=none)\/∃x u,R7 m i=some x/\L2.X4 kv (i.map Sum.inl)=some u/\RV ρ H x u
 | [],kv,i,h=>by obtain rfl:=h.nil_inv;exact .inl ⟨rfl,rfl⟩
 | p::r,kv,i,h=>by
   obtain⟨u,kv',rfl,hu,t⟩:=h.cons_inv
   unfold R7
   by_cases e:p.1=i
   ·rw [if_pos e,L2.X5 (by rw [e])]
    exact .inr ⟨_,_,rfl,rfl,hu⟩
   ·rw [if_neg e,L2.X6 (λz=>e (u5 z))]
    exact PT2.val i t
theorem PT2.some_eq {m:List (List Int×PV)} {kv:List (List L2.Key×L2.V)} (i:List Int) (h:PT2 ρ H m kv):(L2.X4 kv (i.map Sum.inl)).isSome=(R7 m i).isSome:=by
 rcases PT2.val i h with ⟨a,b⟩ | ⟨x,u,a,b,_⟩ <;> rw [a,b] <;> rfl
theorem ak3 (i:List Int):∀m:List (List Int×PV),(m.any λp=>decide (p.1=i))=(R7 m i).isSome
 | []=>rfl
 | p::r=>by
   unfold R7
   rw [List.any_cons]
   by_cases e:p.1=i
   ·rw [if_pos e,decide_eq_true e];rfl
   ·rw [if_neg e,decide_eq_false e,Bool.false_or];exact ak3 i r
theorem PT2.repl {x:PV} {u:L2.V} (ru:RV ρ H x u) (i:List Int):∀{m:List (List Int×PV)} {kv:List (List L2.Key×L2.V)},PT2 ρ H m kv->PT2 ρ H (m.map λp=>if p.1=i then (p.1,x) else p) (kv.map λp=>if p.1=(i.map Sum.inl) then (p.1,u) else p)
 | [],kv,h=>by obtain rfl:=h.nil_inv;exact⟨rfl,.nil⟩
 | p::r,kv,h=>by
   obtain⟨w,kv',rfl,hw,t⟩:=h.cons_inv
   have ih:=PT2.repl ru i t
   rw [List.map_cons,List.map_cons]
   by_cases e:p.1=i
   ·rw [if_pos e,if_pos (by rw [e])];exact Pairs.cons' (p:=(p.1,x)) ru ih
   ·rw [if_neg e,if_neg (λz=>e (u5 z))];exact Pairs.cons' hw ih
theorem PT2.snoc {x:PV} {u:L2.V} (ru:RV ρ H x u) (i:List Int):∀{m:List (List Int×PV)} {kv:List (List L2.Key×L2.V)},PT2 ρ H m kv->PT2 ρ H (m++[(i,x)]) (kv++[(i.map Sum.inl,u)])
 | [],kv,h=>by obtain rfl:=h.nil_inv;exact Pairs.cons' (p:=(i,x)) ru ⟨rfl,.nil⟩
 | p::r,kv,h=>by
   obtain⟨w,kv',rfl,hw,t⟩:=h.cons_inv
   exact Pairs.cons' hw (PT2.snoc ru i t)
theorem PT2.put {x:PV} {u:L2.V} (ru:RV ρ H x u) (i:List Int) {m:List (List Int×PV)} {kv:List (List L2.Key×L2.V)} (h:PT2 ρ H m kv):PT2 ρ H (V1 m i x) (L2.N5 kv (i.map Sum.inl) u):=by
 unfold V1 L2.N5
 have e:(kv.any λp=>decide (p.1=(i.map Sum.inl)))=(m.any λp=>decide (p.1=i)):=by
  rw [ak3,L2.n6];exact h.some_eq i
 rw [e]
 by_cases a:(m.any λp=>decide (p.1=i))=true
 ·rw [if_pos a,if_pos a];exact h.repl ru i
 ·rw [if_neg a,if_neg a];exact h.snoc ru i
theorem P4 {cm:Nat->Addr} {m:List (List Int×PV)} {A':PHp} (rl:Rel K cm ρ A H) (r:RV ρ H (.ref n) v) (h:P0 n A=.ok m A'):A'=A/\A[n]?=some (.dT m)/\∃a kv,v=.ref a/\ρ[n]?=some a/\H a=some (.dT kv)/\PT2 ρ H m kv:=by
 cases r with
 | ref hn=>
   unfold P0 at h
   rcases hA:A[n]? with _ | o
   ·rw [hA] at h;cases h
   ·have q:=rl.obj n o _ hA hn
    cases o with
    | dT m=>rw [hA] at h;cases h;obtain⟨xs,h1,h2⟩:=q;exact⟨rfl,rfl,_,xs,rfl,hn,h1,h2⟩
    | _=>rw [hA] at h;cases h
end
theorem T8 {ρ:List Addr} {H:L2.Hp} {kx:PV} {j:List Int} {v:L2.V} (h:N2 kx=some j) (r:RV ρ H kx v):∃b,v=.ref b/\H b=some (.tup ((j.map Sum.inl).map L2.kV)):=by
 cases kx with
 | tup l=>
   have h:K5 l=some j:=h
   cases r with
   | tup ha hv=>
     rw [S4 h] at hv
     have:=aj7 hv
     refine⟨_,rfl,?_⟩
     rw [ha,this]
     congr 2
     simp [L2.kV]
 | _=>cases h
section
variable {X:L2.Cx} {cm:Nat->Addr}
theorem aV6 {o i value:Expr} {d y e:ED} {pos pos':Pos} (hu:X.A.units+1<cLine) (ho:L2.PE X o (EvE X.K cm d)) (hi:L2.PE X i (EvE X.K cm y)) (hv:L2.PE X value (EvE X.K cm e)) (hs:swapsWith value (some (.Subscript o i pos')) pos.line X.env=pure false:=by rfl) :
 L2.PS X (.Assign [.Subscript o i pos'] value pos) (EvS X.K cm (ar2 d y e)):=
 T2 (L2.aJ9 hu ho hi hv hs) λD σ H ⟨ρ,A,σp,f,A',rl,rs,ev,k⟩=>by
  obtain⟨w,A1,e1,ev1⟩:=B0 ev
  obtain⟨x,A2,e2,ev2⟩:=B0 ev1
  obtain⟨kx,A3,e3,ev3⟩:=B0 ev2
  refine⟨ρ,A,σp,w,A1,rl,rs,e1,λρ1 H1 v1 x1 rl1 rv1=>⟨ρ1,A1,σp,x,A2,rl1,rs.mono x1,e2,λρ2 H2 v2 x2 rl2 rv2=>⟨ρ2,A2,σp,kx,A3,rl2,(rs.mono x1).mono x2,e3,λρ3 H3 v3 x3 rl3 rv3=>?_⟩⟩⟩
  rcases hkj:N2 kx with _ | j <;> rw [hkj] at ev3
  ·cases x <;> cases ev3
  cases x with
  | ref n=>
    obtain⟨m,A4,e4,ev4⟩:=B0 ev3
    obtain⟨rfl,hA,a,kv,rfl,hn,hH,hp⟩:=P4 rl3 (rv2.mono x3) e4
    obtain⟨c,ev5⟩:=C6 ev4
    cases ev5
    obtain⟨b,rfl,hb⟩:=T8 hkj rv3
    refine⟨a,_,rfl,L2.DPut.t hH hb (by rw [←hp.len];exact aC7 c),?_⟩
    have ex:Ext ρ3 H3 ρ3 (L2.upd H3 a (.dT (L2.N5 kv (j.map Sum.inl) v1))):=Ext.put rl3 hn hA rfl
    have rl4:Rel X.K cm ρ3 (A4.set n (.dT (V1 m j w))) (L2.upd H3 a (.dT (L2.N5 kv (j.map Sum.inl) v1))):=
     rl3.put hn hA rfl rfl ⟨_,L2.C7,PT2.put ((((rv1.mono x2).mono x3)).mono ex) j (hp.mono ex)⟩
    exact k ρ3 _ (((x1.trans x2).trans x3).trans ex) rl4 σ ((((rs.mono x1).mono x2).mono x3).mono ex)
  | _=>cases ev3
theorem aV7 {o i:Expr} {d y:ED} {pos:Pos} (hu:X.A.units+1<cLine) (ho:L2.PE X o (EvE X.K cm d)) (hi:L2.PE X i (EvE X.K cm y)) (hs:L2.aS8 i):L2.PE X (.Subscript o i pos) (EvE X.K cm (aC2 d y)):=
 D2 (L2.aJ8 hu ho hi hs) λσ H Q ⟨ρ,A,σp,v,A',rl,rs,ev,k⟩=>by
  obtain⟨x,A1,e1,ev1⟩:=B0 ev
  obtain⟨kx,A2,e2,ev2⟩:=B0 ev1
  refine⟨ρ,A,σp,x,A1,rl,rs,e1,λρ1 H1 v1 x1 rl1 rv1=>⟨ρ1,A1,σp,kx,A2,rl1,rs.mono x1,e2,λρ2 H2 v2 x2 rl2 rv2=>?_⟩⟩
  rcases hkj:N2 kx with _ | j <;> rw [hkj] at ev2
  ·cases x <;> cases ev2
  cases x with
  | ref n=>
    obtain⟨m,A3,e3,ev3⟩:=B0 ev2
    obtain⟨rfl,hA,a,kv,rfl,hn,hH,hp⟩:=P4 rl2 (rv1.mono x2) e3
    obtain⟨b,rfl,hb⟩:=T8 hkj rv2
    rcases hp.val j with ⟨h1,h2⟩ | ⟨z,u,h1,h2,ru⟩
    ·rw [h1] at ev3;cases ev3
    ·rw [h1] at ev3
     cases ev3
     exact⟨a,u,rfl,by rw [←h2];exact L2.DGet.t hH hb,k ρ2 H2 _ (x1.trans x2) rl2 ru⟩
  | _=>cases ev2
theorem af9 {pos:Pos}:L2.PE X (.Dict [] [] pos) (EvE X.K cm ac0):=
 D2 L2.aB5 λσ H Q ⟨ρ,A,σp,v,A',rl,rs,ev,k⟩ p hp=>by
  cases ev
  have ex:Ext ρ H (ρ++[p]) (L2.upd H p (.dT [])):=Ext.new hp
  exact k (ρ++[p]) _ _ ex (rl.alloc hp ⟨_,L2.C7,⟨rfl,.nil⟩⟩ rfl) (.ref (by rw [←rl.len];simp))
theorem aM0 {o e:Expr} {d y:ED} {apos cpos:Pos} (hu:X.A.units+1<cLine) (ho:L2.PE X o (EvE X.K cm d)) (he:L2.PE X e (EvE X.K cm y)) (m:L2.M1 X o "get" apos e cpos:=by exact⟨rfl,rfl,rfl,rfl⟩):L2.PE X (.Call (.Attribute o "get" apos) [e] [] cpos) (EvE X.K cm (ao2 d y)):=
 D2 (L2.aB6 hu ho he m) λσ H Q ⟨ρ,A,σp,v,A',rl,rs,ev,k⟩=>by
  obtain⟨x,A1,e1,ev1⟩:=B0 ev
  refine⟨ρ,A,σp,x,A1,rl,rs,e1,λρ1 H1 v1 x1 rl1 rv1=>?_⟩
  cases x with
  | ref n=>
    obtain⟨m0,A2,e2,ev2⟩:=B0 ev1
    obtain⟨rfl,hA,a,kv,rfl,hn,hH,hp⟩:=P4 rl1 rv1 e2
    refine⟨a,rfl,.inr ⟨kv,.inl hH⟩,?_⟩
    obtain⟨kx,A3,e3,ev3⟩:=B0 ev2
    refine⟨ρ1,_,σp,kx,A3,rl1,rs.mono x1,e3,λρ2 H2 v2 x2 rl2 rv2=>?_⟩
    rcases hkj:N2 kx with _ | j <;> rw [hkj] at ev3
    ·cases ev3
    obtain⟨m1,A5,e5,ev5⟩:=B0 ev3
    obtain⟨rfl,hA2,a2,kv2,e6,hn2,hH2,hp2⟩:=P4 rl2 (rv1.mono x2) e5
    cases e6
    cases ev5
    obtain⟨b,rfl,hb⟩:=T8 hkj rv2
    refine⟨_,L2.DGet.t hH2 hb,?_⟩
    rcases hp2.val j with ⟨h1,h2⟩ | ⟨q,u,h1,h2,ru⟩
    ·rw [h1] at k;rw [h2];exact k ρ2 H2 _ (x1.trans x2) rl2 .non
    ·rw [h1] at k;rw [h2];exact k ρ2 H2 _ (x1.trans x2) rl2 ru
  | _=>cases ev1
end
end Ws
namespace Ws
open PySem PySem.W PyProof.Rows
end Ws
namespace Ws
open PySem PySem.W PyProof.Rows
end Ws
namespace Ws
open PySem PySem.W PyProof.Rows PySem.SeqAt
open MeetsSeq MeetsSeq2 MeetsSeq3 SeqRoads2
end Ws
namespace Ws
open PySem PySem.W PyProof.Rows
end Ws
namespace Ws
open PySem PySem.W PyProof.Rows
end Ws
namespace Ws
open PySem PySem.W PyProof.Rows
theorem ax6 {α β:Type} {m:Type->Type} [Monad m] [LawfulMonad m] (xs:Array α) (b:β) (f:α->β->m (ForInStep β)):forIn xs b f=forIn xs.toList b f:=by
 rw [Array.forIn_toList]
section
variable {prog:Program} {w:World} {A:Around} {E:Value->Shared->Prop} {s:Shared}
theorem aV8 {nm:String} {d:Addr} {o:Obj} {es:Array DictEntry} {ep:Nat} {Q:Array DictEntry->Shared->Prop} (ho:s.heap.get? d=some o) (hd:o.data=.dict es ep)
 (hk:∀e∈es.toList,∃a,e.key=.ref a/\s.TypeIs (.ref a) "tuple") (hn:∀e∈es.toList,(es.filter (·.hash == e.hash)).size<=1) (h:Q es s):wpAny (model prog w) A (Builtin.Dict.entriesForEmpty nm d) Q E s:=by
 unfold Builtin.Dict.entriesForEmpty
 refine wpAny_bind (wpAny_dictEntries ho hd ?_)
 refine wpAny_bind ?_
 rw [ax6]
 refine wpAny_forIn_list _ (λrest _ s'=>s'=s/\∀e∈rest,e∈es.toList) _ ?_ ?_ _ _ ⟨rfl,λe he=>he⟩
 ·rintro e rest b s' ⟨rfl,hr⟩
  have he:=hr e List.mem_cons_self
  obtain⟨a,ea,hT⟩:=hk e he
  refine wpAny_bind ?_
  unfold Builtin.Dict.quietEq
  rw [ea]
  refine wpAny_bind (wpAny_specialOf hT PySem.F.slot_tuple_eq.lookup (wpAny_pure ?_))
  rw [if_pos (by decide),if_neg (by have:=hn e he;omega)]
  exact wpAny_pure ⟨rfl,λx hx=>hr x (List.mem_cons_of_mem _ hx)⟩
 ·rintro b s' ⟨rfl,_⟩
  exact wpAny_pure h
noncomputable abbrev TK (prog:Program) (w:World):HeapKind prog w (List L2.Key):=tupleKind (L2.G5 prog w)
theorem aM1 {o:Addr} {xs:List (List L2.Key×Addr×Value)} {Q:Value->Shared->Prop} (hoS:(o == sysModules)=false) (ho:s.heap.DictOfH (TK prog w) o xs) (hsz:xs.length<=sizeLine)
 (hdis:∀x∈xs,(xs.filter λy=>(TK prog w).hash y.1 == (TK prog w).hash x.1).length<=1)
 (h:∀h',h'.DictOfH (TK prog w) s.heap.objs.size xs->Heap.SameBut s.heap.objs.size (s.heap.push { cls:=.type "dict",data:=.dict #[] }) h'->Q (.ref s.heap.objs.size) { s with heap:=h' }) :
 wpAny (model prog w) A (call (.type "dict") [.ref o]) Q E s:=by
 obtain⟨oo,es,ep,hoo,hc,hdat,hes,hk,hn⟩:=id ho
 have hesz:es.size=xs.length:=size_of_entries hes
 refine callType_codes (Q₁:=λobj s₁=>obj=.ref s.heap.objs.size/\s₁={ s with heap:=s.heap.push { cls:=.type "dict",data:=.dict #[] } }) PySem.F.kt_called_dict (PySem.F.kt_typeCall_dict_1 _) PySem.F.entry_dict_init (kt_code_dict_new _ ⟨rfl,rfl⟩) ?_
 rintro obj s₁ ⟨rfl,rfl⟩
 have hD0:(s.heap.push { cls:=.type "dict",data:=.dict #[] }).get? s.heap.objs.size=some { cls:=.type "dict",data:=.dict #[] }:=Heap.get?_push_size _ rfl
 have hT0:Shared.TypeIs { s with heap:=s.heap.push { cls:=.type "dict",data:=.dict #[] } } (.ref s.heap.objs.size) "dict":=⟨_,hD0,rfl⟩
 have hoo':(s.heap.push { cls:=.type "dict",data:=.dict #[] }).get? o=some oo:=Heap.get?_push_of_some _ hoo
 have hTo:Shared.TypeIs { s with heap:=s.heap.push { cls:=.type "dict",data:=.dict #[] } } (.ref o) "dict":=⟨_,hoo',hc.1⟩
 have hdo:s.heap.objs.size≠o:=λe=>absurd (Heap.lt_size hoo) (by rw [e];exact Nat.lt_irrefl _)
 refine⟨hT0,PySem.F.args_dict_init_2 _ _,?_⟩
 unfold Builtin.«dict.__init__»
 refine wpAny_bind ?_
 unfold Builtin.Dict.selfAndRest
 refine wpAny_bind (wpAny_notOrdered_dict hT0 ?_)
 show wpAny _ _ (pure (s.heap.objs.size,[Value.ref o])) _ _ _
 refine wpAny_pure ?_
 show wpAny _ _ (Builtin.Dict.updateFrom "dict.__init__" s.heap.objs.size (.ref o) [] .none) _ _ _
 unfold Builtin.Dict.updateFrom
 refine wpAny_bind (wpAny_typeOf hTo ?_)
 rw [if_neg (by decide)]
 refine wpAny_bind ?_
 unfold Builtin.Dict.merge
 refine wpAny_bind ?_
 unfold Builtin.Dict.readDirectly
 refine wpAny_bind (wpAny_isInstance hTo isSubtype_dict_dict ?_)
 simp only [Bool.not_true,Bool.false_eq_true,if_false]
 refine wpAny_bind (wpAny_specialOf hTo PySem.F.slot_dict_iter.lookup (wpAny_pure ?_))
 simp only [beq_self_eq_true,if_true]
 refine wpAny_bind (wpAny_pure ?_)
 unfold Builtin.Dict.mergeDict
 rw [if_neg (by simpa using hdo)]
 unfold Builtin.Dict.showsAll
 rw [if_neg (by rw [hoS];exact Bool.false_ne_true)]
 refine wpAny_bind (wpAny_pure ?_)
 refine wpAny_bind (wpAny_dictEntries hoo' hdat ?_)
 cases hxs:xs with
 | nil=>
   subst hxs
   have hes0:es=#[]:=Array.toList_inj.mp (by rw [hes];rfl)
   subst hes0
   dsimp only
   rw [if_neg (by simp)]
   refine wpAny_bind (wpAny_dictEpoch hoo' hdat ?_)
   refine wpAny_bind (wpAny_dictEntries hoo' hdat ?_)
   refine wpAny_bind ?_
   rw [Std.Legacy.Range.forIn_eq_forIn_range']
   refine wpAny_pure ?_
   refine wpAny_pure ?_
   show wpAny _ _ (Builtin.Dict.addKeywords s.heap.objs.size []>>=_) _ _ _
   refine wpAny_bind (wpAny_pure (wpAny_pure ⟨rfl,h _ ?_ (Heap.SameBut.refl _ _)⟩))
   exact⟨_,_,_,hD0,⟨rfl,rfl,rfl⟩,rfl,rfl,λx hx=>by simp at hx,List.nodup_nil⟩
 | cons x0 xr=>
   have hx0:x0∈xs:=by rw [hxs];exact List.mem_cons_self
   have hkeys:∀e∈es.toList,∃a,e.key=.ref a/\Shared.TypeIs { s with heap:=s.heap.push { cls:=.type "dict",data:=.dict #[] } } (.ref a) "tuple":=by
    intro e he
    rw [hes] at he
    obtain⟨x,hx,rfl⟩:=List.mem_map.mp he
    obtain⟨ot,its,n,h1,h2,_⟩:=hk x hx
    exact⟨x.2.1,rfl,ot,Heap.get?_push_of_some _ h1,h2⟩
   have hfew:(decide (es.size<=8)&&es.all λe=>(keyPart e.key).isSome)=false:=by
    rw [Bool.and_eq_false_iff]
    refine .inr ?_
    rw [←Array.all_toList,List.all_eq_false]
    refine⟨entryOfKey (TK prog w) x0,by rw [hes];exact List.mem_map.mpr ⟨x0,hx0,rfl⟩,?_⟩
    simp [entryOfKey,keyPart]
   rw [hfew]
   dsimp only
   rw [if_pos (by decide)]
   refine wpAny_bind (wpAny_dictEntries hD0 rfl ?_)
   rw [if_pos (by decide)]
   refine wpAny_bind (aV8 hoo' hdat hkeys (λe he=>?_) ?_)
   ·have he':=he
    rw [hes] at he'
    obtain⟨x,hx,rfl⟩:=List.mem_map.mp he'
    have:=hdis x hx
    rw [←Array.length_toList,Array.toList_filter,hes,List.filter_map,List.length_map]
    exact this
   ·have hne:es.isEmpty=false:=by
     cases hh:es.isEmpty with
     | false=>rfl
     | true=>
       have:es.size=0:=by simpa using hh
       rw [hesz,hxs] at this;simp at this
    rw [hne,if_pos (by decide)]
    refine wpAny_bind (wpAny_updateDictKeysTo hD0 rfl ?_ (by rw [hesz];omega))
    refine wpAny_pure ?_
    show wpAny _ _ (Builtin.Dict.addKeywords s.heap.objs.size []>>=_) _ _ _
    refine wpAny_bind (wpAny_pure (wpAny_pure ⟨rfl,h _ ?_ (Heap.SameBut.update ..)⟩))
    have hc0:Obj.ExactDict { cls:=.type "dict",data:=.dict #[] }:=⟨rfl,rfl,rfl⟩
    refine⟨_,es,_,Heap.get?_update_self _ hD0 (Obj.isFreed_of_dict (Obj.data_mapDictKeys rfl _)),hc0.mapDictKeys _,Obj.data_mapDictKeys rfl _,hes,λx hx=>?_,hn⟩
    refine (TK prog w).keeps (?_:(TK prog w).is (s.heap.push { cls:=.type "dict",data:=.dict #[] }) x.1 x.2.1) hD0 rfl (Heap.SameBut.update ..)
    obtain⟨ot,its,n,h1,h2⟩:=hk x hx
    exact⟨ot,its,n,Heap.get?_push_of_some _ h1,h2⟩
end
end Ws
namespace Ws
open PySem PySem.W PyProof.Rows
noncomputable def hashK (k:List Int):Int:=reduceHash (Builtin.Tuple.tupleHashOf (k.map hashInt))
theorem aF3 (P:Program) (w:World) (k:List Int):(TK P w).hash (k.map Sum.inl)=hashK k:=by
 show reduceHash (Builtin.Tuple.tupleHashOf ((k.map Sum.inl).map (L2.aX0 w)))=_
 rw [List.map_map];rfl
theorem ak4:(small.map hashK).Nodup:=by decide +kernel
theorem aF4 {a b:List Int} (ha:a∈small) (hb:b∈small) (h:hashK a=hashK b):a=b:=by
 obtain⟨i,hi,rfl⟩:=List.mem_iff_getElem.mp ha
 obtain⟨j,hj,rfl⟩:=List.mem_iff_getElem.mp hb
 have:=(List.getElem_inj (i:=i) (j:=j) (h₀:=by simpa using hi) (h₁:=by simpa using hj) ak4).mp (by simpa using h)
 subst this;rfl
theorem aF5 {P:Program} {w:World} {ks:List (List Int)} (hs:∀k∈ks,k∈small):∀{xs:List (List L2.Key×Addr×Value)},xs.map (·.1)=ks.map (List.map Sum.inl)->ks.Nodup->∀x∈xs,(xs.filter λy=>(TK P w).hash y.1 == (TK P w).hash x.1).length<=1:=by
 intro xs he nd x hx
 have nd2:(xs.map λy=>(TK P w).hash y.1).Nodup:=by
  have e:(xs.map λy=>(TK P w).hash y.1)=ks.map hashK:=by
   have:(xs.map λy=>(TK P w).hash y.1)=(xs.map (·.1)).map (TK P w).hash:=by rw [List.map_map];rfl
   rw [this,he,List.map_map]
   exact List.map_congr_left λk _=>aF3 P w k
  rw [e]
  have key:∀l:List (List Int),(∀k∈l,k∈small)->l.Nodup->(l.map hashK).Nodup:=by
   intro l
   induction l with
   | nil=>intro _ _;simp
   | cons a l ih=>
     intro h n
     rw [List.nodup_cons] at n
     rw [List.map_cons,List.nodup_cons]
     refine⟨λz=>?_,ih (λk hk=>h k (List.mem_cons_of_mem _ hk)) n.2⟩
     obtain⟨b,hb,e⟩:=List.mem_map.mp z
     exact n.1 (aF4 (h b (List.mem_cons_of_mem _ hb)) (h a List.mem_cons_self) e ▸ hb)
  exact key ks hs nd
 have gen:∀(l:List (List L2.Key×Addr×Value)) (v:Int),(l.map λy=>(TK P w).hash y.1).Nodup->(l.filter λy=>(TK P w).hash y.1 == v).length<=1:=by
  intro l v
  induction l with
  | nil=>intro _;simp
  | cons a l ih=>
    intro n
    rw [List.map_cons,List.nodup_cons] at n
    by_cases e:(TK P w).hash a.1=v
    ·have:l.filter (λy=>(TK P w).hash y.1 == v)=[]:=by
      rw [List.filter_eq_nil_iff]
      intro y hy z
      exact n.1 (List.mem_map.mpr ⟨y,hy,by rw [eq_of_beq z,e]⟩)
     rw [List.filter_cons_of_pos (by simpa using e),this];simp
    ·rw [List.filter_cons_of_neg (by simpa using e)]
     exact ih n.2
 exact gen xs _ nd2
end Ws
namespace Ws
open PySem PySem.W PyProof.Rows
theorem aM2 {H:L2.Hp} {kvs:List (List L2.Key×L2.V)} {xs:List (List L2.Key×Addr×Value)} (r:L2.KT H kvs xs):kvs.map (·.1)=xs.map (·.1):=by
 unfold L2.KT at r
 induction r with
 | nil=>rfl
 | cons h _ ih=>rw [List.map_cons,List.map_cons,ih,h.1]
section
variable {X:L2.Cx} {cm:Nat->Addr}
theorem aM3:L2.CallR X (.type "dict") (λxs H Q=>∃(a:Addr) (kvs:List (List L2.Key×L2.V)) (ks:List (List Int)),xs=[.ref a]/\H a=some (.dT kvs)/\kvs.map (·.1)=ks.map (List.map Sum.inl)/\ks.Nodup/\(∀k∈ks,k∈small)/\∀l,H l=none->Q (.ref l) (L2.upd H l (.dT kvs))):=by
 intro pins s σ H xs us Q I r h
 obtain⟨a,kvs,ks,rfl,hH,hks,nd,hsm,q⟩:=h
 obtain⟨u,rfl,rx⟩:=L2.X1 r
 cases rx
 obtain⟨z,hd,xs,rel,dd⟩:=L2.aq8 I.hok hH
 have hl:kvs.length=xs.length:=Paired.length rel
 refine aM1 hd dd (by rw [←hl];exact z) (aF5 hsm (by rw [←aM2 rel];exact hks) nd) λh' dd' hs=>?_
 obtain⟨qo,es,ep,hq,h2,h3,h4,_,h5⟩:=dd'
 have hfr:=I.hok.fresh (Nat.le_refl s.heap.objs.size)
 refine⟨.ref s.heap.objs.size,_,I.laid (t':=s.toks) (a:=s.heap.objs.size) (o:=.dT kvs) (λb o e2=>(hs.2 b (Nat.ne_of_lt (Heap.lt_size e2))).trans (Heap.get?_push_of_some _ e2)) (Nat.le_refl _) ⟨z,beq_eq_false_iff_ne.mpr (Ne.symm (Nat.ne_of_lt I.big)),xs,L2.KT.keeps rel (λc ys ec=>?_),qo,es,ep,hq,h2,h3,h4,h5⟩,rfl,q _ hfr⟩
 rw [L2.C9 (λe=>by rw [e,hfr] at ec;cases ec)]
 exact ec
theorem aM4 {e:Expr} {d:ED} {p pos:Pos} (he:L2.PE X e (EvE X.K cm d)) (hg:L2.Gl X "dict") (hm:X.mg "dict" = none) (hs:starEach [e] X.env=(false,eval e X.env)::starEach [] X.env:=by exact C1 rfl):L2.PE X (.Call (.Name "dict" p) [e] [] pos) (EvE X.K cm (ao3 d)):=
 D2 (L2.d0 aM3 hg hm (show bootBuiltins "dict" = some (.type "dict") from by rfl) (r_cons he r_nil hs) (he:=hs)) λσ H Q h=>W6 (f:=λx=>match x with | .ref n=>bnd (P0 n) λm=>E3 ((m.map (·.1)).Nodup/\∀p∈m,p.1∈small) (alloc (.dT m)) | _=>stuck) (λ_=>rfl) (λρ A H x z A' v Q rl rx ev k=>by
  cases x with
  | ref n=>
    obtain⟨m,A1,e1,ev1⟩:=B0 ev
    obtain⟨rfl,hA,a,kv,rfl,hn,hH,hp⟩:=P4 rl rx e1
    obtain⟨c,ev2⟩:=C6 ev1
    cases ev2
    refine⟨a,kv,m.map (·.1),rfl,hH,by rw [hp.keys,List.map_map];rfl,c.1,λk hk=>?_,λD hD=>?_⟩
    ·obtain⟨p,hp,rfl⟩:=List.mem_map.mp hk
     exact c.2 p hp
    ·have ex:Ext ρ H (ρ++[D]) (L2.upd H D (.dT kv)):=Ext.new hD
     exact k (ρ++[D]) _ _ ex (rl.alloc hD ⟨_,L2.C7,hp.mono ex⟩ rfl) (.ref (by rw [←rl.len];simp))
  | _=>cases ev) h
end
end Ws
namespace Ws
open PySem PySem.W PyProof.Rows
end Ws
namespace Ws
open PySem PySem.W PyProof.Rows
end Ws
namespace Ws
open PySem PySem.W PyProof.Rows
noncomputable def DAt (h:Heap) (d:Addr) (es:Array DictEntry) (ep:Nat):Prop:=∃o,h.get? d=some o/\o.ExactDict/\o.data=.dict es ep
theorem DAt.at {h h':Heap} {d:Addr} {es:Array DictEntry} {ep:Nat} (x:DAt h d es ep) (k:∀o,h.get? d=some o->h'.get? d=some o):DAt h' d es ep:=let ⟨o,ho,r⟩:=x;⟨o,k o ho,r⟩
end Ws
namespace Ws
open PySem PySem.W PyProof.Rows
end Ws
namespace Ws
open PySem PySem.W PyProof.Rows PySem.SeqAt
end Ws
namespace Ws
open PySem PySem.W PyProof.Rows PySem.SeqAt
end Ws
namespace Ws
open PySem PySem.W PyProof.Rows PySem.SeqAt
end Ws
namespace Ws
open PySem PySem.W PyProof.Rows
section
variable {X:L2.Cx} {cm:Nat->Addr} {pins:List (Addr×Obj)} {σ:L2.St} {H:L2.Hp} {s:Shared} {A:Around} {E:Value->Shared->Prop}
theorem aF6 {a b:Addr} {kvs:List (List L2.Key×L2.V)} {k:List L2.Key} {v:L2.V} {r:Value} {Q:Unit->Shared->Prop} (hu:A.units<cLine) (I:L2.Inv X pins σ H s) (e:H a=some (.dT kvs)) (eb:H b=some (.tup (k.map L2.kV))) (rv:L2.RelV v r) (l:kvs.length<sizeLine)
 (h:∀s',L2.Inv X pins σ (L2.upd H a (.dT (L2.N5 kvs k v))) s'->Q () s'):wpAny (model X.prog X.w) A (dictSet a (.ref b) r) Q E s:=by
 obtain⟨z,hd,xs,rel,dd⟩:=L2.aq8 I.hok e
 have hz:xs.length<=sizeLine:=by rw [←Paired.length rel];exact z
 have hl:(L2.N5 kvs k v).length<=sizeLine:=by have:=L2.P8 kvs k v;omega
 refine wpAny_dictSet_heap (hsz:=hz) (knd:=TK X.prog X.w) hu (L2.n8 I.hok eb) dd λh' dd' hs=>h _ ?_
 obtain⟨q,es,ep,hq,h2,h3,h4,_,h5⟩:=dd'
 refine L2.ad9 (ob:=.dT (L2.N5 kvs k v)) I (by rw [e];exact True.intro) hs ⟨q,hq⟩ ⟨hl,hd,_,L2.KT.keeps (rel.put k eb rv) (λc ys ec=>?_),q,es,ep,hq,h2,h3,h4,h5⟩
 rw [L2.C9 (L2.aN6 ec e (λz=>nomatch z))]
 exact ec
end
theorem ax7 {H:L2.Hp} {p:Addr} {a b:L2.HO}:L2.upd (L2.upd H p a) p b=L2.upd H p b:=by
 funext q
 unfold L2.upd
 split <;> rfl
section
variable {X:L2.Cx} {cm:Nat->Addr}
noncomputable def aM5 (t1 u1 t2 u2:L2.TE):L2.TE:=λσ H Q=>∀p,H p=none->t1 σ (L2.upd H p (.dT [])) λk1 H1=>u1 σ H1 λv1 H2=>t2 σ H2 λk2 H3=>u2 σ H3 λv2 H4=>∃b1 b2 i j,k1=.ref b1/\k2=.ref b2/\H4 p=some (.dT [])/\H4 b1=some (.tup (i.map L2.kV))/\H4 b2=some (.tup (j.map L2.kV))/\
 Q (.ref p) (L2.upd (L2.upd H4 p (.dT (L2.N5 [] i v1))) p (.dT (L2.N5 (L2.N5 [] i v1) j v2)))
theorem ax8 {i1 e1 i2 e2:Expr} {pos:Pos} {t1 u1 t2 u2:L2.TE} (hu:X.A.units+1<cLine) (h1:L2.PE X i1 t1) (g1:L2.PE X e1 u1) (h2:L2.PE X i2 t2) (g2:L2.PE X e2 u2):L2.PE X (.Dict [some i1,some i2] [e1,e2] pos) (aM5 t1 u1 t2 u2):=by
 intro pins s σ H Q I q
 have hn:=I.hok.fresh (Nat.le_refl s.heap.objs.size)
 have I1:=I.laid (a:=s.heap.objs.size) (o:=.dT []) (h':=s.heap.push { cls:=.type "dict",data:=.dict #[] }) (t':=s.toks) (λ_ _ q=>Heap.get?_push_of_some _ q) (Nat.le_refl _) (L2.ah8 s.heap I.big)
 rw [arm_eval_Dict,zip_pairTrees [some i1,some i2] [e1,e2] X.env pos rfl rfl,dictDisplay_pairs (pairTrees [some i1,some i2] [e1,e2] X.env pos) (by simp [pairTrees]) (by simp [pairTrees])]
 refine wpAny_bind (wpAny_standAt (wpAny_bind ?_))
 unfold subDict
 refine wpAny_bind (wpAny_alloc ?_)
 refine wpAny_bind (wpAny_holding ?_)
 rw [if_pos (by simp [pairTrees])]
 refine wpAny_bind (pairTrees_cons_walk (L2.thn (h1 pins _ σ _ _ I1 (q _ hn)) λkv1 s2 ⟨k1,H1,I2,r1,q1⟩=>L2.thn (g1 pins _ σ _ _ I2 q1) λvv1 s3 ⟨v1,H2,I3,r2,q2⟩=>pairTrees_cons_walk (L2.thn (h2 pins _ σ _ _ I3 q2) λkv2 s4 ⟨k2,H3,I4,r3,q3⟩=>L2.thn (g2 pins _ σ _ _ I4 q3) λvv2 s5 ⟨v2,H4,I5,r4,b1,b2,i,j,ek1,ek2,hp,hb1,hb2,qq⟩=>pairTrees_nil_walk ?_)))
 subst ek1;subst ek2
 cases (show kv1=Value.ref b1 from r1)
 cases (show kv2=Value.ref b2 from r3)
 refine wpAny_holding ?_
 refine wpAny_bind ?_
 rw [List.forIn_cons]
 refine wpAny_bind (wpAny_bind (aF6 (by omega) I5 hp hb1 r2 (by rw [sizeLine_eq];decide) λs6 I6=>wpAny_pure ?_))
 dsimp only
 rw [List.forIn_cons]
 have hne2:b2≠s.heap.objs.size:=λe=>by rw [e,hp] at hb2;cases hb2
 refine wpAny_bind (wpAny_bind (aF6 (kvs:=L2.N5 [] i v1) (by omega) I6 L2.C7 (by rw [L2.C9 hne2];exact hb2) r4 (by have:=L2.P8 ([]:List (List L2.Key×L2.V)) i v1;rw [List.length_nil] at this;rw [sizeLine_eq];omega) λs7 I7=>wpAny_pure ?_))
 dsimp only
 rw [List.forIn_nil]
 exact wpAny_pure (wpAny_pure (wpAny_pure (wpAny_pure ⟨.ref _,_,I7,rfl,qq⟩)))
theorem aF7 {i1 e1 i2 e2:Expr} {y1 d1 y2 d2:ED} {pos:Pos} (hu:X.A.units+1<cLine) (h1:L2.PE X i1 (EvE X.K cm y1)) (g1:L2.PE X e1 (EvE X.K cm d1)) (h2:L2.PE X i2 (EvE X.K cm y2)) (g2:L2.PE X e2 (EvE X.K cm d2)):L2.PE X (.Dict [some i1,some i2] [e1,e2] pos) (EvE X.K cm (ae6 y1 d1 y2 d2)):=
 D2 (ax8 hu h1 g1 h2 g2) λσ H Q ⟨ρ,A,σp,v,A',rl,rs,ev,k⟩ p hp=>by
  obtain⟨x,A1,f1,ev1⟩:=B0 ev
  cases f1
  obtain⟨k1,A2,f2,ev2⟩:=B0 ev1
  obtain⟨w1,A3,f3,ev3⟩:=B0 ev2
  obtain⟨k2,A4,f4,ev4⟩:=B0 ev3
  obtain⟨w2,A5,f5,ev5⟩:=B0 ev4
  have x0:Ext ρ H (ρ++[p]) (L2.upd H p (.dT [])):=Ext.new hp
  have rl0:Rel X.K cm (ρ++[p]) (A++[.dT []]) (L2.upd H p (.dT [])):=rl.alloc hp ⟨_,L2.C7,⟨rfl,.nil⟩⟩ rfl
  have hl:(ρ++[p])[A.length]?=some p:=by rw [←rl.len];simp
  refine⟨ρ++[p],_,σp,k1,A2,rl0,rs.mono x0,f2,λρ1 H1 v1 x1 rl1 rv1=>⟨ρ1,A2,σp,w1,A3,rl1,(rs.mono x0).mono x1,f3,λρ2 H2 v2 x2 rl2 rv2=>⟨ρ2,A3,σp,k2,A4,rl2,((rs.mono x0).mono x1).mono x2,f4,λρ3 H3 v3 x3 rl3 rv3=>⟨ρ3,A4,σp,w2,A5,rl3,(((rs.mono x0).mono x1).mono x2).mono x3,f5,λρ4 H4 v4 x4 rl4 rv4=>?_⟩⟩⟩⟩
  have rp:RV ρ4 H4 (.ref A.length) (.ref p):=((((RV.ref hl).mono x1).mono x2).mono x3).mono x4
  rcases hk1:N2 k1 with _ | i
  ·rw [hk1] at ev5;cases ev5
  rcases hk2:N2 k2 with _ | j
  ·rw [hk1,hk2] at ev5;cases ev5
  rw [hk1,hk2] at ev5
  obtain⟨m,A6,f6,ev6⟩:=B0 ev5
  obtain⟨rfl,hA,a,kv,ea,hn,hH,hpp⟩:=P4 rl4 rp f6
  cases ea
  cases m with
  | nil=>
    cases ev6
    obtain rfl:=hpp.nil_inv
    obtain⟨b1,e1',hb1⟩:=T8 hk1 (((rv1.mono x2).mono x3).mono x4)
    obtain⟨b2,e2',hb2⟩:=T8 hk2 (rv3.mono x4)
    refine⟨b1,b2,i.map Sum.inl,j.map Sum.inl,e1',e2',hH,hb1,hb2,?_⟩
    rw [ax7]
    have ex:Ext ρ4 H4 ρ4 (L2.upd H4 p (.dT (L2.N5 (L2.N5 [] (i.map Sum.inl) v2) (j.map Sum.inl) v4))):=Ext.put rl4 hn hA rfl
    refine k ρ4 _ _ (((((x0.trans x1).trans x2).trans x3).trans x4).trans ex) (rl4.put hn hA rfl rfl ⟨_,L2.C7,?_⟩) (rp.mono ex)
    exact PT2.put (rv4.mono ex) j (PT2.put (((rv2.mono x3).mono x4).mono ex) i ⟨rfl,.nil⟩)
  | cons _ _=>cases ev6
end
end Ws
namespace Ws
open PySem PySem.W PyProof.Rows PySem.SeqAt
end Ws
namespace Ws
open PySem PySem.W PyProof.Rows
section
variable {X:L2.Cx} {cm:Nat->Addr}
theorem u6 {x:Str} {j pos}:L2.PE X (.Constant (.str x) j pos) (EvE X.K cm (eK (.str x))):=r_k L2.aQ0 λ_ _=>.str x
theorem aM6 (K:PySem.W.Frag) (a:String) (ha:a∈["NoneType","bool","int","str","list","tuple"]):PySem.W.kitOne K (.type a) (.type "str")=some (a == "str"):=by
 simp only [List.mem_cons,List.not_mem_nil,or_false] at ha
 rcases ha with rfl | rfl | rfl | rfl | rfl | rfl <;> with_unfolding_all rfl
theorem ap4:L2.CallR X (.builtin "isinstance") (λvs H Q=>∃v ty,vs=[v,.ty "str"]/\ty∈["NoneType","bool","int","str","list","tuple"]/\L2.X3 X.K H v (.type ty)/\Q (.bl (ty == "str")) H):=by
 intro pins s σ H xs us Q I r h
 obtain⟨v,ty,rfl,hm,hty,q⟩:=h
 obtain⟨u,w,rfl,ru,rw'⟩:=L2.aA5 r
 cases rw'
 exact L2.ab3 I ru hty (aM6 X.K ty hm) λtk=>⟨.bl _,H,I.tok tk,rfl,q⟩
theorem at8 {e:Expr} {d:ED} {p p2 pos:Pos} (he:L2.PE X e (EvE X.K cm d)) (hg:L2.Gl X "isinstance") (hm:X.mg "isinstance" = none) (hgt:L2.Gl X "str") (hmt:X.mg "str" = none)
 (hs:starEach [e,.Name "str" p2] X.env=(false,eval e X.env)::starEach [.Name "str" p2] X.env:=by exact C1 rfl) (hs2:starEach [Expr.Name "str" p2] X.env=(false,eval (.Name "str" p2) X.env)::starEach [] X.env:=by exact C1 rfl) (hpl:(backTo pos (starEach [Expr.Name "str" p2] X.env)).any (·.1)=false:=by rfl) :
 L2.PE X (.Call (.Name "isinstance" p) [e,.Name "str" p2] [] pos) (EvE X.K cm (ae7 d)):=
 D2 (L2.N7 ap4 hg hm PyProof.Rows.boot_isinstance (L2.R4 he (L2.R4 (L2.aq2 (v:=.ty "str") hgt hmt (show bootBuiltins "str" = some (.type "str") from by rfl) rfl (by decide) (by decide)) L2.ad4 hs2) hs) (he:=hs) (hpl:=hpl)) λσ H Q ⟨ρ,A,σp,v,A',rl,rs,ev,k⟩=>by
  obtain⟨x,A1,e1,ev1⟩:=B0 ev
  obtain⟨b,A2,e2,ev2⟩:=B0 ev1
  cases ev2
  refine⟨ρ,A,σp,x,A1,rl,rs,e1,λρ1 H1 v1 x1 rl1 rv1=>?_⟩
  cases x with
  | non=>cases rv1;cases e2;exact⟨_,"NoneType",rfl,by simp,.non,k ρ1 H1 _ x1 rl1 (.bl _)⟩
  | bl c=>cases rv1;cases e2;exact⟨_,"bool",rfl,by simp,.bl c,k ρ1 H1 _ x1 rl1 (.bl _)⟩
  | int i=>cases rv1;cases e2;exact⟨_,"int",rfl,by simp,.int i,k ρ1 H1 _ x1 rl1 (.bl _)⟩
  | str z=>cases rv1;cases e2;exact⟨_,"str",rfl,by simp,.str z,k ρ1 H1 _ x1 rl1 (.bl _)⟩
  | tup l=>
    cases rv1 with
    | tup ha r=>cases e2;exact⟨_,"tuple",rfl,by simp,.tup ha,k ρ1 H1 _ x1 rl1 (.bl _)⟩
  | ref n=>
    obtain⟨l,A3,e3,e4⟩:=B0 e2
    obtain⟨rfl,hA,a,xs,rfl,hn,hH,r⟩:=Q9 rl1 rv1 e3
    cases e4
    exact⟨_,"list",rfl,by simp,.lst hH,k ρ1 H1 _ x1 rl1 (.bl _)⟩
end
end Ws
namespace Ws
open PySem PySem.W PyProof.Rows
end Ws
namespace Ws
open PySem PySem.W PyProof.Rows
end Ws
namespace Ws
open PySem PySem.W PyProof.Rows
theorem ax9 {P:Program} {w:World} {K:PySem.W.Frag} {mg:Str->Option Value} {base:Heap} {cm:Nat->Addr} {k n:Nat} {fa:Addr} {fd:FuncData} {ps:List Str}:L2.FnOk P w K mg base L2.CX0 k fa fd ps (SpF K cm (λ_=>stuck) n):=
 ⟨λvs H Q E ⟨ρ,A,qs,v,A',_,_,_,ev,_⟩=>(nomatch ev),λA outer s H args us vs Q E hr he hb hv ⟨ρ,B,qs,v,A',_,_,_,ev,_⟩=>(nomatch ev)⟩
theorem i0 {J:It} {g:GD} {b:SD} (hb:W8 b):∀(f i:Nat) (σ:PSt) (A:PHp) (v:PV) (A':PHp),Q7 J g b f i σ A≠.ok (.rt v) A'
 | 0,i,σ,A,v,A',h=>by rw [o2] at h;cases h
 | f+1,i,σ,A,v,A',h=>by
   rw [M0] at h
   obtain⟨x,A1,e1,h⟩:=B0 h
   cases x with
   | none=>cases h
   | some y=>
     obtain⟨σ1,A2,e2,h⟩:=B0 h
     obtain⟨o,A3,e3,h⟩:=B0 h
     cases o with
     | nx σ2=>exact i0 hb f (i+1) σ2 A3 v A' h
     | ct σ2=>exact i0 hb f (i+1) σ2 A3 v A' h
     | bk σ2=>cases h
     | rt z=>exact hb _ _ _ _ e3
theorem aM7 {it:ID} {g:GD} {b:SD} (hb:W8 b):W8 (ai3 it g b):=λσ A v A' h=>by
 obtain⟨J,A1,e1,h⟩:=B0 h
 obtain⟨n,A2,e2,h⟩:=B0 h
 exact i0 hb _ _ _ _ _ _ h
theorem aF8 {d y e:ED}:W8 (ar2 d y e):=λσ A v A' h=>by
 obtain⟨x1,A1,e1,h⟩:=B0 h
 obtain⟨x2,A2,e2,h⟩:=B0 h
 obtain⟨x3,A3,e3,h⟩:=B0 h
 cases x2 with
 | ref n=>
   cases hk:N2 x3 with
   | none=>rw [hk] at h;cases h
   | some i=>
     rw [hk] at h
     obtain⟨m,A4,e4,h⟩:=B0 h
     obtain⟨_,h⟩:=C6 h
     cases h
 | _=>cases h
end Ws
namespace Ws
open PySem PySem.W PyProof.Rows
section
variable {prog:Program} {w:World} {A:Around} {E:Value->Shared->Prop} {s:Shared} {d:Addr} {es:Array DictEntry} {ep:Nat}
theorem DAt.type (hm:DAt s.heap d es ep):s.TypeIs (.ref d) "dict":=let ⟨o,ho,hc,_⟩:=hm;⟨o,ho,hc.1⟩
theorem ay0 {Q:Value->Shared->Prop} (lo:(d == sysModules)=false) (hm:DAt s.heap d es ep)
 (hQ:Q (.ref s.heap.objs.size) { s with heap:=s.heap.push { cls:=.type "dict_keyiterator",data:=.fields #[.ref d,.int 0 0,.int es.size 0,.int ep 0] } }):wpAny (model prog w) A (pyIter (.ref d)) Q E s:=by
 have hT:=hm.type
 obtain⟨o,ho,hc,hdat⟩:=id hm
 refine wpAny_pyIter_slot hT PySem.F.slot_dict_iter (wpAny_call_entry PySem.F.slot_dict_iter hT PySem.F.entry_dict_iter ?_ (PySem.F.args_dict_iter_1 _))
 unfold Builtin.«dict.__iter__»;refine wpAny_bind ?_;unfold Builtin.Dict.dictSlotNone
 refine wpAny_bind (wpAny_notOrdered_dict hT (show wpAny _ _ (pure (Value.ref d)) _ _ s from wpAny_pure ?_))
 refine (show wpAny _ _ (Builtin.Dict.showsAll d>>=_) _ _ s from ?_);unfold Builtin.Dict.showsAll
 rw [if_neg (by rw [lo];simp)]
 refine wpAny_bind (wpAny_pure (wpAny_bind (wpAny_dictEntries ho hdat (wpAny_bind (wpAny_dictEpoch ho hdat ?_)))))
 refine wpAny_bind (wpAny_newObj_type (wpAny_pure ⟨_,rfl,"dict_keyiterator",_,⟨_,Heap.get?_push_size _ rfl,rfl⟩,PySem.F.slot_dict_keyiterator_next.lookup,?_⟩))
 simpa [rawInt] using hQ
theorem ay1 {it:Addr} {i:Nat} {Q:Option Value->Shared->Prop} (hit:s.heap.IsKeyIter it d i es.size ep) (hm:DAt s.heap d es ep) (hlt:i<es.size)
 (hQ:∀h',h'.IsKeyIter it d (i+1) es.size ep->Heap.SameBut it s.heap h'->Q (some es[i].key) { s with heap:=h' }):wpAny (model prog w) A (pyNext (.ref it)) Q E s:=by
 obtain⟨o,ho,hc,hd⟩:=id hit
 obtain⟨od,hod,hcd,hdd⟩:=id hm
 have own:Builtin.Dict_items.ownsTuple "dict_keyiterator" = false:=by decide
 unfold pyNext
 refine wpAny_bind (wpAny_attempt (wpAny_callSpecial?_slot (name:=Str.ofString "__next__") hit.typeIs PySem.F.slot_dict_keyiterator_next
  (wpAny_call_entry PySem.F.slot_dict_keyiterator_next hit.typeIs PySem.F.entry_dict_keyiterator_next ?_ (PySem.F.args_dict_keyiterator_next_1 _))))
 refine wpAny_bind (wpAny_pure (wpAny_bind (wpAny_bind ?_)))
 first | refine wpAny_bind (wpAny_typeNameOfWhole_keyiter hit.typeIs (wpAny_pure ?_)) | refine wpAny_bind (wpAny_typeNameOf_keyiter hit.typeIs (wpAny_pure ?_))
 refine wpAny_bind (wpAny_fieldsOf ho hd ?_)
 simp only [own,Bool.false_eq_true,if_false]
 show wpAny _ _ (if (Value.ref d == Value.none)=true then _ else _) _ _ s
 rw [if_neg (show ¬((Value.ref d == Value.none)=true) from Bool.false_ne_true)]
 refine wpAny_bind (wpAny_pure (wpAny_bind (wpAny_dictEntries hod hdd ?_)))
 rw [if_neg (by simp)]
 refine wpAny_bind (wpAny_pure (wpAny_bind (wpAny_dictEpoch hod hdd ?_)))
 rw [if_neg (by simp)]
 refine wpAny_pure ?_
 simp only [show ¬((i:Int)<0) from by omega,if_false,Int.toNat_natCast,Array.getElem?_eq_getElem hlt]
 refine wpAny_bind ?_
 first | refine wpAny_bind (wpAny_typeNameOfWhole_keyiter hit.typeIs (wpAny_pure ?_)) | refine wpAny_bind (wpAny_typeNameOf_keyiter hit.typeIs (wpAny_pure ?_))
 refine wpAny_bind (wpAny_isOneOf_keyiter hit.typeIs ?_)
 show wpAny _ _ (setField (.ref it) 1 (rawInt ((i:Int)+1))>>=_) _ _ s
 refine wpAny_bind (wpAny_setField ho hd (by simp) ?_)
 have hit':(s.heap.update it (Obj.mapFields (·.setIfInBounds 1 (rawInt ((i:Int)+1))))).IsKeyIter it d (i+1) es.size ep:=
  ⟨_,Heap.get?_update_self _ ho (Obj.isFreed_of_fields (Obj.data_mapFields hd _)),(Obj.cls_mapFields ..).trans hc,by rw [Obj.data_mapFields hd];simp [rawInt]⟩
 refine wpAny_bind (wpAny_holding ?_)
 refine wpAny_bind (wpAny_isOneOf_keyiter (s:={ s with heap:=s.heap.update it (Obj.mapFields (·.setIfInBounds 1 (rawInt ((i:Int)+1)))) }) hit'.typeIs ?_)
 show wpAny _ _ (pure es[i].key) _ _ _
 exact wpAny_pure (wpAny_pure ⟨_,rfl,wpAny_pure (hQ _ hit' (Heap.SameBut.update ..))⟩)
theorem aF9 {it:Addr} {Q:Option Value->Shared->Prop} (hh:A.handled=none) (hit:s.heap.IsKeyIter it d es.size es.size ep) (hm:DAt s.heap d es ep)
 (hQ:∀h',Heap.ExtBut it s.heap h'->Q none { s with heap:=h' }):wpAny (model prog w) A (pyNext (.ref it)) Q E s:=by
 obtain⟨o,ho,hc,hd⟩:=id hit
 obtain⟨od,hod,hcd,hdd⟩:=id hm
 have own:Builtin.Dict_items.ownsTuple "dict_keyiterator" = false:=by decide
 unfold pyNext
 refine wpAny_bind (wpAny_attempt (wpAny_callSpecial?_slot (name:=Str.ofString "__next__") hit.typeIs PySem.F.slot_dict_keyiterator_next
  (wpAny_call_entry PySem.F.slot_dict_keyiterator_next hit.typeIs PySem.F.entry_dict_keyiterator_next ?_ (PySem.F.args_dict_keyiterator_next_1 _))))
 refine wpAny_bind (wpAny_pure (wpAny_bind (wpAny_bind ?_)))
 first | refine wpAny_bind (wpAny_typeNameOfWhole_keyiter hit.typeIs (wpAny_pure ?_)) | refine wpAny_bind (wpAny_typeNameOf_keyiter hit.typeIs (wpAny_pure ?_))
 refine wpAny_bind (wpAny_fieldsOf ho hd ?_)
 simp only [own,Bool.false_eq_true,if_false]
 show wpAny _ _ (if (Value.ref d == Value.none)=true then _ else _) _ _ s
 rw [if_neg (show ¬((Value.ref d == Value.none)=true) from Bool.false_ne_true)]
 refine wpAny_bind (wpAny_pure (wpAny_bind (wpAny_dictEntries hod hdd ?_)))
 rw [if_neg (by simp)]
 refine wpAny_bind (wpAny_pure (wpAny_bind (wpAny_dictEpoch hod hdd ?_)))
 rw [if_neg (by simp)]
 refine wpAny_pure ?_
 simp only [show ¬((es.size:Int)<0) from by omega,if_false,Int.toNat_natCast,Array.getElem?_eq_none (Nat.le_refl es.size)]
 refine wpAny_bind ?_
 first | refine wpAny_bind (wpAny_typeNameOfWhole_keyiter hit.typeIs (wpAny_pure ?_)) | refine wpAny_bind (wpAny_typeNameOf_keyiter hit.typeIs (wpAny_pure ?_))
 show wpAny _ _ (setField (.ref it) 0 .none>>=_) _ _ s
 refine wpAny_bind (wpAny_setField ho hd (by simp) ?_)
 show wpAny _ _ (newExc (.type "StopIteration") []>>=_) _ _ _
 refine wpAny_bind ?_
 simp only [newExc,newTuple]
 refine wpAny_bind (wpAny_newObj_type ?_ (by size_fits))
 refine wpAny_bind (m:=firstArgMember _ _) (wpAny_of_eq (a:=Value.none) (by first | rfl | (simp only [firstArgMember];rfl)) ?_)
 refine wpAny_newObj_type ?_ (by size_fits)
 simp only [raiseNew]
 refine wpAny_bind (wpAny_handled ?_)
 rw [show A.in1.handled=none from hh]
 refine wpAny_bind (wpAny_pure (wpAny_throw ?_))
 refine wpAny_bind (wpAny_isInstance (T:="StopIteration") (b:=true) ⟨_,Heap.get?_push_size _ rfl,rfl⟩ isSubtype_stop ?_)
 exact wpAny_pure (hQ _ (((Heap.SameBut.update ..).extBut.push _).push _))
theorem ap5 (hh:A.handled=none) (I:Addr) (hne:d≠I):Walks prog w A I [I,d] [I] es.size (λi v=>(es[i]?).map (·.key)=some v) (λi h=>h.IsKeyIter I d i es.size ep/\DAt h d es ep) where
 sub:=λb hb=>by simp at hb;simp [hb]
 frame:=λ_ _ _ st hk=>⟨st.1.at λo e=>hk I (by simp) o e,st.2.at λo e=>hk d (by simp) o e⟩
 item:=λi s Q E hi st hQ=>by
  refine ay1 st.1 st.2 hi λh' hit' hs'=>?_
  exact hQ _ h' s.toks (by rw [Array.getElem?_eq_getElem hi];rfl) ⟨hit',st.2.at λo e=>hs'.extBut d o hne e⟩ λb o hb e=>hs'.extBut b o (λh=>hb (by simp [h])) e
 done:=λs Q E st hQ=>aF9 hh st.1 st.2 λh' he'=>hQ h' s.toks λb o hb e=>he' b o (λh=>hb (by simp [h])) e
 self:=λ_ _ _ _ st hQ=>wpAny_pyIter_keyiter st.1 hQ
theorem ay2 (lo:(d == sysModules)=false):KdlSrc prog w "dict" d d es.size (λi v=>(es[i]?).map (·.key)=some v) (λh=>DAt h d es ep) where
 type:=λ_ hm=>hm.type
 there:=λ_ hm=>⟨let ⟨_,ho,_⟩:=hm;Heap.lt_size ho,let ⟨_,ho,_⟩:=hm;Heap.lt_size ho⟩
 keep:=λ_ _ hm hk=>hm.at λo e=>hk d (.inl rfl) o e
 notList:=by decide
 notTuple:=by decide
 hint:=λ_ _ _ _ hm hq=>kdl_hint_dict hm.type hq
 iter:=λ_ _ hh hm=>⟨_,_,(λ_ _ hq=>ay0 lo hm hq),ap5 hh _ (Nat.ne_of_lt (let ⟨_,ho,_⟩:=hm;Heap.lt_size ho)),⟨⟨_,Heap.get?_push_size _ rfl,rfl,rfl⟩,hm.at λo e=>Heap.get?_push_of_some _ e⟩⟩
end
end Ws
namespace Ws
open PySem PySem.W PyProof.Rows
section
variable {X:L2.Cx} {cm:Nat->Addr}
noncomputable def rSortDT:List L2.V->L2.Hp->L2.VK->Prop:=λvs H Q=>∃(a:Addr) (kvs:List (List L2.Key×L2.V)) (ts:List (List Int)),vs=[.ref a]/\H a=some (.dT kvs)/\kvs.map (·.1)=ts.map (List.map (Sum.inl:Int->L2.Key))/\(∀t∈ts,t≠[])/\ts.length<64/\
 ∀(l:Addr) (p:List Nat) (ys:List L2.V),Paired (TupV H) ys ts->M7 ts ys.length p->H l=none->Q (.ref l) (L2.upd H l (.lst (p.map λi=>ys.getD i .non)))
theorem aM8 {H:L2.Hp}:∀{kvs:List (List L2.Key×L2.V)} {xs:List (List L2.Key×Addr×Value)} {ts:List (List Int)},L2.KT H kvs xs->kvs.map (·.1)=ts.map (List.map (Sum.inl:Int->L2.Key))->(∀t∈ts,t≠[])->Paired (TupV H) (xs.map λq=>L2.V.ref q.2.1) ts:=by
 intro kvs xs ts r
 unfold L2.KT at r
 induction r generalizing ts with
 | nil=>
   intro e _
   cases ts with
   | nil=>exact .nil
   | cons t ts=>cases e
 | @cons p q _ _ h _ ih=>
   intro e hne
   cases ts with
   | nil=>cases e
   | cons t ts=>
     rw [List.map_cons,List.map_cons] at e
     injection e with e1 e2
     refine .cons ⟨_,rfl,?_,hne t List.mem_cons_self⟩ (ih e2 λu hu=>hne u (List.mem_cons_of_mem _ hu))
     rw [h.2.1,e1,List.map_map];rfl
theorem ak5 (hcalm:X.calm=true):L2.CallR X (.builtin "sorted") rSortDT:=by
 intro pins s σ H xs us Q I r h
 obtain⟨a,kvs,ts,rfl,hH,hkeys,hne,h64,q⟩:=h
 obtain⟨u,rfl,rx⟩:=L2.X1 r
 cases rx
 obtain⟨z,hd,xs,rel,dd⟩:=L2.aq8 I.hok hH
 obtain⟨oo,es,ep,hoo,hc,hdat,hes,his,hnd⟩:=id dd
 have hesz:es.size=xs.length:=size_of_entries hes
 have hl:kvs.length=xs.length:=Paired.length rel
 have hlt:kvs.length=ts.length:=by
  have:=congrArg List.length hkeys
  simpa using this
 have hT:=aM8 rel hkeys hne
 refine Calls.call_function_entry kind_sorted plain_sorted entry_sorted (args_sorted1 _) ?_
 unfold Builtin.«sorted»;refine wpAny_bind (m:=checkCount "sorted" 1 1 _) (wpAny_pure ?_)
 refine wpAny_bind (kdu_collect (A:=_) (ay2 (es:=es) (ep:=ep) hd) (I.ok.hd hcalm) ⟨oo,hoo,hc,hdat⟩ (by rw [hesz,←hl];exact z) λh' tk acc hk hacc=>?_)
 have hal:acc.toList=xs.map λq=>Value.ref q.2.1:=by
  refine List.ext_getElem? λj=>?_
  rw [Array.getElem?_toList]
  cases hj:acc[j]? with
  | none=>
    have h1:acc.size<=j:=by simpa using hj
    rw [hacc.1,hesz] at h1
    rw [List.getElem?_eq_none (by simpa using h1)]
  | some v=>
    have h1:(es[j]?).map (·.key)=some v:=hacc.2 j v hj
    rw [entry_at hes j,Option.map_map] at h1
    rw [List.getElem?_map]
    exact h1.symm
 have hlen:acc.toList.length=ts.length:=by rw [hal,List.length_map,←hl,hlt]
 have I1:=I.kept (t':=tk) hk
 have hv:L2.Vals (xs.map λq=>L2.V.ref q.2.1) acc.toList:=by
  rw [hal]
  clear hal hlen hT hes hl rel dd hesz his hnd
  induction xs with
  | nil=>exact .nil
  | cons q r ih=>exact .cons rfl ih
 refine wpAny_bind (wpAny_newList ?_ (by rw [hlen,sizeLine_eq];omega))
 have hoL:(h'.push (seqObj "list" acc.toList.toArray 0)).get? h'.objs.size=some (seqObj "list" acc.toList.toArray 0):=Heap.get?_push_size _ rfl
 have hTA:=af6 I1 hv hT
 refine wpAny_bind (wpAny_holding (wpAny_call_entry slot_list_sort ⟨_,hoL,rfl⟩ entry_list_sort (T7 hoL (L2.Paired.mapP hTA λv t ⟨b,o,its,k,e,q,r⟩=>⟨b,o,its,k,e,Heap.get?_push_of_some _ q,r⟩) (by omega) λp hp=>⟨_,rfl,?_⟩) (args_list_sort _)))
 refine wpAny_pure ⟨_,rfl,?_⟩
 have hyl:(xs.map λq=>L2.V.ref q.2.1).length=acc.toList.length:=by rw [hal];simp
 have hp':M7 ts (xs.map λq=>L2.V.ref q.2.1).length p:=by rw [hyl];exact hp
 obtain⟨c,hc'⟩:=sortedHeap_at (out:=List.toArray (p.map λi=>acc.toList.getD i Value.none)) hoL
 have hpl:p.length=acc.toList.length:=by rw [hp.1.length_eq];simp
 refine⟨.ref h'.objs.size,_,I1.laid (t':=tk) (a:=h'.objs.size) (o:=.lst (p.map λi=>(xs.map λq=>L2.V.ref q.2.1).getD i .non)) (λb o e2=>?_) (Nat.le_refl _) ?_,rfl,q _ p _ hT hp' (I1.hok.fresh (Nat.le_refl _))⟩
 ·have hlt:=Heap.lt_size e2
  rw [sortedHeap_old (Nat.ne_of_lt hlt) (by rw [size_push'];exact Nat.lt_succ_of_lt hlt)]
  exact Heap.get?_push_of_some _ e2
 ·refine⟨by rw [List.length_map,hpl,hlen,sizeLine_eq];omega,p.map λi=>acc.toList.getD i Value.none,c,g8 hv p λi hi=>?_,hc'⟩
  have:=hp'.1.mem_iff.mp hi
  simpa using this
theorem ay3 {e:Expr} {d:ED} {p pos:Pos} (hcalm:X.calm=true) (he:L2.PE X e (EvE X.K cm d)) (hg:L2.Gl X "sorted") (hm:X.mg "sorted" = none) (hs:starEach [e] X.env=(false,eval e X.env)::starEach [] X.env:=by exact C1 rfl):L2.PE X (.Call (.Name "sorted" p) [e] [] pos) (EvE X.K cm (o8 d)):=
 D2 (L2.N7 (ak5 hcalm) hg hm PyProof.Rows.boot_sorted (r_cons he r_nil hs) (he:=hs)) λσ H Q h=>W6 (f:=λx=>match x with | .ref n=>bnd (P0 n) λm=>E3 (m.length<64/\∀p∈m,p.1≠[]) (alloc (.lst ((D9 D8 (m.map (·.1))).map λt=>.tup (t.map .int)))) | _=>stuck) (λ_=>rfl) (λρ A H x z A' v Q rl rx ev k=>by
  cases x with
  | ref n=>
    obtain⟨m,A1,e1,ev1⟩:=B0 ev
    obtain⟨rfl,hA,a,kv,rfl,hn,hH,hp⟩:=P4 rl rx e1
    obtain⟨⟨h64,hne⟩,ev2⟩:=C6 ev1
    cases ev2
    refine⟨a,kv,m.map (·.1),rfl,hH,by rw [hp.keys,List.map_map];rfl,λt ht=>?_,by simpa using h64,λD p ys hT hs hD=>?_⟩
    ·obtain⟨q,hq,rfl⟩:=List.mem_map.mp ht
     exact hne q hq
    generalize m.map (·.1)=ts at hT hs k
    have hyl:ys.length=ts.length:=Paired.length hT
    rw [hyl] at hs
    have es:(p.map λi=>ts.getD i [])=D9 D8 ts:=d7 (lt:=D8) m4 ((ac6 ts [] hs.1).trans (L4 _ _).symm) hs.2 (o6 ts)
    have hlt:∀i∈p,i<ts.length:=λi hi=>by simpa using hs.1.mem_iff.mp hi
    have hr:RVs ρ H (ts.map λt=>PV.tup (t.map .int)) ys:=by
     clear hs es hlt hyl k
     induction hT with
     | nil=>exact .nil
     | cons h _ ih=>
       obtain⟨b,rfl,hb,_⟩:=h
       exact .cons (.tup hb (RVs.ints _)) ih
    have ep:(D9 D8 ts).map (λt=>PV.tup (t.map .int))=p.map λi=>(ts.map λt=>PV.tup (t.map .int)).getD i .non:=by
     rw [←es,List.map_map]
     refine List.map_congr_left λi hi=>?_
     have:=hlt i hi
     simp [this]
    have ex:Ext ρ H (ρ++[D]) (L2.upd H D (.lst (p.map λi=>ys.getD i .non))):=Ext.new hD
    refine k (ρ++[D]) _ _ ex (rl.alloc hD ⟨_,L2.C7,?_⟩ rfl) (.ref (by rw [←rl.len];simp))
    rw [ep]
    exact (t7 hr p λi hi=>by rw [List.length_map];exact hlt i hi).mono ex
  | _=>cases ev) h
end
end Ws
namespace Ws
open PySem PySem.W PyProof.Rows
structure aG0 (K:PySem.W.Frag) (mg:Str->Option Value) (cm:Nat->Addr) (c:Nat) (x:Str):Prop where
 makes:makesIn K (cm c)=true
 init:findIn K (.ref (cm c)) "__init__" = some (some (.builtin "object.__init__"))
 kp:keepIn K (.ref (cm c))=true
 nm:mg x=some (.ref (cm c))
 lt:c<7
section
variable {X:L2.Cx} {cm:Nat->Addr}
theorem ay4 {pins:List (Addr×Obj)} {σ:L2.St} {H:L2.Hp} {s:Shared} {Q:L2.VK} {C:Addr} (hm:makesIn X.K C=true) (hi:findIn X.K (.ref C) "__init__" = some (some (.builtin "object.__init__"))) (I:L2.Inv X pins σ H s)
 (h:∀x dx,H x=none->H dx=none->dx≠x->Q (.ref x) (L2.upd (L2.upd H dx (.own x)) x (.ins C dx []))):wpAny (model X.prog X.w) X.A (call (.ref C) []) (L2.EP X pins σ Q) X.xe s:=by
 have hq:=h (s.heap.objs.size+1) s.heap.objs.size (I.hok.fresh (Nat.le_succ _)) (I.hok.fresh (Nat.le_refl _)) (Nat.ne_of_lt (Nat.lt_succ_self _))
 have I2:=L2.Inv.made (C:=C) I
 have Y:=makes_of (M:=model X.prog X.w) I2.kIn hm
 refine wpAny_call (L2.av5 I.kIn hm hi (λself=>Looks.of_pure (oi_bind self)) ?_)
 have hx:((s.heap.push emptyDict).push (instObj C s.heap.objs.size)).get? (s.heap.objs.size+1)=some (instObj C s.heap.objs.size):=by
  have:=Heap.get?_push_size (h:=s.heap.push emptyDict) (o:=instObj C s.heap.objs.size) rfl
  rwa [Heap.size_push] at this
 have t1:Looks (model X.prog X.w) ((s.heap.push emptyDict).push (instObj C s.heap.objs.size)) (typeOf (.ref (s.heap.objs.size+1))) (.ref C):=(Looks.ld hx).andThen .now
 have t2:Looks (model X.prog X.w) ((s.heap.push emptyDict).push (instObj C s.heap.objs.size)) (isInstance (.ref (s.heap.objs.size+1)) (.type "object")) true:=t1.andThen Y.top
 refine codeAny_call_builtin oi_plain entry_oi (check_slot (s:={ s with heap:=(s.heap.push emptyDict).push (instObj C s.heap.objs.size) }) (i:="object.__init__") (owner:="object") (n:="__init__") (rest:=[]) (kw:=[]) (self:=.ref (s.heap.objs.size+1)) oi_kind oi_split t2 (oi_args _) ?_)
 rw [oi_run]
 exact wpAny_pure ⟨rfl,.ref (s.heap.objs.size+1),_,I2,rfl,hq⟩
theorem a08 {c:Nat} {x:Str} {p pos:Pos} (D:aG0 X.K X.mg cm c x) (hg:L2.Gl X x) (hdb:(x == ("__debug__" : Str))=false:=by decide):L2.PE X (.Call (.Name x p) [] [] pos) (EvE X.K cm (aT5 c)):=by
 intro pins s σ H Q I ⟨ρ,A,σp,v,A',rl,rs,ev,k⟩
 refine wpAny_Call_Name_kw (L2.j8 I hg D.nm ?_ hdb)
 refine callWith_K0 I.kIn D.kp (ay4 D.makes D.init I λx dx hx hdx hne=>?_)
 cases ev
 have e1:L2.upd H dx (.own x) x=none:=by rw [L2.C9 (Ne.symm hne)];exact hx
 have r1:Rel X.K cm ρ A (L2.upd H dx (.own x)):=rl.grow (Ext.same hdx) (N0 hdx)
 have ex:Ext ρ H (ρ++[x]) (L2.upd (L2.upd H dx (.own x)) x (.ins (cm c) dx [])):=(Ext.same hdx).trans (Ext.new e1)
 exact k (ρ++[x]) _ _ ex (r1.alloc e1 ⟨⟨D.lt,by simp⟩,dx,[],L2.C7,⟨rfl,.nil⟩⟩ rfl) (.ref (by rw [←rl.len];simp))
end
structure aV9 (K:PySem.W.Frag) (cm:Nat->Addr) (cs:List Nat):Prop where
 cl:∀c∈cs,findIn K (.ref (cm c)) "__class__" = some (some (.builtin "object.__class__"))
 cg:specialIn K (.builtin "object.__class__") "__get__" = some (some (.builtin "getset_descriptor.__get__"))
 ct:takesIn K (.builtin "object.__class__")=some true
 mo:∀c∈cs,mroIn K (cm c) (.type "object")=some true
 kit:∀c∈cs,∀k∈cs,kitOne K (.ref (cm c)) (.ref (cm k))=some (ai8 c k)
section
variable {X:L2.Cx} {cm:Nat->Addr}
theorem at9 {cs:List Nat} {k:Nat} {e:Expr} {d:ED} {tn:Str} {p p2 pos:Pos} (G:aV9 X.K cm cs) (hcl:∀c,c<7->L2.Cls X.K (cm c)) (hk:k∈cs) (he:L2.PE X e (EvE X.K cm d)) (hg:L2.Gl X "isinstance") (hm:X.mg "isinstance" = none) (hgt:L2.Gl X tn) (hmt:X.mg tn=some (.ref (cm k)))
 (hs:starEach [e,.Name tn p2] X.env=(false,eval e X.env)::starEach [.Name tn p2] X.env:=by exact C1 rfl) (hs2:starEach [Expr.Name tn p2] X.env=(false,eval (.Name tn p2) X.env)::starEach [] X.env:=by exact C1 rfl) (hpl:(backTo pos (starEach [Expr.Name tn p2] X.env)).any (·.1)=false:=by rfl)
 (hdb:(tn == ("__debug__" : Str))=false:=by decide):L2.PE X (.Call (.Name "isinstance" p) [e,.Name tn p2] [] pos) (EvE X.K cm (aw6 cs d k)):=by
 have call:L2.CallR X (.builtin "isinstance") (λvs H Q=>∃a c dx fs,vs=[.ref a,.ref (cm k)]/\c∈cs/\c<7/\H a=some (.ins (cm c) dx fs)/\Q (.bl (ai8 c k)) H):=by
  intro pins s σ H xs us Q I r h
  obtain⟨a,c,dx,fs,rfl,hc,h7,h1,q⟩:=h
  obtain⟨u,w,rfl,ru,rw'⟩:=L2.aA5 r
  obtain rfl:u=Value.ref a:=ru
  obtain rfl:w=Value.ref (cm k):=rw'
  obtain⟨mA,O,_⟩:=L2.X2 I.hok h1
  obtain⟨od,J,_⟩:=O.look
  exact kia_one (kitx_own ((hcl c h7).get _) (hcl c h7).hd (G.cl c hc) G.cg G.ct (G.mo c hc)) I.kIn J (G.kit c hc k hk) (λz=>nomatch z) λtk=>⟨.bl _,H,I.tok tk,rfl,q⟩
 refine D2 (L2.N7 call hg hm PyProof.Rows.boot_isinstance (L2.R4 he (L2.R4 (L2.aq1 (v:=.ref (cm k)) hgt hmt rfl hdb) L2.ad4 hs2) hs) (he:=hs) (hpl:=hpl)) λσ H Q ⟨ρ,A,σp,v,A',rl,rs,ev,kk⟩=>?_
 obtain⟨x,A1,e1,ev1⟩:=B0 ev
 refine⟨ρ,A,σp,x,A1,rl,rs,e1,λρ1 H1 v1 x1 rl1 rv1=>?_⟩
 cases x with
 | ref n=>
   obtain⟨o,A2,e2,ev2⟩:=B0 ev1
   obtain⟨hc,ev3⟩:=C6 ev2
   cases ev3
   obtain⟨rfl,hA,a,dx,kv,rfl,hn,hH,hp,h7⟩:=Y1 rl1 rv1 e2
   exact⟨a,o.1,dx,kv,rfl,hc,(rl1.obj n _ a hA hn).1.1,hH,kk ρ1 H1 _ x1 rl1 (.bl _)⟩
 | _=>cases ev1
end
end Ws
namespace Ws
open PySem PySem.W PyProof.Rows PySem.Builtin PySem.Builtin.Str
end Ws
namespace Ws
open PySem PySem.W PyProof.Rows
end Ws
namespace Ws
open PySem PySem.W PyProof.Rows
end Ws
namespace Ws
open PySem PySem.W PyProof.Rows
end Ws
namespace Ws
open PySem PySem.W PyProof.Rows
end Ws
namespace Ws
open PySem PySem.W PyProof.Rows PySem.SeqAt
open MeetsSeq MeetsSeq2 MeetsSeq3 SeqRoads2
end Ws
namespace Ws
noncomputable abbrev XP:=Nat->PV->PHp->Prop
noncomputable def Wp {α:Type} (m:M α) (A:PHp) (Q:α->PHp->Prop) (E:XP):Prop:=match m A with
 | .ok a A'=>Q a A'
 | .ex c v A'=>E c v A'
 | .no=>False
noncomputable abbrev NoX:XP:=λ_ _ _=>False
section
variable {α β:Type} {m:M α} {f:α->M β} {A A' A1 B:PHp} {a:α} {E E':XP} {σ σ':PSt}
theorem w_eq {Q:α->PHp->Prop} (h:m A=.ok a A') (q:Q a A'):Wp m A Q E:=by unfold Wp;rw [h];exact q
theorem a09 {Q:α->PHp->Prop} (h:Wp m A Q NoX):∃a A',m A=.ok a A'/\Q a A':=by
 unfold Wp at h
 cases e:m A with
 | ok a A'=>rw [e] at h;exact⟨a,A',rfl,h⟩
 | ex c v A'=>rw [e] at h;exact h.elim
 | no=>rw [e] at h;exact h.elim
theorem aM9 {Q Q':α->PHp->Prop} (h:Wp m A Q E) (hq:∀a A',Q a A'->Q' a A') (he:∀c v A',E c v A'->E' c v A'):Wp m A Q' E':=by
 unfold Wp at h ⊢
 cases e:m A with
 | ok a A'=>rw [e] at h;exact hq _ _ h
 | ex c v A'=>rw [e] at h;exact he _ _ _ h
 | no=>rw [e] at h;exact h.elim
theorem w_mono {Q Q':α->PHp->Prop} (h:Wp m A Q E) (hq:∀a A',Q a A'->Q' a A'):Wp m A Q' E:=aM9 h hq λ_ _ _ z=>z
theorem au0 {Q:α->PHp->Prop} (q:Q a A):Wp (ret a) A Q E:=q
theorem C0 {Q:β->PHp->Prop} (h:Wp m A (λa A1=>Wp (f a) A1 Q E) E):Wp (bnd m f) A Q E:=by
 unfold Wp at h ⊢
 unfold bnd
 cases e:m A with
 | ok a A'=>rw [e] at h;exact h
 | ex c v A'=>rw [e] at h;exact h
 | no=>rw [e] at h;exact h
theorem D7 {P:Prop} {Q:α->PHp->Prop} (p:P) (h:Wp m A Q E):Wp (E3 P m) A Q E:=by rw [U3 p];exact h
variable {Q:PV->PHp->Prop} {e e1 e2 e3:ED} {es:AD} {v x y:PV} {i j:Int} {k n:Nat} {l:List PV}
theorem w_var (h:σ[k]?=some (some v)) (q:Q v A):Wp (eVar k σ) A Q E:=w_eq (a:=v) (by show (eVar k σ) A=_;unfold eVar;rw [h];rfl) q
theorem w_k (q:Q v A):Wp (eK v σ) A Q E:=q
theorem w_nil {Q:List PV->PHp->Prop} (q:Q [] A):Wp (aNil σ) A Q E:=q
theorem w_cons {Q:List PV->PHp->Prop} (h:Wp (e σ) A (λx A1=>Wp (es σ) A1 (λxs A2=>Q (x::xs) A2) E) E):Wp (aCons e es σ) A Q E:=
 C0 (w_mono h λ_ _ h1=>C0 (w_mono h1 λ_ _ h2=>h2))
theorem w_tup (h:Wp (es σ) A (λxs A1=>xs.length<=LIM/\Q (.tup xs) A1) E):Wp (N6 es σ) A Q E:=C0 (w_mono h λ_ _ ⟨h1,h2⟩=>D7 h1 h2)
theorem w_lst (h:Wp (es σ) A (λxs A1=>xs.length<=LIM/\Q (.ref A1.length) (A1++[.lst xs])) E):Wp (o0 es σ) A Q E:=C0 (w_mono h λ_ _ ⟨h1,h2⟩=>D7 h1 h2)
theorem w_bin {f:OD} (h:Wp (e1 σ) A (λx A1=>Wp (e2 σ) A1 (λy A2=>Wp (f x y) A2 Q E) E) E):Wp (I9 f e1 e2 σ) A Q E:=C0 (w_mono h λ_ _ h1=>C0 h1)
theorem w_add (q:Q (.int (i+j)) A):Wp (aB8 (.int i) (.int j)) A Q E:=q
theorem u7 {Q:List PV->PHp->Prop} (h:A[n]?=some (.lst l)) (q:Q l A):Wp (Q6 n) A Q E:=w_eq (aw5 h) q
theorem w_mod (h:0<j) (q:Q (.int (i%j)) A):Wp (aB9 (.int i) (.int j)) A Q E:=D7 h q
theorem w_fdiv (h:0<j/\j<1073741824) (q:Q (.int (i / j)) A):Wp (aC0 (.int i) (.int j)) A Q E:=D7 h q
theorem w_lt (q:Q (.bl (decide (i<j))) A):Wp (oLt (.int i) (.int j)) A Q E:=q
theorem w_eqI (q:Q (.bl (decide (i=j))) A):Wp (oEq (.int i) (.int j)) A Q E:=C0 (D7 (.inr ⟨rfl,rfl⟩) q)
theorem w_neI (q:Q (.bl (!decide (i=j))) A):Wp (oNe (.int i) (.int j)) A Q E:=C0 (D7 (.inr ⟨rfl,rfl⟩) q)
theorem w_neB {b c:Bool} (q:Q (.bl (!(b == c))) A):Wp (oNe (.bl b) (.bl c)) A Q E:=C0 (D7 (.inl rfl) q)
theorem a22 (hx:plain x=true) (hy:plain y=true) (q:Q (.bl (eqv x y)) A):Wp (oEq x y) A Q E:=by
 cases x with
 | ref n=>cases hx
 | _=>exact C0 (D7 (.inr ⟨hx,hy⟩) q)
theorem Q1 {Q:List PV->PHp->Prop} (h:A[n]?=some (.lst l)) (q:Q l A):Wp (D3 n) A Q E:=w_eq (K0 h) q
theorem a23 {n k:Nat} {l m:List PV} (hn:A[n]?=some (.lst l)) (hk:A[k]?=some (.lst m)) (hp:G8 l=true/\G8 m=true) (q:Q (.bl (N8 l m)) A):Wp (oEq (.ref n) (.ref k)) A Q E:=
 C0 (C0 (Q1 hn (C0 (Q1 hk (D7 hp q)))))
theorem aP1 {n k:Nat} {l m:List PV} (hn:A[n]?=some (.lst l)) (hk:A[k]?=some (.lst m)) (hp:G8 l=true/\G8 m=true) (q:Q (.bl (!N8 l m)) A):Wp (oNe (.ref n) (.ref k)) A Q E:=
 C0 (C0 (Q1 hn (C0 (Q1 hk (D7 hp q)))))
theorem w_isN (h:Wp (e σ) A (λx A1=>Q (.bl (ah9 x)) A1) E):Wp (aw3 e σ) A Q E:=C0 h
variable {QB:Bool->PHp->Prop} {t t1 t2:TD} {b:Bool}
theorem w_true (q:QB true A):Wp (o3 σ) A QB E:=q
theorem w_tval (h:Wp (e σ) A (λx A1=>∃b,x=.bl b/\QB b A1) E):Wp (J2 e σ) A QB E:=C0 (w_mono h λx A1 ⟨b,hx,q⟩=>by subst hx;exact q)
theorem w_tor (h:Wp (t1 σ) A (λb A1=>(b=true->QB true A1)/\(b=false->Wp (t2 σ) A1 QB E)) E):Wp (tOr t1 t2 σ) A QB E:=C0 (w_mono h λb A1 ⟨h1,h2⟩=>by
 cases b with
 | true=>exact h1 rfl
 | false=>exact h2 rfl)
theorem w_tnot (h:Wp (t σ) A (λb A1=>QB (!b) A1) E):Wp (tNot t σ) A QB E:=C0 h
theorem w_and (h:Wp (e1 σ) A (λx A1=>∃b,x=.bl b/\((b=true->Wp (e2 σ) A1 Q E)/\(b=false->Q (.bl false) A1))) E):Wp (d5 e1 e2 σ) A Q E:=C0 (C0 (w_mono h λx A1 ⟨b,hx,h1,h2⟩=>by
 subst hx
 cases b with
 | true=>exact h1 rfl
 | false=>exact h2 rfl))
theorem w_ifE (h:Wp (t σ) A (λb A1=>(b=true->Wp (e1 σ) A1 Q E)/\(b=false->Wp (e2 σ) A1 Q E)) E):Wp (eIf t e1 e2 σ) A Q E:=C0 (w_mono h λb A1 ⟨h1,h2⟩=>by
 cases b with
 | true=>exact h1 rfl
 | false=>exact h2 rfl)
theorem w_ixL (hn:A[n]?=some (.lst l)) (hi:atI l i=some v) (q:Q v A):Wp (oIx (.ref n) (.int i)) A Q E:=C0 (Q1 hn (by rw [hi];exact q))
theorem w_ixT (hi:atI l i=some v) (q:Q v A):Wp (oIx (.tup l) (.int i)) A Q E:=by
 refine w_eq (a:=v) (A':=A) ?_ q
 simp [hi]
theorem w_len (h:Wp (e σ) A (λx A1=>Wp (L6 x) A1 (λl A2=>Q (.int l.length) A2) E) E):Wp (ai0 e σ) A Q E:=C0 (w_mono h λ_ _ h1=>C0 h1)
theorem w_seqL {Q:List PV->PHp->Prop} (h:A[n]?=some (.lst l)) (q:Q l A):Wp (L6 (.ref n)) A Q E:=Q1 h q
theorem w_seqT {Q:List PV->PHp->Prop} (q:Q l A):Wp (L6 (.tup l)) A Q E:=q
theorem w_listOf (h:Wp (e σ) A (λx A1=>Wp (L6 x) A1 (λl A2=>Q (.ref A2.length) (A2++[.lst l])) E) E):Wp (U4 e σ) A Q E:=C0 (w_mono h λ_ _ h1=>C0 h1)
theorem w_tupleOf (h:Wp (e σ) A (λx A1=>∃n l,x=.ref n/\A1[n]?=some (.lst l)/\l.length<=LIM/\Q (.tup l) A1) E):Wp (Y0 e σ) A Q E:=C0 (w_mono h λx A1 ⟨n,l,hx,h1,h2,q⟩=>by
 subst hx
 exact C0 (Q1 h1 (D7 h2 q)))
variable {QO:Option Int->PHp->Prop} {lo hi:LD}
theorem w_lno (q:QO none A):Wp (lNo σ) A QO E:=q
theorem w_lat (h:Wp (e σ) A (λx A1=>∃i,x=.int i/\QO (some i) A1) E):Wp (lAt e σ) A QO E:=C0 (w_mono h λx A1 ⟨i,hx,q⟩=>by subst hx;exact q)
theorem w_cut (h:Wp (e σ) A (λx A1=>Wp (lo σ) A1 (λl A2=>Wp (hi σ) A2 (λh A3=>(∃n xs,x=.ref n/\D3 n A3=.ok xs A3/\Q (.ref A3.length) (A3++[.lst (cut xs l h)]))\/
 ∃xs,x=.tup xs/\¬(M8 xs.length 0 l=0/\M8 xs.length xs.length h=xs.length)/\Q (.tup (cut xs l h)) A3) E) E) E):Wp (aw4 e lo hi σ) A Q E:=
 C0 (w_mono h λ_ _ h1=>C0 (w_mono h1 λ_ _ h2=>C0 (w_mono h2 λ_ _ h3=>by
  rcases h3 with ⟨n,xs,rfl,hn,q⟩ | ⟨xs,rfl,hn,q⟩
  ·exact C0 (w_eq hn q)
  ·exact D7 hn q)))
theorem ac9:∀bs:List Bool,V4 (bs.map PV.bl)=some bs
 | []=>rfl
 | b::r=>by rw [List.map_cons];show (V4 (r.map PV.bl)).map (b :: ·)=_;rw [ac9 r];rfl
theorem w_all (h:Wp (e σ) A (λx A1=>∃(n:Nat) (bs:List Bool),x=.ref n/\A1[n]?=some (.lst (bs.map PV.bl))/\Q (.bl (bs.all id)) A1) E):Wp (aC1 e σ) A Q E:=C0 (w_mono h λx A1 ⟨n,bs,hx,h1,q⟩=>by
 subst hx
 refine C0 (Q1 h1 ?_)
 rw [ac9];exact q)
theorem w_append {e1 e2:ED} (h:Wp (e1 σ) A (λx A1=>∃n l,x=.ref n/\A1[n]?=some (.lst l)/\Wp (e2 σ) A1 (λv A2=>∃l2,A2[n]?=some (.lst l2)/\l2.length<LIM/\Q .non (A2.set n (.lst (l2++[v])))) E) E):Wp (j9 e1 e2 σ) A Q E:=
 C0 (w_mono h λx A1 ⟨n,l,hx,h1,h2⟩=>by
  subst hx
  exact C0 (u7 h1 (C0 (w_mono h2 λv A2 ⟨l2,h3,h4,q⟩=>C0 (u7 h3 (D7 h4 q))))))
theorem w_fld (h:Wp (e σ) A (λx A1=>∃n c fs v,x=.ref n/\A1[n]?=some (.ins c fs)/\Q3 k fs=some v/\Q v A1) E):Wp (ae2 e k σ) A Q E:=
 C0 (w_mono h λx A1 ⟨n,c,fs,v,hx,h1,h2,q⟩=>by
  subst hx
  refine C0 (w_eq (a:=(c,fs)) (A':=A1) (by show P9 n A1=_;unfold P9;rw [h1]) ?_)
  show Wp (match Q3 k fs with | some v=>_ | none=>_) _ _ _
  rw [h2];exact q)
theorem w_call {f:Fun} (h:Wp (es σ) A (λvs A1=>Wp (f vs) A1 Q E) E):Wp (L3 f es σ) A Q E:=C0 h
theorem w_meth {c:Nat} {f:Fun} (h:Wp (e σ) A (λx A1=>∃n fs,x=.ref n/\A1[n]?=some (.ins c fs)/\Wp (es σ) A1 (λvs A2=>Wp (f (.ref n::vs)) A2 Q E) E) E):Wp (S9 c f e es σ) A Q E:=
 C0 (w_mono h λx A1 ⟨n,fs,hx,h1,h2⟩=>by
  subst hx
  exact C0 (w_eq (a:=(c,fs)) (A':=A1) (by show P9 n A1=_;unfold P9;rw [h1]) (D7 rfl (C0 h2))))
theorem w_make {c:Nat} {f:Fun} (h:Wp (es σ) A (λvs A1=>Wp (f (.ref A1.length::vs)) (A1++[.ins c []]) (λ_ A2=>Q (.ref A1.length) A2) E) E):Wp (V3 c f es σ) A Q E:=
 C0 (w_mono h λvs A1 h1=>C0 (w_eq (a:=.ref A1.length) (A':=A1++[.ins c []]) rfl (C0 h1)))
variable {QF:Fl->PHp->Prop} {s s1 s2:SD} {g:GD} {QS:PSt->PHp->Prop}
theorem w_pass (q:QF (.nx σ) A):Wp (sPass σ) A QF E:=q
theorem w_seq (h:Wp (s1 σ) A (λo A1=>match o with | .nx σ'=>Wp (s2 σ') A1 QF E | o=>QF o A1) E):Wp (E6 s1 s2 σ) A QF E:=C0 (w_mono h λo A1 h1=>by
 cases o with
 | nx σ'=>exact h1
 | _=>exact h1)
theorem w_exp (h:Wp (e σ) A (λ_ A1=>QF (.nx σ) A1) E):Wp (ai2 e σ) A QF E:=C0 h
theorem w_retS (h:Wp (e σ) A (λv A1=>QF (.rt v) A1) E):Wp (K7 e σ) A QF E:=C0 h
theorem w_if (h:Wp (t σ) A (λb A1=>(b=true->Wp (s1 σ) A1 QF E)/\(b=false->Wp (s2 σ) A1 QF E)) E):Wp (sIf t s1 s2 σ) A QF E:=C0 (w_mono h λb A1 ⟨h1,h2⟩=>by
 cases b with
 | true=>exact h1 rfl
 | false=>exact h2 rfl)
theorem w_asg (h:Wp (e σ) A (λv A1=>Wp (g v σ) A1 (λσ' A2=>QF (.nx σ') A2) E) E):Wp (V0 e g σ) A QF E:=C0 (w_mono h λ_ _ h1=>C0 h1)
theorem w_gname (q:QS (σ.set k (some v)) A):Wp (gName k v σ) A QS E:=q
theorem w_gnil (q:QS σ A):Wp (gNil [] σ) A QS E:=q
theorem w_gcons {r:GDs} {vs:List PV} (h:Wp (g v σ) A (λσ' A1=>Wp (r vs σ') A1 QS E) E):Wp (gCons g r (v::vs) σ) A QS E:=C0 h
theorem w_gtup {r:GDs} (hl:l.length=n) (h:Wp (r l σ) A QS E):Wp (gTup n r (.tup l) σ) A QS E:=D7 hl h
theorem w_sfld (h:Wp (e2 σ) A (λv A1=>Wp (e1 σ) A1 (λx A2=>∃n c fs,x=.ref n/\A2[n]?=some (.ins c fs)/\fs.length<900/\QF (.nx σ) (A2.set n (.ins c (putFld k v fs)))) E) E):Wp (sFld e1 k e2 σ) A QF E:=
 C0 (w_mono h λv A1 h1=>C0 (w_mono h1 λx A2 ⟨n,c,fs,hx,h2,h3,q⟩=>by
  subst hx
  exact C0 (w_eq (a:=(c,fs)) (A':=A2) (by show P9 n A2=_;unfold P9;rw [h2]) (D7 h3 q))))
theorem a50 {n p:Nat} {vs:List PV} (hl:vs.length=p) (h:Wp (s (start n vs)) A (λo A1=>match o with | .rt v=>Q v A1 | .nx _=>Q .non A1 | _=>False) E):Wp (fn n p s vs) A Q E:=
 D7 hl (C0 (w_mono h λo A1 h1=>by
  cases o with
  | rt v=>exact h1
  | nx σ'=>exact h1
  | bk σ'=>exact h1.elim
  | ct σ'=>exact h1.elim))
noncomputable abbrev au1 (P:PSt->PHp->Prop) (QF:Fl->PHp->Prop):Fl->PHp->Prop:=λo A=>match o with
 | .nx σ=>P σ A
 | .ct σ=>P σ A
 | .bk σ=>QF (.nx σ) A
 | .rt v=>QF (.rt v) A
theorem m6 {J:It} {n:Nat} (P:Nat->PSt->PHp->Prop) (hend:∀σ A,P n σ A->item J n A=.ok none A/\QF (.nx σ) A)
 (hs:∀i σ A,i<n->P i σ A->∃v,item J i A=.ok (some v) A/\Wp (g v σ) A (λσ1 A1=>Wp (s σ1) A1 (au1 (P (i+1)) QF) E) E) :
 ∀k i σ A,i+k=n->P i σ A->∀m,k<m->Wp (Q7 J g s m i σ) A QF E
 | _,_,_,_,_,_,0,hm=>absurd hm (Nat.not_lt_zero _)
 | 0,i,σ,A,e,h,m+1,hm=>by
   obtain rfl:i=n:=by omega
   obtain⟨h1,h2⟩:=hend σ A h
   rw [M0]
   exact C0 (w_eq h1 h2)
 | k+1,i,σ,A,e,h,m+1,hm=>by
   obtain⟨v,hv,t⟩:=hs i σ A (by omega) h
   rw [M0]
   refine C0 (w_eq hv ?_)
   refine C0 (w_mono t λσ1 A1 h1=>C0 (w_mono h1 λo A2 h2=>?_))
   cases o with
   | nx σ2=>exact m6 P hend hs k (i+1) σ2 A2 (by omega) h2 m (by omega)
   | ct σ2=>exact m6 P hend hs k (i+1) σ2 A2 (by omega) h2 m (by omega)
   | bk σ2=>exact h2
   | rt v=>exact h2
theorem aW0 {it:ID} (P:Nat->PSt->PHp->Prop) (h:Wp (it σ) A (λJ A1=>∃lo n,J=.rng lo n/\P 0 σ A1/\(∀(i:Nat) σ B,i<n->P i σ B->Wp (g (.int (lo+i)) σ) B (λσ1 B1=>Wp (s σ1) B1 (au1 (P (i+1)) QF) E) E)/\∀σ B,P n σ B->QF (.nx σ) B) E) :
 Wp (ai3 it g s σ) A QF E:=C0 (w_mono h λJ A1 ⟨lo,n,hJ,h0,hs,he⟩=>by
 subst hJ
 exact C0 (au0 (m6 P (λσ B hP=>⟨by simp,he σ B hP⟩) (λi σ B hi hP=>⟨_,by simp [hi],hs i σ B hi hP⟩) n 0 σ A1 (by omega) h0 (n+1) (Nat.lt_succ_self _))))
theorem aW1 {it:ID} (P:Nat->PSt->PHp->Prop) (h:Wp (it σ) A (λJ A1=>∃a l,J=.lst a/\P 0 σ A1/\(∀i σ B,P i σ B->D3 a B=.ok l B)/\(∀(i:Nat) v σ B,l[i]?=some v->P i σ B->Wp (g v σ) B (λσ1 B1=>Wp (s σ1) B1 (au1 (P (i+1)) QF) E) E)/\∀σ B,P l.length σ B->QF (.nx σ) B) E) :
 Wp (ai3 it g s σ) A QF E:=C0 (w_mono h λJ A1 ⟨a,l,hJ,h0,hl,hs,he⟩=>by
 subst hJ
 refine C0 (C0 (w_eq (hl 0 σ A1 h0) (au0 ?_)))
 refine m6 P (λσ B hP=>⟨by show bnd (D3 a) _ B=_;rw [bnd_ok (hl _ σ B hP)];simp,he σ B hP⟩) (λi σ B hi hP=>?_) l.length 0 σ A1 (by omega) h0 (l.length+1) (Nat.lt_succ_self _)
 exact⟨l[i],by show bnd (D3 a) _ B=_;rw [bnd_ok (hl _ σ B hP),List.getElem?_eq_getElem hi];rfl,hs i l[i] σ B (List.getElem?_eq_getElem hi) hP⟩)
theorem u8 {J:It} {g:GD} {t:TD} {e:ED} {l:List PV} {QL:List PV->PHp->Prop} (P:Nat->List PV->PSt->PHp->Prop) (hit:∀i acc σ B,P i acc σ B->item J i B=.ok l[i]? B)
 (hs:∀i v acc σ B,l[i]?=some v->P i acc σ B->Wp (g v σ) B (λσ1 B1=>Wp (t σ1) B1 (λc B2=>(c=true->Wp (e σ1) B2 (λy B3=>P (i+1) (acc++[y]) σ1 B3) E)/\(c=false->P (i+1) acc σ1 B2)) E) E)
 (he:∀acc σ B,P l.length acc σ B->QL acc B):∀k i acc σ B,i<=l.length->l.length<i+k->P i acc σ B->Wp (T0 J g t e k i σ) B (λys B'=>QL (acc++ys) B') E
 | 0,i,acc,σ,B,h1,h2,_=>absurd h2 (by omega)
 | k+1,i,acc,σ,B,h1,h2,h=>by
   rw [j0]
   refine C0 (w_eq (hit i acc σ B h) ?_)
   cases hv:l[i]? with
   | none=>
     have:l.length=i:=by have:=List.getElem?_eq_none_iff.mp hv;omega
     subst this
     show QL (acc++[]) B
     rw [List.append_nil];exact he acc σ B h
   | some v=>
     have hi:=(List.getElem?_eq_some_iff.mp hv).1
     refine C0 (w_mono (hs i v acc σ B hv h) λσ1 B1 h3=>C0 (w_mono h3 λc B2 ⟨h4,h5⟩=>?_))
     cases c with
     | true=>
       refine C0 (w_mono (h4 rfl) λy B3 h6=>C0 (w_mono (u8 P hit hs he k (i+1) (acc++[y]) σ1 B3 hi (by omega) h6) λys B4 h7=>?_))
       show QL (acc++(y::ys)) B4
       rw [show acc++(y::ys)=acc++[y]++ys by simp];exact h7
     | false=>exact u8 P hit hs he k (i+1) acc σ1 B2 hi (by omega) (h5 rfl)
theorem aG1 {it:ID} {mk:PSt->PSt} {g:GD} {t:TD} {e:ED} (h:Wp (it σ) A (λJ A1=>∃(l:List PV) (n:Nat) (P:Nat->List PV->PSt->PHp->Prop),W3 J A1=.ok n A1/\l.length<=n/\P 0 [] (mk σ) A1/\(∀i acc σ B,P i acc σ B->item J i B=.ok l[i]? B)/\
 (∀i v acc σ B,l[i]?=some v->P i acc σ B->Wp (g v σ) B (λσ1 B1=>Wp (t σ1) B1 (λc B2=>(c=true->Wp (e σ1) B2 (λy B3=>P (i+1) (acc++[y]) σ1 B3) E)/\(c=false->P (i+1) acc σ1 B2)) E) E)/\
 ∀acc σ B,P l.length acc σ B->acc.length<=LIM/\Q (.ref B.length) (B++[.lst acc])) E):Wp (T1 it mk g t e σ) A Q E:=
 C0 (w_mono h λJ A1 ⟨l,n,P,hf,hn,h0,hit,hs,he⟩=>C0 (w_eq hf (C0 (w_mono (u8 P hit hs (QL:=λacc B=>acc.length<=LIM/\Q (.ref B.length) (B++[.lst acc])) he (n+1) 0 [] (mk σ) A1 (Nat.zero_le _) (by omega) h0) λys B h12=>by
  obtain⟨h1,h2⟩:=h12
  rw [List.nil_append] at h1 h2
  exact D7 h1 h2))))
theorem m7 {it:ID} {mk:PSt->PSt} {g:GD} {t:TD} {e:ED} {l:List PV} (S:PSt->Prop) (p:PV->Bool) (f:PV->PV) (h:Wp (it σ) A (λJ A1=>∃n,W3 J A1=.ok n A1/\l.length<=n/\l.length<=LIM/\S (mk σ)/\(∀i,item J i A1=.ok l[i]? A1)/\
 (∀v σ,v∈l->S σ->Wp (g v σ) A1 (λσ1 B1=>B1=A1/\S σ1/\Wp (t σ1) A1 (λc B2=>B2=A1/\c=p v/\(c=true->Wp (e σ1) A1 (λy B3=>B3=A1/\y=f v) E)) E) E)/\
 Q (.ref A1.length) (A1++[.lst ((l.filter p).map f)])) E):Wp (T1 it mk g t e σ) A Q E:=
 aG1 (w_mono h λJ A1 ⟨n,hf,hn,hL,h0,hit,hs,he⟩=>⟨l,n,λi acc σ B=>B=A1/\S σ/\acc=((l.take i).filter p).map f,hf,hn,⟨rfl,h0,by simp⟩,λi acc σ B ⟨h1,_⟩=>by rw [h1];exact hit i,λi v acc σ B hv ⟨h1,h2,h3⟩=>by
  subst h1
  refine w_mono (hs v σ (List.mem_of_getElem? hv) h2) λσ1 B1 ⟨e1,h4,h5⟩=>?_
  subst e1
  refine w_mono h5 λc B2 ⟨e2,h6,h7⟩=>?_
  subst e2
  have tk:l.take (i+1)=l.take i++[v]:=by rw [List.take_succ,hv];rfl
  refine⟨λhc=>w_mono (h7 hc) λy B3 ⟨e3,h8⟩=>⟨e3,h4,?_⟩,λhc=>⟨rfl,h4,?_⟩⟩
  ·rw [tk,List.filter_append,List.map_append,h3,h8,List.filter_cons_of_pos (by rw [←h6];exact hc)];rfl
  ·rw [tk,List.filter_append,List.map_append,h3,List.filter_cons_of_neg (by rw [←h6,hc];simp)];simp,λacc σ B ⟨h1,_,h3⟩=>by
  subst h1
  rw [List.take_of_length_le (Nat.le_refl _)] at h3
  subst h3
  exact⟨by rw [List.length_map];exact Nat.le_trans (List.length_filter_le _ _) hL,he⟩⟩)
theorem Z6 {n:Nat} {l:List PV} (h:A[n]?=some (.lst l)):W3 (.lst n) A=.ok l.length A:=by show bnd (D3 n) _ A=_;rw [bnd_ok (K0 h)];rfl
theorem Z7 {n:Nat} {l:List PV} (h:A[n]?=some (.lst l)) (i:Nat):item (.lst n) i A=.ok l[i]? A:=by show bnd (D3 n) _ A=_;rw [bnd_ok (K0 h)];rfl
theorem aG2 (n i:Nat):item (.rng 0 n) i A=.ok ((List.range n).map λ(k:Nat)=>PV.int (k:Int))[i]? A:=by
 by_cases hi:i<n <;> simp [hi]
noncomputable def W9:List PV->List PV->List PV
 | x::xs,y::ys=>.tup [x,y]::W9 xs ys
 | _,_=>[]
theorem au2:∀(l m:List PV) (i:Nat),(match l[i]?,m[i]? with | some u,some v=>some (.tup [u,v]) | _,_=>none)=(W9 l m)[i]?
 | [],m,i=>by simp [W9]
 | x::xs,[],i=>by cases h:(x::xs)[i]? <;> simp [W9]
 | x::xs,y::ys,0=>by simp [W9]
 | x::xs,y::ys,i+1=>by simpa [W9] using au2 xs ys i
theorem ak6:∀(l m:List PV),(W9 l m).length<=l.length
 | [],m=>by simp [W9]
 | x::xs,[]=>by simp [W9]
 | x::xs,y::ys=>by simpa [W9] using ak6 xs ys
theorem ay5 {n k:Nat} {l m:List PV} (hn:A[n]?=some (.lst l)) (hk:A[k]?=some (.lst m)) (i:Nat):item (.zip (.ref n) (.ref k)) i A=.ok (W9 l m)[i]? A:=by
 rw [←au2]
 show bnd (D3 n) _ A=_
 rw [bnd_ok (K0 hn)]
 show bnd (D3 k) _ A=_
 rw [bnd_ok (K0 hk)];rfl
end
noncomputable def pv (p:Int×Int):PV:=.tup [.int p.1,.int p.2]
noncomputable def pvs (ps:List (Int×Int)):List PV:=ps.map pv
theorem aG3 (p:Int×Int):plain (pv p)=true:=rfl
theorem ay6 (ps:List (Int×Int)):G8 (pvs ps)=true:=by
 rw [W4];intro x hx;obtain⟨p,_,rfl⟩:=List.mem_map.mp hx;rfl
theorem aW2 {p q:Int×Int} (h:pv p=pv q):p=q:=by
 obtain⟨a,b⟩:=p;obtain⟨c,d⟩:=q
 simp [pv] at h;simp [h]
theorem aN0 (p:Int×Int) (ps:List (Int×Int)):pIn (pv p) (pvs ps)=decide (p∈ps):=by
 induction ps with
 | nil=>simp [pIn,pvs]
 | cons q r ih=>
   have e:eqv (pv q) (pv p)=decide (q=p):=by
    by_cases h:q=p
    ·subst h;simp [(ar1 (pv q) (pv q) rfl).mpr rfl]
    ·have:¬eqv (pv q) (pv p)=true:=λz=>h (aW2 ((ar1 _ _ rfl).mp z))
     simp [h,this]
   show (eqv (pv q) (pv p)||pIn (pv p) (pvs r))=_
   rw [ih,e]
   by_cases h:q=p <;> by_cases h2:p∈r <;> simp [h,h2]
   intro z;exact h z.symm
noncomputable def aN1:PV->Int
 | .tup [.int a,.int b]=>a
 | _=>0
noncomputable def aN2:PV->Int
 | .tup [.int a,.int b]=>b
 | _=>0
@[simp] theorem a30 (p:Int×Int):aN1 (pv p)=p.1:=rfl
@[simp] theorem a31 (p:Int×Int):aN2 (pv p)=p.2:=rfl
section
variable {A:PHp} {Q:PV->PHp->Prop} {E:XP} {n:Nat} {x a b:Int} {M:List Int} {ps:List (Int×Int)}
theorem w_isA {QB:PV->PHp->Prop} {e:ED} {σ:PSt} {t:Ty} (h:Wp (e σ) A (λx A1=>Wp (ai1 t x) A1 (λb A2=>QB (.bl b) A2) E) E):Wp (S8 e t σ) A QB E:=C0 (w_mono h λ_ _ h1=>C0 h1)
theorem w_isTyV {QB:Bool->PHp->Prop} {t:Ty} {x:PV} {b:Bool} (h:ai1 t x A=.ok b A) (q:QB b A):Wp (ai1 t x) A QB E:=w_eq h q
theorem w_isTyL {QB:Bool->PHp->Prop} {l:List PV} (h:A[n]?=some (.lst l)) (q:QB true A):Wp (ai1 .list (.ref n)) A QB E:=C0 (u7 h q)
theorem ay7 (l m:List Int):N8 (l.map .int) (m.map .int)=decide (l=m):=by
 have h:=ai7 (l.map .int) (m.map .int) (j3 _)
 have inj:l.map PV.int=m.map PV.int↔l=m:=⟨λz=>by
  have:=congrArg K5 z
  rw [W5,W5] at this
  exact Option.some.inj this,λz=>by rw [z]⟩
 cases e:N8 (l.map .int) (m.map .int) with
 | true=>exact (decide_eq_true (inj.mp (h.mp e))).symm
 | false=>exact (decide_eq_false λz=>by rw [h.mpr (inj.mpr z)] at e;cases e).symm
theorem w_eqL0 {n k:Nat} {l:List Int} (hn:A[n]?=some (.lst (l.map .int))) (hk:A[k]?=some (.lst [])) (q:Q (.bl (decide (l=[]))) A):Wp (oEq (.ref n) (.ref k)) A Q E:=a23 hn hk ⟨j3 _,rfl⟩ (by rw [show ([]:List PV)=([]:List Int).map .int from rfl,ay7];exact q)
end
section
variable {A:PHp} {E:XP} {σ:PSt} {e e1 e2:ED}
theorem brT {P R:Prop} (h:P):(true=true->P)/\(true=false->R):=⟨λ_=>h,λz=>nomatch z⟩
theorem brNT {P R:Prop} (h:R):((!true)=true->P)/\((!true)=false->R):=⟨λz=>(nomatch z),λ_=>h⟩
theorem brF {P R:Prop} (h:R):(false=true->P)/\(false=false->R):=⟨λz=>(nomatch z),λ_=>h⟩
theorem exL {A:PHp} {n:Nat} {l:List PV} {R:Nat->List PV->Prop} (h:A[n]?=some (.lst l)) (q:R n l):∃n' l',PV.ref n=.ref n'/\A[n']?=some (.lst l')/\R n' l':=⟨n,l,rfl,h,q⟩
theorem exL1 {A:PHp} {n:Nat} {l:List PV} {R:List PV->Prop} (h:A[n]?=some (.lst l)) (q:R l):∃l',A[n]?=some (.lst l')/\R l':=⟨l,h,q⟩
theorem exO {A:PHp} {n c:Nat} {l:List (Nat×PV)} {R:Nat->List (Nat×PV)->Prop} (h:A[n]?=some (.ins c l)) (q:R n l):∃n' l',PV.ref n=.ref n'/\A[n']?=some (.ins c l')/\R n' l':=⟨n,l,rfl,h,q⟩
theorem exO2 {A:PHp} {n c:Nat} {l:List (Nat×PV)} {R:Nat->Nat->List (Nat×PV)->Prop} (h:A[n]?=some (.ins c l)) (q:R n c l):∃n' c' l',PV.ref n=.ref n'/\A[n']?=some (.ins c' l')/\R n' c' l':=⟨n,c,l,rfl,h,q⟩
theorem exF {A:PHp} {n c k:Nat} {l:List (Nat×PV)} {v:PV} {R:PV->Prop} (h:A[n]?=some (.ins c l)) (hv:Q3 k l=some v) (q:R v):∃n' c' l' v',PV.ref n=.ref n'/\A[n']?=some (.ins c' l')/\Q3 k l'=some v'/\R v':=⟨n,c,l,v,rfl,h,hv,q⟩
theorem exLA {A:PHp} {n:Nat} {l:List PV} {R:Nat->Prop} {R':Prop} (h:A[n]?=some (.lst l)) (q:R n):(∃n' l',PV.ref n=.ref n'/\D3 n' A=.ok l' A/\R n')\/R':=.inl ⟨n,l,rfl,K0 h,q⟩
theorem aG4 {A:PHp} {n:Nat} {l:List PV} (h:A[n]?=some (.ro l)):D3 n A=.ok l A:=by unfold D3;rw [h]
theorem exLC {A:PHp} {n:Nat} {l:List PV} {R:Nat->List PV->Prop} {R':Prop} (h:A[n]?=some (.lst l)) (q:R n l):(∃n' l',PV.ref n=.ref n'/\D3 n' A=.ok l' A/\R n' l')\/R':=.inl ⟨n,l,rfl,K0 h,q⟩
theorem exRC {A:PHp} {n:Nat} {l:List PV} {R:Nat->List PV->Prop} {R':Prop} (h:A[n]?=some (.ro l)) (q:R n l):(∃n' l',PV.ref n=.ref n'/\D3 n' A=.ok l' A/\R n' l')\/R':=.inl ⟨n,l,rfl,aG4 h,q⟩
variable {QI:It->PHp->Prop}
theorem w_iseq (h:Wp (e σ) A (λx A1=>(∃n l,x=.ref n/\D3 n A1=.ok l A1/\QI (.lst n) A1)\/∃l,x=.tup l/\QI (.tup l) A1) E):Wp (am9 e σ) A QI E:=C0 (w_mono h λx A1 h1=>by
 rcases h1 with ⟨n,l,rfl,h2,q⟩ | ⟨l,rfl,q⟩
 ·exact C0 (w_eq h2 q)
 ·exact q)
theorem w_irng1 (h:Wp (e σ) A (λx A1=>∃n:Nat,x=.int n/\n<=1000000/\QI (.rng 0 n) A1) E):Wp (iRng1 e σ) A QI E:=C0 (w_mono h λx A1 ⟨n,hx,hn,q⟩=>by
 subst hx
 have l1:(n:Int)<=1000000:=Int.ofNat_le.mpr hn
 refine D7 ⟨Int.le_trans (by decide) (Int.natCast_nonneg n),Int.lt_of_le_of_lt l1 (by decide)⟩ (au0 ?_)
 rw [Int.toNat_natCast];exact q)
theorem w_irng2 (h:Wp (e1 σ) A (λx A1=>Wp (e2 σ) A1 (λy A2=>∃a b:Nat,x=.int a/\y=.int b/\(a<=1000000/\b<=1000000)/\QI (.rng a (b - a)) A2) E) E):Wp (iRng2 e1 e2 σ) A QI E:=
 C0 (w_mono h λx A1 h1=>C0 (w_mono h1 λy A2 ⟨a,b,hx,hy,hn,q⟩=>by
  subst hx;subst hy
  have l1:(a:Int)<=1000000:=Int.ofNat_le.mpr hn.1
  have l2:(b:Int)<=1000000:=Int.ofNat_le.mpr hn.2
  refine D7 ⟨⟨Int.le_trans (by decide) (Int.natCast_nonneg a),Int.lt_of_le_of_lt l1 (by decide)⟩,Int.le_trans (by decide) (Int.natCast_nonneg b),Int.lt_of_le_of_lt l2 (by decide)⟩ (au0 ?_)
  have:((b:Int) - a).toNat=b - a:=by omega
  rw [this];exact q))
theorem w_izip (h:Wp (e1 σ) A (λx A1=>Wp (e2 σ) A1 (λy A2=>Wp (L6 x) A2 (λ_ A3=>Wp (L6 y) A3 (λ_ A4=>QI (.zip x y) A4) E) E) E) E):Wp (aT4 e1 e2 σ) A QI E:=
 C0 (w_mono h λ_ _ h1=>C0 (w_mono h1 λ_ _ h2=>C0 (w_mono h2 λ_ _ h3=>C0 h3)))
end
end Ws
local macro_rules | `(tactic| walk_at "st")=>`(tactic| first
 | assumption
 | exact Ws.get_app
 | (refine Ws.get_app_of ?_;walk_at "st")
 | (refine Ws.pre_get (by assumption) ?_;walk_at "st"))
local macro_rules | `(tactic| walk_at "lim")=>`(tactic| first
 | (refine Ws.L9 ?_;(try simp only [List.length_map,List.length_append,List.length_cons,List.length_nil]);omega)
 | (refine Ws.aB7 ?_;(try simp only [List.length_map,List.length_append,List.length_cons,List.length_nil]);omega))
local macro_rules | `(tactic| walk_at "s1")=>`(tactic| first
 | with_reducible refine Ws.w_seq ?_
 | with_reducible refine Ws.w_asg ?_
 | with_reducible refine Ws.w_if ?_
 | with_reducible refine Ws.w_exp ?_
 | with_reducible refine Ws.w_retS ?_
 | with_reducible refine Ws.w_pass ?_
 | with_reducible refine Ws.w_sfld ?_
 | with_reducible refine Ws.w_tval ?_
 | with_reducible refine Ws.w_tor ?_
 | with_reducible refine Ws.w_tnot ?_
 | with_reducible refine Ws.w_bin ?_
 | with_reducible refine Ws.w_and ?_
 | with_reducible refine Ws.w_ifE ?_
 | with_reducible refine Ws.w_isN ?_
 | with_reducible refine Ws.w_cons ?_
 | with_reducible refine Ws.w_tup ?_
 | with_reducible refine Ws.w_lst ?_
 | with_reducible refine Ws.w_call ?_
 | with_reducible refine Ws.w_meth ?_
 | with_reducible refine Ws.w_make ?_
 | with_reducible refine Ws.w_fld ?_
 | with_reducible refine Ws.w_len ?_
 | with_reducible refine Ws.w_listOf ?_
 | with_reducible refine Ws.w_tupleOf ?_
 | with_reducible refine Ws.w_cut ?_
 | with_reducible refine Ws.w_lat ?_
 | with_reducible refine Ws.w_append ?_
 | with_reducible refine Ws.w_isA ?_
 | with_reducible refine Ws.w_all ?_
 | with_reducible refine Ws.w_izip ?_
 | with_reducible refine Ws.w_iseq ?_
 | with_reducible refine Ws.w_irng1 ?_
 | with_reducible refine Ws.w_irng2 ?_
 | with_reducible refine Ws.w_ienm ?_)
local macro_rules | `(tactic| walk_at "s2")=>`(tactic| first
 | ((with_reducible apply Ws.w_var);(·rfl))
 | with_reducible refine Ws.w_k ?_
 | with_reducible refine Ws.w_true ?_
 | with_reducible refine Ws.w_nil ?_
 | with_reducible refine Ws.w_gname ?_
 | with_reducible refine Ws.w_gnil ?_
 | with_reducible refine Ws.w_gcons ?_
 | ((with_reducible apply Ws.w_gtup);(·rfl))
 | with_reducible refine Ws.w_add ?_
 | ((with_reducible apply Ws.w_mod);(·omega))
 | ((with_reducible apply Ws.w_fdiv);(·omega))
 | with_reducible refine Ws.w_lt ?_
 | with_reducible refine Ws.w_eqI ?_
 | with_reducible refine Ws.w_neI ?_
 | with_reducible refine Ws.w_neB ?_
 | with_reducible refine Ws.w_lno ?_
 | ((with_reducible apply Ws.w_isTyL);(·walk_at "st"))
 | ((with_reducible apply Ws.w_isTyV);(·rfl))
 | ((with_reducible apply Ws.w_eqL0);(·walk_at "st");(·walk_at "st"))
 | ((with_reducible refine Ws.w_seqT ?_);(try dsimp only);(try rw [List.length_map]))
 | ((with_reducible apply Ws.w_seqL);(·walk_at "st");(try dsimp only);(try rw [List.length_map]))
 | ((with_reducible apply Ws.w_ixL);(·walk_at "st");(·walk_at "ix"))
 | ((with_reducible apply Ws.w_ixT);(·walk_at "ix")))
local macro_rules | `(tactic| walk_at "ix")=>`(tactic| first
 | assumption
 | rfl
 | exact Ws.atl (by omega))
local macro_rules | `(tactic| walk_at "s3")=>`(tactic| first
 | with_reducible refine Ws.brT ?_
 | with_reducible refine Ws.brF ?_
 | with_reducible refine Ws.brNT ?_
 | with_reducible refine⟨_,rfl,?_⟩
 | ((with_reducible apply Ws.exL);(·walk_at "st"))
 | ((with_reducible apply Ws.exL1);(·walk_at "st"))
 | ((with_reducible apply Ws.exO);(·walk_at "st"))
 | ((with_reducible apply Ws.exO2);(·walk_at "st"))
 | ((with_reducible apply Ws.exF);(·walk_at "st");(·rfl))
 | ((with_reducible apply Ws.exLA);(·walk_at "st"))
 | ((with_reducible apply Ws.exLC);(·walk_at "st"))
 | ((with_reducible apply Ws.exRC);(·walk_at "st"))
 | ((with_reducible refine And.intro ?h1 ?_);(case h1=>first | walk_at "lim" | omega)))
local macro_rules | `(tactic| walk_at "s")=>`(tactic| (first | walk_at "s1" | walk_at "s2" | walk_at "s3");(try dsimp only [List.set,Ws.au1]))
local macro_rules | `(tactic| walk_at "fn")=>`(tactic| (refine Ws.a50 (by rfl) ?_;simp only [Ws.start,List.map_cons,List.map_nil,List.length_cons,List.length_nil,Nat.reduceAdd,Nat.reduceSub,List.replicate,List.cons_append,List.nil_append]))
local macro_rules | `(tactic| walk_at "go")=>`(tactic| repeat walk_at "s")
namespace Ws
noncomputable def G1:Fun:=fn 1 1
 (K7 (d5 (S8 (eVar 0) .int) (aT3 (S8 (eVar 0) .bool))))
noncomputable def K1:Fun:=fn 2 2
 (K7 (d5 (L3 G1 (aCons (eVar 1) aNil)) (ae1 oLe oLt (eK (.int 0)) (eVar 1) (eVar 0))))
noncomputable def D6:Fun:=fn 1 1
 (K7 (d5 (L3 G1 (aCons (eVar 0) aNil)) (ae1 oLe oLe (eK (.int 2)) (eVar 0) (eK (.int 6)))))
noncomputable def K2:Fun:=fn 2 2
 (E6 (sIf (tOr (tNot (J2 (S8 (eVar 1) .tuple))) (J2 (I9 oNe (ai0 (eVar 1)) (eK (.int 2)))))
 (K7 (eK (.bl false)))
 sPass)
 (K7 (d5 (L3 K1 (aCons (eVar 0) (aCons (I9 oIx (eVar 1) (eK (.int 0))) aNil))) (d5 (L3 K1 (aCons (eVar 0) (aCons (I9 oIx (eVar 1) (eK (.int 1))) aNil))) (I9 oNe (I9 oIx (eVar 1) (eK (.int 0))) (I9 oIx (eVar 1) (eK (.int 1))))))))
noncomputable def L1:SD:=
 (sIf (tOr (tNot (J2 (L3 K2 (aCons (eVar 0) (aCons (eVar 3) aNil))))) (J2 (I9 oIn (eVar 3) (aw4 (eVar 1) lNo (lAt (eVar 2))))))
 (K7 (eVar 2))
 sPass)
noncomputable def G2:SD:=ai3 (aZ3 (eVar 1)) (gTup 2 (gCons (gName 2) (gCons (gName 3) gNil))) L1
noncomputable def D5:Fun:=fn 4 2
 (E6 G2
 (K7 (eK .non)))
noncomputable def G3:Fun:=fn 3 3
 (E6 (sFld (eVar 0) 6 (eVar 1))
 (E6 (sFld (eVar 0) 7 (eIf (J2 (aw3 (eVar 2))) (o0 aNil) (U4 (eVar 2))))
 (E6 (sFld (eVar 0) 11 (Y0 (ae2 (eVar 0) 7)))
 (E6 (sFld (eVar 0) 12 (eK (.int 1)))
 (E6 (sFld (eVar 0) 13 ac0)
 (E6 (sFld (eVar 0) 14 ac0)
 (sFld (eVar 0) 15 ac0)))))))
noncomputable def J6:Fun:=fn 2 2
 (sFld (eVar 0) 16 (eIf (J2 (S8 (eVar 1) .list)) (U4 (eVar 1)) (eVar 1)))
noncomputable def E4:Fun:=fn 2 2
 (sFld (eVar 0) 17 (eVar 1))
noncomputable def T9:ED:=T1 (aT4 (eVar 0) (aw4 (eVar 0) (lAt (eK (.int 1))) lNo)) (bst [none,none]) (gTup 2 (gCons (gName 0) (gCons (gName 1) gNil))) o3 (I9 oLt (eVar 0) (eVar 1))
noncomputable def L5:Fun:=fn 1 1
 (K7 (aC1 T9))
noncomputable def f_are_leaders_c1:ED:=T1 (am9 (eVar 1)) (bst [none,some 0]) (gName 0) o3 (L3 K1 (aCons (ae2 (eVar 1) 0) (aCons (eVar 0) aNil)))
noncomputable def J3:Fun:=fn 2 2
 (E6 (sIf (tOr (tNot (J2 (S8 (eVar 1) .list))) (J2 (I9 oEq (eVar 1) (o0 aNil))))
 (K7 (eK (.bl false)))
 sPass)
 (K7 (d5 (aC1 f_are_leaders_c1) (L3 L5 (aCons (eVar 1) aNil)))))
noncomputable def M5:Fun:=fn 1 1
 (K7 (d5 (L3 G1 (aCons (eVar 0) aNil)) (I9 oGe (eVar 0) (eK (.int 0)))))
noncomputable def U0:SD:=
 (E6 (sIf (tNot (J2 (L3 M5 (aCons (ao2 (eVar 3) (eVar 5)) aNil))))
 sNever
 sPass)
 (ar2 (eVar 4) (eVar 5) (aC2 (eVar 3) (eVar 5))))
noncomputable def P5:SD:=ai3 (am9 (ae2 (eVar 1) 1)) (gName 5) U0
noncomputable def J7:Fun:=fn 6 4
 (E6 (sIf (tNot (J2 (L3 J3 (aCons (eVar 1) (aCons (eVar 2) aNil)))))
 sNever
 sPass)
 (E6 (V0 ac0 (gName 4))
 (E6 P5
 (E6 (sFld (eVar 0) 3 (eVar 1))
 (E6 (sFld (eVar 0) 4 (U4 (eVar 2)))
 (E6 (sFld (eVar 0) 5 (ao3 (eVar 4)))
 (E6 (sFld (eVar 0) 9 (Y0 (eVar 2)))
 (sFld (eVar 0) 10 (eVar 4)))))))))
noncomputable def J8:Fun:=fn 4 3
 (E6 (sIf (tNot (J2 (L3 D6 (aCons (eVar 1) aNil))))
 sNever
 sPass)
 (E6 (V0 (L3 D5 (aCons (eVar 1) (aCons (eVar 2) aNil))) (gName 3))
 (E6 (sIf (J2 (aO4 (eVar 3)))
 sNever
 sPass)
 (E6 (sFld (eVar 0) 0 (eVar 1))
 (sFld (eVar 0) 1 (ar0 (eVar 2)))))))
noncomputable def E5:Fun:=fn 1 1
 (K7 (ae2 (eVar 0) 12))
noncomputable def J4:Fun:=fn 1 1
 (sFld (eVar 0) 12 (I9 aB8 (ae2 (eVar 0) 12) (eK (.int 1))))
noncomputable def J5:Fun:=fn 1 1
 (K7 (o8 (ae2 (eVar 0) 13)))
noncomputable def K3:Fun:=fn 2 2
 (K7 (o0 aNil))
noncomputable def N4:ED:=T1 (am9 (eVar 2)) (bst [none,none,some 1]) (gTup 2 (gCons (gName 0) (gCons (gName 1) gNil))) (J2 (I9 oEq (eVar 0) (S9 2 E5 (eVar 2) aNil))) (eVar 1)
noncomputable def K4:Fun:=fn 3 2
 (E6 (V0 (ae2 (eVar 0) 16) (gName 2))
 (E6 (sIf (J2 (S8 (eVar 2) .list))
 (K7 N4)
 sPass)
 sNever))
noncomputable def G4:Fun:=fn 2 2
 (E6 (sIf (J2 (I9 oLt (eVar 1) (ai0 (eVar 0))))
 (K7 (I9 oIx (eVar 0) (eVar 1)))
 sPass)
 (K7 (eK (.int 0))))
noncomputable def P6 (rec:Fun):ED:=T1 (iRng1 (ai0 (eVar 1))) (bst [none,some 0,some 1]) (gName 0) o3 (L3 rec (aCons (I9 oIx (eVar 1) (eVar 0)) (aCons (I9 oIx (eVar 2) (eVar 0)) aNil)))
noncomputable def C5 (rec:Fun):Fun:=fn 2 2
 (E6 (sIf (J2 (aw3 (eVar 1)))
 (K7 (aw3 (eVar 0)))
 sPass)
 (E6 (sIf (J2 (S8 (eVar 1) .bool))
 (K7 (d5 (S8 (eVar 0) .bool) (I9 oEq (eVar 0) (eVar 1))))
 sPass)
 (E6 (sIf (J2 (S8 (eVar 1) .int))
 (K7 (d5 (S8 (eVar 0) .int) (d5 (aT3 (S8 (eVar 0) .bool)) (I9 oEq (eVar 0) (eVar 1)))))
 sPass)
 (E6 (sIf (J2 (ae7 (eVar 1)))
 (K7 (d5 (ae7 (eVar 0)) (I9 oEq (eVar 0) (eVar 1))))
 sPass)
 (E6 (sIf (tOr (J2 (I9 oNe (S8 (eVar 1) .tuple) (S8 (eVar 0) .tuple))) (J2 (I9 oNe (S8 (eVar 1) .list) (S8 (eVar 0) .list))))
 (K7 (eK (.bl false)))
 sPass)
 (E6 (sIf (J2 (I9 oNe (ai0 (eVar 0)) (ai0 (eVar 1))))
 (K7 (eK (.bl false)))
 sPass)
 (K7 (aC1 (P6 rec)))))))))
noncomputable def Q5:Fun:=λ_=>stuck
noncomputable def V5:Fun:=C5 Q5
noncomputable def V6:Fun:=C5 V5
noncomputable def V7:Fun:=C5 V6
noncomputable def V8:Fun:=C5 V7
noncomputable def U1:Fun:=C5 V8
noncomputable def M6:Fun:=fn 2 1
 (E6 (V0 (o0 (aCons (N6 (aCons (eK (.str "lay")) (aCons (N6 (aCons (eK (.int 0)) (aCons (eK (.int 1)) aNil))) aNil))) (aCons (N6 (aCons (eK (.str "say")) (aCons (N6 (aCons (eK (.int 1)) (aCons (eK (.int 0)) aNil))) (aCons (N6 (aCons (eK (.int 0)) aNil)) aNil)))) (aCons (N6 (aCons (eK (.str "say")) (aCons (N6 (aCons (eK (.int 0)) (aCons (eK (.int 1)) aNil))) (aCons (N6 (aCons (eK (.int 1)) (aCons (eK (.int 0)) aNil))) aNil)))) (aCons (N6 (aCons (eK (.str "wait")) aNil)) (aCons (N6 (aCons (eK (.str "lay")) (aCons (N6 (aCons (eK (.int 5)) (aCons (eK (.int 5)) aNil))) aNil))) aNil)))))) (gName 1))
 (K7 (I9 oIx (eVar 1) (I9 aB9 (eVar 0) (eK (.int 5))))))
noncomputable def u9:ED:=T1 (am9 (aw4 (eVar 0) (lAt (eK (.int 1))) (lAt (eK (.int 31))))) (bst [none]) (gName 0) o3 (N6 (aCons (I9 aB8 (eK (.int 1)) (I9 aB9 (I9 aC0 (eVar 0) (eK (.int 5))) (eK (.int 9)))) (aCons (L3 M6 (aCons (eVar 0) aNil)) aNil)))
noncomputable def v0:ED:=T1 (am9 (eVar 3)) (bst [none,none,some 6]) (gTup 2 (gCons (gName 0) (gCons (gName 1) gNil))) (J2 (I9 oEq (eVar 0) (eVar 2))) (eVar 1)
noncomputable def f_law_b1:SD:=
 (E6 (V0 (S9 4 K4 (eVar 5) (aCons (eVar 2) aNil)) (gName 7))
 (E6 (V0 v0 (gName 8))
 (E6 (sIf (tOr (tNot (J2 (L3 U1 (aCons (eVar 7) (aCons (eVar 8) aNil))))) (J2 (I9 oNe (S9 3 K3 (aT5 3) (aCons (eVar 2) aNil)) (o0 aNil))))
 (K7 (eK (.bl false)))
 sPass)
 (E6 (ai2 (j9 (eVar 7) (N6 (aCons (eK (.str "lay")) (aCons (N6 (aCons (eK (.int 0)) (aCons (eK (.int 1)) aNil))) aNil)))))
 (E6 (sIf (tOr (J2 (I9 oNe (S9 2 J5 (eVar 2) aNil) (o0 aNil))) (J2 (I9 oNe (S9 2 E5 (eVar 2) aNil) (eVar 6))))
 (K7 (eK (.bl false)))
 sPass)
 (ai2 (S9 2 J4 (eVar 2) aNil)))))))
noncomputable def f_law_l1:SD:=ai3 (iRng2 (eK (.int 1)) (I9 aB8 (eK (.int 1)) (I9 aB9 (L3 G4 (aCons (eVar 0) (aCons (eK (.int 0)) aNil))) (eK (.int 12))))) (gName 6) f_law_b1
noncomputable def au3:Fun:=fn 9 1
 (E6 (V0 (V3 1 J7 (aCons (V3 0 J8 (aCons (eK (.int 2)) (aCons (o0 (aCons (N6 (aCons (eK (.int 0)) (aCons (eK (.int 1)) aNil))) (aCons (N6 (aCons (eK (.int 1)) (aCons (eK (.int 0)) aNil))) aNil))) aNil))) (aCons (o0 (aCons (eK (.int 0)) aNil)) (aCons (ae6 (N6 (aCons (eK (.int 0)) (aCons (eK (.int 1)) aNil))) (eK (.int 2)) (N6 (aCons (eK (.int 1)) (aCons (eK (.int 0)) aNil))) (eK (.int 2))) aNil)))) (gName 1))
 (E6 (V0 (V3 2 G3 (aCons (eVar 1) (aCons (o0 (aCons (eK (.int 0)) (aCons (eK (.int 1)) aNil))) aNil))) (gName 2))
 (E6 (V0 u9 (gName 3))
 (E6 (V0 (U4 (eVar 3)) (gName 4))
 (E6 (V0 (V3 4 J6 (aCons (eVar 4) aNil)) (gName 5))
 (E6 (ai2 (j9 (eVar 4) (N6 (aCons (eK (.int 1)) (aCons (N6 (aCons (eK (.str "lay")) (aCons (N6 (aCons (eK (.int 1)) (aCons (eK (.int 0)) aNil))) aNil))) aNil)))))
 (E6 (sIf (tOr (tNot (J2 (aw6 [3,4,5] (eVar 5) 3))) (tOr (tNot (J2 (aw6 [3,4,5] (V3 5 E4 (aCons (eK (.int 0)) aNil)) 3))) (J2 (aw6 [3,4,5] (eVar 5) 5))))
 (K7 (eK (.bl false)))
 sPass)
 (E6 (sIf (tOr (J2 (aw6 [3,4,5] (V3 5 E4 (aCons (eK (.int 1)) aNil)) 4)) (J2 (I9 oNe (aw4 (eVar 4) lNo (lAt (eK (.int (-1))))) (eVar 3))))
 (K7 (eK (.bl false)))
 sPass)
 (E6 f_law_l1
 (K7 (eK (.bl true))))))))))))
end Ws
namespace Ws
@[simp] theorem aP2 (i:Int) (A:PHp):G1 [.int i] A=.ok (.bl true) A:=by simp [G1]
theorem is_hand_eq (n h:Int) (A:PHp):K1 [.int n,.int h] A=.ok (.bl (decide (0<=h/\h<n))) A:=by
 by_cases h0:0<=h <;> simp [K1,h0]
theorem ag0 (n:Int) (A:PHp):D6 [.int n] A=.ok (.bl (decide (2<=n/\n<=6))) A:=by
 by_cases h0:2<=n <;> simp [D6,h0]
noncomputable def good (n:Int) (p:Int×Int):Prop:=(0<=p.1/\p.1<n)/\(0<=p.2/\p.2<n)/\p.1≠p.2
noncomputable instance (n:Int) (p:Int×Int):Decidable (good n p):=by unfold good;infer_instance
theorem aa3 (n:Int) (p:Int×Int) (A:PHp):K2 [.int n,pv p] A=.ok (.bl (decide (good n p))) A:=by
 by_cases h0:0<=p.1/\p.1<n <;> by_cases h1:0<=p.2/\p.2<n <;> simp [K2,pv,good,atI,ixN,plain,eqv,is_hand_eq,h0,h1]
structure U2 (n:Int) (ps:List (Int×Int)):Prop where
 lo:2<=n
 hi:n<=6
 good:∀p∈ps,good n p
 nd:ps.Nodup
 len:ps.length<64
theorem aW3 {α:Type} (xs:List α) (i:Nat):cut xs none (some (i:Int))=xs.take i:=by
 unfold cut M8
 simp only [List.drop_zero,Nat.sub_zero]
 rw [if_neg (by omega)]
 rw [show (min (i:Int) (xs.length:Int)).toNat=min i xs.length by omega,List.take_eq_take_iff]
 omega
theorem v6 {n:Int} {ps:List (Int×Int)} (W:U2 n ps) {A:PHp} {r:Nat} (hr:A[r]?=some (.lst (pvs ps))) :
 ∃A',D5 [.int n,.ref r] A=.ok .non A'/\A<+:A':=by
 have hl:Comes (G2 [some (.int n),some (.ref r),none,none] A) (λσ A'=>A<+:A') (λ_ _=>False):=by
  unfold G2
  refine (aK1 (l:=pvs ps) (a:=r) (A1:=A) (by simp [hr]) (λi σ A'=>A<+:A'/\∃x y,σ=[some (.int n),some (.ref r),x,y]) (λ_ _=>False) ⟨List.prefix_refl _,_,_,rfl⟩ ?_ ?_).mono (λ_ _ h=>h.1) (λ_ _ h=>h)
  ·rintro i σ A' ⟨hp,_⟩
   simp [pre_get hp hr]
  ·rintro i v σ A' hv ⟨hp,x,y,rfl⟩
   have hr':=pre_get hp hr
   obtain⟨p,hp1,rfl⟩:∃p,ps[i]?=some p/\v=pv p:=by
    simp only [pvs,List.getElem?_map] at hv
    cases e:ps[i]? with
    | none=>rw [e] at hv;cases hv
    | some p=>rw [e] at hv;exact⟨p,rfl,(Option.some.inj hv).symm⟩
   have hmem:p∈ps:=List.mem_of_getElem? hp1
   have hg:=W.good p hmem
   have hnin:p∉ps.take i:=by
    intro hm
    have hlt:=(List.getElem?_eq_some_iff.mp hp1).1
    obtain⟨j,hj,e⟩:=List.mem_iff_getElem.mp hm
    rw [List.length_take] at hj
    rw [List.getElem_take] at e
    have e2:ps[i]=p:=(List.getElem?_eq_some_iff.mp hp1).2
    exact List.pairwise_iff_getElem.mp W.nd j i (by omega) hlt (by omega) (e.trans e2.symm)
   have hc:cut (pvs ps) none (some (i:Int))=pvs (ps.take i):=by rw [aW3];simp [pvs,List.map_take]
   refine Turns.nx (σ:=[some (.int n),some (.ref r),some (.int i),some (pv p)]) (A:=A'++[.lst (pvs (ps.take i))]) ?_ ⟨Q0 hp,_,_,rfl⟩
   simp [L1,aa3,hg,hr',hc,aG3,ay6,aN0,hnin]
 obtain⟨σ,A',e,h⟩:=hl.end
 refine⟨A',?_,h⟩
 simp [D5,e]
noncomputable def l2 (p:Int×Int):List Int:=[p.1,p.2]
noncomputable def ltP (p q:Int×Int):Bool:=D8 (l2 p) (l2 q)
noncomputable def srt (ps:List (Int×Int)):List (Int×Int):=D9 ltP ps
theorem ad0 {α β:Type} (f:α->β) (lt:β->β->Bool) (a:α):∀l:List α,V2 lt (f a) (l.map f)=(V2 (λx y=>lt (f x) (f y)) a l).map f
 | []=>rfl
 | b::r=>by
   have ih:=ad0 f lt a r
   simp only [List.map_cons,V2]
   split
   ·rw [ih];rfl
   ·rfl
theorem v7 {α β:Type} (f:α->β) (lt:β->β->Bool):∀l:List α,D9 lt (l.map f)=(D9 (λx y=>lt (f x) (f y)) l).map f
 | []=>rfl
 | a::r=>by
   simp only [List.map_cons,D9]
   rw [v7 f lt r,ad0]
theorem aG5 (ps:List (Int×Int)):pvs ps=(ps.map l2).map λt=>PV.tup (t.map .int):=by
 simp [pvs,pv,l2]
theorem ap6 {ps:List (Int×Int)} {A:PHp} (h:ps.length<64):X8 (pvs ps) A=.ok (pvs (srt ps)) A:=by
 rw [aG5,ae4 (by simpa using h) (by intro t ht;obtain⟨p,_,rfl⟩:=List.mem_map.mp ht;simp [l2]),v7,aG5]
 rfl
theorem Z8 (ps:List (Int×Int)):(srt ps).Perm ps:=L4 _ _
structure WebAt (A:PHp) (w r:Nat) (n:Int) (ps:List (Int×Int)):Prop where
 ob:A[w]?=some (.ins 0 [(0,.int n),(1,.ref r)])
 ls:A[r]?=some (.lst (pvs (srt ps)))
theorem WebAt.mono {A B:PHp} {w r:Nat} {n:Int} {ps:List (Int×Int)} (h:WebAt A w r n ps) (e:A<+:B):WebAt B w r n ps:=⟨pre_get e h.ob,pre_get e h.ls⟩
theorem aG6 {n:Int} {ps:List (Int×Int)} (W:U2 n ps) {A B:PHp} {w q:Nat} (hA:A<+:B) (hw:A.length<=w) (ho:B[w]?=some (.ins 0 [])) (hq:B[q]?=some (.lst (pvs ps))) :
 ∃B' r,J8 [.ref w,.int n,.ref q] B=.ok .non B'/\A<+:B'/\WebAt B' w r n ps/\w<r:=by
 obtain⟨B1,e1,h1⟩:=v6 W hq
 have ho1:=pre_get h1 ho
 have hq1:=pre_get h1 hq
 have hwl:=L7 ho1
 have nqw:q≠w:=by rintro rfl;rw [hq] at ho;cases ho
 have hq2:(B1.set w (.ins 0 [(0,.int n)]))[q]?=some (.lst (pvs ps)):=by rw [get_set_ne nqw];exact hq1
 have ho2:(B1.set w (.ins 0 [(0,.int n)]))[w]?=some (.ins 0 [(0,.int n)]):=get_set ho1
 have ho3:=get_app_of (o:=PO.lst (pvs (srt ps))) ho2
 refine⟨((B1.set w (PO.ins 0 [(0,.int n)]))++[PO.lst (pvs (srt ps))]).set w (PO.ins 0 [(0,.int n),(1,.ref B1.length)]),B1.length,?_,?_,⟨get_set ho3,?_⟩,hwl⟩
 ·simp [J8,ag0,W.lo,W.hi,e1,ho1,ho2,hq2,ho3,ap6 W.len]
 ·exact m3 (Q0 (m3 (hA.trans h1) hw)) hw
 ·rw [get_set_ne (Nat.ne_of_gt hwl)]
  have:=get_app (A:=B1.set w (.ins 0 [(0,.int n)])) (o:=.lst (pvs (srt ps)))
  rwa [List.length_set] at this
theorem aG7 {n:Int} {ps:List (Int×Int)} (W:U2 n ps) {A:PHp} {q:Nat} (hq:A[q]?=some (.lst (pvs ps))) :
 ∃A' r,J8 [.ref A.length,.int n,.ref q] (A++[.ins 0 []])=.ok .non A'/\A<+:A'/\WebAt A' A.length r n ps/\A.length<r:=
 aG6 W (List.prefix_append _ _) (Nat.le_refl _) get_app (get_app_of hq)
end Ws
namespace Ws
theorem aN3 {A:PHp} {a:Nat} {ns:List Int} (h:A[a]?=some (.ro (ns.map .int))) (k:Nat):∃c,G4 [.ref a,.int k] A=.ok (.int c) A:=by
 by_cases hk:k<ns.length
 ·refine⟨ns[k],?_⟩
  have hk':(k:Int)<(ns.length:Int):=by omega
  simp [G4,h,hk',hk,atI,ixN]
 ·refine⟨0,?_⟩
  have hk':¬(k:Int)<(ns.length:Int):=by omega
  simp [G4,h,hk',hk]
theorem aW4 {α:Type} {xs:List α} {j:Nat} (h:j<xs.length):atI xs (j:Int)=some xs[j]:=by
 unfold atI ixN
 rw [if_pos (by omega),if_pos (by omega)]
 simp [h]
theorem au4 {e1 e2:ED} {σ:PSt} {A A1 A2:PHp} {u v:PV} (h1:e1 σ A=.ok u A1) (h2:e2 σ A1=.ok v A2):N6 (aCons e1 (aCons e2 aNil)) σ A=.ok (.tup [u,v]) A2:=by
 have h:aCons e1 (aCons e2 aNil) σ A=.ok [u,v] A2:=by
  show bnd (e1 σ) _ A=_
  rw [bnd_ok h1]
  have h3:aCons e2 aNil σ A1=.ok [v] A2:=by
   show bnd (e2 σ) _ A1=_
   rw [bnd_ok h2];rfl
  show bnd (aCons e2 aNil σ) _ A1=_
  rw [bnd_ok h3];rfl
 show bnd (aCons e1 (aCons e2 aNil) σ) _ A=_
 rw [bnd_ok h,U3 (by simp)];rfl
theorem aG8 {α:Type} (xs:List α) (i:Nat):cut xs (some (i:Int)) none=xs.drop i:=by
 unfold cut M8
 simp only
 rw [if_neg (by omega)]
 rw [show (min (i:Int) (xs.length:Int)).toNat=min i xs.length by omega]
 by_cases h:i<=xs.length
 ·rw [Nat.min_eq_left h,List.take_of_length_le (by simp)]
 ·rw [Nat.min_eq_right (by omega),List.drop_length,List.drop_eq_nil_of_le (by omega)];simp
end Ws
namespace Ws
end Ws
namespace Ws
end Ws
namespace Ws
section
variable {A:PHp} {Q:PV->PHp->Prop} {E:XP} {σ:PSt} {i j:Int} {n k:Nat} {e e1 e2 e3 e4:ED}
noncomputable abbrev DT:=List (List Int×PV)
variable {m:DT}
theorem v8 {QM:DT->PHp->Prop} (h:A[n]?=some (.dT m)) (q:QM m A):Wp (P0 n) A QM E:=w_eq (a:=m) (by unfold P0;rw [h]) q
theorem w_tnew (q:Q (.ref A.length) (A++[.dT []])):Wp (ac0 σ) A Q E:=q
theorem w_tget (h:Wp (e1 σ) A (λx A1=>Wp (e2 σ) A1 (λk A2=>∃n i m v,x=.ref n/\N2 k=some i/\A2[n]?=some (.dT m)/\R7 m i=some v/\Q v A2) E) E):Wp (aC2 e1 e2 σ) A Q E:=
 C0 (w_mono h λx A1 h1=>C0 (w_mono h1 λk A2 ⟨n,i,m,v,hx,hk,hn,hv,q⟩=>by subst hx;rw [hk];exact C0 (v8 hn (by rw [hv];exact q))))
theorem w_tget1 (h:Wp (e1 σ) A (λx A1=>∃n m0,x=.ref n/\A1[n]?=some (.dT m0)/\Wp (e2 σ) A1 (λk A2=>∃i m,N2 k=some i/\A2[n]?=some (.dT m)/\Q ((R7 m i).getD .non) A2) E) E):Wp (ao2 e1 e2 σ) A Q E:=
 C0 (w_mono h λx A1 ⟨n,m0,hx,h0,h1⟩=>by
  subst hx
  exact C0 (v8 h0 (C0 (w_mono h1 λk A2 ⟨i,m,hk,hn,q⟩=>by rw [hk];exact C0 (v8 hn q)))))
theorem w_tput {QF:Fl->PHp->Prop} (h:Wp (e3 σ) A (λv A1=>Wp (e1 σ) A1 (λx A2=>Wp (e2 σ) A2 (λk A3=>∃n i m,x=.ref n/\N2 k=some i/\A3[n]?=some (.dT m)/\m.length<LIM/\QF (.nx σ) (A3.set n (.dT (V1 m i v)))) E) E) E):Wp (ar2 e1 e2 e3 σ) A QF E:=
 C0 (w_mono h λv A1 h1=>C0 (w_mono h1 λx A2 h2=>C0 (w_mono h2 λk A3 ⟨n,i,m,hx,hk,hn,hm,q⟩=>by
  subst hx;rw [hk]
  exact C0 (v8 hn (D7 hm (C0 (w_eq (a:=()) rfl q)))))))
theorem w_tcopy (h:Wp (e σ) A (λx A1=>∃n m,x=.ref n/\A1[n]?=some (.dT m)/\((m.map (·.1)).Nodup/\∀p∈m,p.1∈small)/\Q (.ref A1.length) (A1++[.dT m])) E):Wp (ao3 e σ) A Q E:=
 C0 (w_mono h λx A1 ⟨n,m,hx,h0,h1,q⟩=>by subst hx;exact C0 (v8 h0 (D7 h1 q)))
theorem w_tdisp2 {k1 k2:List Int} {x1 x2 v1 v2:PV} (h1:∀B,e1 σ B=.ok x1 B) (h2:∀B,e2 σ B=.ok v1 B) (h3:∀B,e3 σ B=.ok x2 B) (h4:∀B,e4 σ B=.ok v2 B) (g1:N2 x1=some k1) (g2:N2 x2=some k2)
 (q:Q (.ref A.length) (A++[.dT (V1 (V1 [] k1 v1) k2 v2)])):Wp (ae6 e1 e2 e3 e4 σ) A Q E:=by
 refine C0 (w_eq (a:=.ref A.length) (A':=A++[.dT []]) rfl (C0 (w_eq (h1 _) (C0 (w_eq (h2 _) (C0 (w_eq (h3 _) (C0 (w_eq (h4 _) ?_)))))))))
 rw [g1,g2]
 refine C0 (v8 get_app ?_)
 refine C0 (w_eq (a:=()) rfl ?_)
 rw [ai4]
 exact q
theorem w_eqS {x y:PySem.Str} (q:Q (.bl (decide (x=y))) A):Wp (oEq (.str x) (.str y)) A Q E:=a22 rfl rfl q
theorem w_isStr (h:Wp (e σ) A (λx A1=>Wp (o7 x) A1 (λb A2=>Q (.bl b) A2) E) E):Wp (ae7 e σ) A Q E:=C0 (w_mono h λ_ _ h1=>C0 h1)
end
theorem aN4 {m:DT} {i:List Int} {v:PV} (h:i∉m.map (·.1)):V1 m i v=m++[(i,v)]:=by
 unfold V1
 rw [if_neg]
 rw [List.any_eq_true]
 rintro⟨p,hp,hd⟩
 exact h (List.mem_map.mpr ⟨p,hp,by simpa using hd⟩)
section
variable {A:PHp} {E:XP} {n:Nat} {l:List PV} {m:DT}
theorem w_isStrV {QB:Bool->PHp->Prop} {x:PV} {b:Bool} (h:o7 x A=.ok b A) (q:QB b A):Wp (o7 x) A QB E:=w_eq h q
theorem w_isStrL {QB:Bool->PHp->Prop} (h:A[n]?=some (.lst l)) (q:QB false A):Wp (o7 (.ref n)) A QB E:=C0 (u7 h q)
theorem w_isTyI {QB:Bool->PHp->Prop} (h:A[n]?=some (.lst l)) (q:QB false A):Wp (ai1 .int (.ref n)) A QB E:=C0 (u7 h q)
theorem w_isTyB {QB:Bool->PHp->Prop} (h:A[n]?=some (.lst l)) (q:QB false A):Wp (ai1 .bool (.ref n)) A QB E:=C0 (u7 h q)
theorem w_isTyT {QB:Bool->PHp->Prop} (h:A[n]?=some (.lst l)) (q:QB false A):Wp (ai1 .tuple (.ref n)) A QB E:=C0 (u7 h q)
theorem exD1 {R:Nat->DT->Prop} (h:A[n]?=some (.dT m)) (q:R n m):∃n' m',PV.ref n=.ref n'/\A[n']?=some (.dT m')/\R n' m':=⟨n,m,rfl,h,q⟩
theorem exD2 {k:PV} {i:List Int} {R:List Int->DT->Prop} (hk:N2 k=some i) (h:A[n]?=some (.dT m)) (q:R i m):∃i' m',N2 k=some i'/\A[n]?=some (.dT m')/\R i' m':=⟨i,m,hk,h,q⟩
theorem exD3 {k:PV} {i:List Int} {R:Nat->List Int->DT->Prop} (hk:N2 k=some i) (h:A[n]?=some (.dT m)) (q:R n i m):∃n' i' m',PV.ref n=.ref n'/\N2 k=some i'/\A[n']?=some (.dT m')/\R n' i' m':=⟨n,i,m,rfl,hk,h,q⟩
theorem exD4 {k:PV} {i:List Int} {v:PV} {R:PV->Prop} (hk:N2 k=some i) (h:A[n]?=some (.dT m)) (hv:R7 m i=some v) (q:R v):∃n' i' m' v',PV.ref n=.ref n'/\N2 k=some i'/\A[n']?=some (.dT m')/\R7 m' i'=some v'/\R v':=⟨n,i,m,v,rfl,hk,h,hv,q⟩
theorem get_appL {o:PO} {k:Nat} (h:A.length=k):(A++[o])[k]?=some o:=by subst h;exact get_app
theorem brC {c:Bool} {P R:Prop} (h:c=false) (q:R):(c=true->P)/\(c=false->R):=⟨λz=>(by rw [h] at z;cases z),λ_=>q⟩
end
end Ws
local macro_rules | `(tactic| walk_at "s1")=>`(tactic| first
 | with_reducible refine Ws.w_isV ?_)
local macro_rules | `(tactic| walk_at "s3")=>`(tactic| ((with_reducible apply Ws.exX);(·walk_at "st");(·decide)))
local macro_rules | `(tactic| walk_at "s1")=>`(tactic| first
 | with_reducible refine Ws.w_isStr ?_
 | with_reducible refine Ws.w_tget ?_
 | with_reducible refine Ws.w_tget1 ?_
 | with_reducible refine Ws.w_tput ?_
 | with_reducible refine Ws.w_tcopy ?_
 | with_reducible refine Ws.w_raise ?_)
local macro_rules | `(tactic| walk_at "s2")=>`(tactic| first
 | with_reducible refine Ws.w_tnew ?_
 | with_reducible refine Ws.w_eqS ?_
 | ((with_reducible apply Ws.w_isStrL);(·walk_at "st"))
 | ((with_reducible apply Ws.w_isStrV);(·rfl))
 | ((with_reducible apply Ws.w_isTyI);(·walk_at "st"))
 | ((with_reducible apply Ws.w_isTyB);(·walk_at "st"))
 | ((with_reducible apply Ws.w_isTyT);(·walk_at "st")))
local macro_rules | `(tactic| walk_at "s3")=>`(tactic| first
 | ((with_reducible apply Ws.exD1);(·walk_at "st"))
 | ((with_reducible apply Ws.exD2);(·rfl);(·walk_at "st"))
 | ((with_reducible apply Ws.exD3);(·rfl);(·walk_at "st"))
 | ((with_reducible apply Ws.exD4);(·rfl);(·walk_at "st");(·first | assumption | rfl)))
local macro_rules | `(tactic| walk_at "pre")=>`(tactic| first
 | assumption
 | exact List.prefix_refl _
 | (refine Ws.Q0 ?_;walk_at "pre")
 | ((refine Ws.m3 ?pp ?nn);(case nn=>walk_at "ne");(case pp=>walk_at "pre"))
 | (refine List.IsPrefix.trans (by assumption) ?_;walk_at "pre"))
local macro_rules | `(tactic| walk_at "s3")=>`(tactic| ((with_reducible refine And.intro (a:=List.IsPrefix _ _) ?h1 ?_);(case h1=>walk_at "pre")))
local macro_rules | `(tactic| walk_at "s3")=>`(tactic| ((with_reducible refine And.intro (a:=_<900) ?h1 ?_);(case h1=>((simp only [List.length_cons,List.length_nil,Ws.putFld,Nat.reduceEqDiff,if_false]);(try omega)))))
local macro_rules | `(tactic| walk_at "ne")=>`(tactic| first
 | assumption
 | omega
 | ((simp only [List.length_set,List.length_append,List.length_cons,List.length_nil]);omega))
local macro_rules | `(tactic| walk_at "st")=>`(tactic| first
 | ((with_reducible refine Ws.get_appL ?_);(first | rfl | ((simp only [List.length_set,List.length_append,List.length_cons,List.length_nil]);done) | ((simp only [List.length_set,List.length_append,List.length_cons,List.length_nil]);omega)))
 | ((with_reducible apply Ws.get_set);walk_at "st")
 | ((with_reducible apply Ws.get_app_of);walk_at "st")
 | ((refine (Ws.get_set_ne ?ne).trans ?_);(case ne=>walk_at "ne");walk_at "st"))
local macro_rules | `(tactic| walk_at "br")=>`(tactic| first
 | ((with_reducible refine Ws.brC ?_ ?_);(·first | rfl | (simp;done) | decide))
 | ((with_reducible refine Ws.brD ?_ ?_);(·first | rfl | (simp;done) | decide)))
local macro_rules | `(tactic| walk_at "gb")=>`(tactic| repeat (first | walk_at "s" | walk_at "br"))
namespace Ws
section
theorem ak7 {α β:Type} (f:α->β) (xs:List α) (lo hi:Option Int):cut (xs.map f) lo hi=(cut xs lo hi).map f:=by
 unfold cut
 rw [List.length_map,List.map_take,List.map_drop]
end
noncomputable def v9:List Int->Bool
 | a::b::r=>decide (a<b)&&v9 (b::r)
 | _=>true
noncomputable def w4 (n:Int) (L:List Int):Bool:=!decide (L=[])&&(L.all λh=>decide (0<=h/\h<n))&&v9 L
theorem w5:∀L:List Int,(((W9 (L.map .int) ((L.drop 1).map .int)).map λv=>decide (aN1 v<aN2 v)).all id)=v9 L
 | []=>rfl
 | [a]=>rfl
 | a::b::r=>by
   have ih:=w5 (b::r)
   show (decide (a<b)&&_)=_
   rw [v9,←ih];rfl
theorem aG9 {L M:List Int} {v:PV} (h:v∈W9 (L.map .int) (M.map .int)):∃a b:Int,v=.tup [.int a,.int b]:=by
 induction L generalizing M with
 | nil=>cases h
 | cons a r ih=>
   cases M with
   | nil=>cases h
   | cons b s=>
     rcases List.mem_cons.mp h with z | z
     ·exact⟨a,b,z⟩
     ·exact ih z
theorem is_rising_ok {A:PHp} {l:Nat} {L:List Int} (hl:A[l]?=some (.lst (L.map .int))) (hL:L.length<=1000):Wp (L5 [.ref l]) A (λv A'=>A<+:A'/\v=.bl (v9 L)) NoX:=by
 unfold L5
 walk_at "fn"
 walk_at "go"
 unfold T9
 refine m7 (l:=W9 (L.map .int) ((L.drop 1).map .int)) (λσ=>∃x y,σ=[x,y]) (λ_=>true) (λv=>.bl (decide (aN1 v<aN2 v))) ?_
 walk_at "go"
 have hc:cut (L.map PV.int) (some 1) none=(L.drop 1).map .int:=by rw [ak7];exact congrArg _ (aG8 L 1)
 rw [hc]
 have hl1:(A++[PO.lst ((L.drop 1).map .int)])[l]?=some (.lst (L.map .int)):=get_app_of hl
 have hzl:=ak6 (L.map .int) ((L.drop 1).map .int)
 rw [List.length_map] at hzl
 walk_at "go"
 refine⟨L.length,?_,hzl,L9 (by omega),⟨_,_,rfl⟩,λi=>ay5 hl1 get_app i,?_,?_⟩
 ·show bnd (D3 l) _ _=_
  rw [bnd_ok (K0 hl1)];simp
 ·rintro v σ hv ⟨x,y,rfl⟩
  obtain⟨a,b,rfl⟩:=aG9 hv
  walk_at "go"
  refine⟨rfl,⟨_,_,rfl⟩,?_⟩
  walk_at "go"
  refine⟨rfl,rfl,λ_=>?_⟩
  walk_at "go"
  exact⟨rfl,rfl⟩
 ·refine⟨_,(W9 (L.map .int) ((L.drop 1).map .int)).map λv=>decide (aN1 v<aN2 v),rfl,?_,?_⟩
  ·rw [get_app,List.filter_eq_self.mpr (by simp),List.map_map];rfl
  ·rw [w5];exact⟨Q0 (List.prefix_append _ _),rfl⟩
theorem are_leaders_ok {A:PHp} {w r l:Nat} {n:Int} {ps:List (Int×Int)} (W:WebAt A w r n ps) {L:List Int} (hl:A[l]?=some (.lst (L.map .int))) (hL:L.length<=1000):Wp (J3 [.ref w,.ref l]) A (λv A'=>A<+:A'/\v=.bl (w4 n L)) NoX:=by
 unfold J3
 walk_at "fn"
 walk_at "gb"
 refine⟨λh1=>?_,λh1=>?_⟩
 ·walk_at "go"
  have:L=[]:=of_decide_eq_true h1
  simp [w4,this]
 have hne:L≠[]:=of_decide_eq_false h1
 walk_at "go"
 unfold f_are_leaders_c1
 have W1:=W.mono (List.prefix_append A [PO.lst []])
 have hob:=W1.ob
 have hl1:(A++[PO.lst []])[l]?=some (.lst (L.map .int)):=get_app_of hl
 refine m7 (l:=L.map .int) (λσ=>∃x,σ=[x,some (.ref w)]) (λ_=>true) (λv=>match v with | .int h=>.bl (decide (0<=h/\h<n)) | _=>.non) ?_
 walk_at "go"
 refine⟨L.length,by rw [Z6 hl1];simp,by simp,by simp;exact L9 (by omega),⟨_,rfl⟩,λi=>Z7 hl1 i,?_,?_⟩
 ·rintro v σ hv ⟨x,rfl⟩
  obtain⟨h,hh,rfl⟩:=List.mem_map.mp hv
  walk_at "go"
  refine⟨rfl,⟨_,rfl⟩,?_⟩
  walk_at "go"
  refine⟨rfl,rfl,λ_=>?_⟩
  walk_at "go"
  exact w_eq (is_hand_eq _ _ _) ⟨rfl,rfl⟩
 ·refine⟨_,L.map λh=>decide (0<=h/\h<n),rfl,?_,?_⟩
  ·rw [get_app,List.filter_eq_self.mpr (by simp),List.map_map,List.map_map];rfl
  ·refine⟨_,rfl,λh2=>?_,λh2=>?_⟩
   ·walk_at "go"
    refine w_mono (is_rising_ok (get_app_of hl1) hL) λv A1 ⟨h3,h4⟩=>⟨(Q0 (List.prefix_append _ _)).trans h3,?_⟩
    rw [h4]
    have:(L.all λh=>decide (0<=h/\h<n))=true:=by rw [List.all_map] at h2;exact h2
    simp only [w4,this,hne];simp
   ·refine⟨Q0 (List.prefix_append _ _),?_⟩
    have:(L.all λh=>decide (0<=h/\h<n))=false:=by rw [List.all_map] at h2;exact h2
    simp only [w4,this];simp
end Ws
namespace Ws
theorem ay8 {a b:Int} (ha:0<=a/\a<10) (hb:0<=b/\b<10):[a,b]∈small:=by
 unfold small
 rw [List.mem_flatten]
 refine⟨_,List.mem_map.mpr ⟨a.toNat,List.mem_range.mpr (by omega),rfl⟩,List.mem_map.mpr ⟨b.toNat,List.mem_range.mpr (by omega),?_⟩⟩
 rw [Int.toNat_of_nonneg ha.1,Int.toNat_of_nonneg hb.1]
theorem aH0 {p q:Int×Int} (h:l2 p=l2 q):p=q:=by
 obtain⟨a,b⟩:=p;obtain⟨c,d⟩:=q
 simp [l2] at h;simp [h]
noncomputable def limOf (m:DT) (p:Int×Int):Int:=match R7 m (l2 p) with
 | some (.int z)=>z
 | _=>0
noncomputable def limD (qs:List (Int×Int)) (f:Int×Int->Int):DT:=qs.map λp=>(l2 p,PV.int (f p))
theorem ad1 (qs:List (Int×Int)) (f:Int×Int->Int):(limD qs f).map (·.1)=qs.map l2:=by unfold limD;rw [List.map_map];rfl
theorem aN5 {qs:List (Int×Int)} {f:Int×Int->Int} (h:qs.Nodup):((limD qs f).map (·.1)).Nodup:=by
 rw [ad1]
 exact List.Pairwise.map _ (λa b hab z=>hab (aH0 z)) h
theorem ap7 {qs:List (Int×Int)} {f:Int×Int->Int} {n:Int} (hn:n<=6) (hg:∀p∈qs,good n p):∀p∈limD qs f,p.1∈small:=λp hp=>by
 obtain⟨q,hq,rfl⟩:=List.mem_map.mp hp
 have:=hg q hq
 exact ay8 ⟨this.1.1,by have:=this.1.2;omega⟩ ⟨this.2.1.1,by have:=this.2.1.2;omega⟩
theorem aH1 {qs:List (Int×Int)} {f:Int×Int->Int} {p:Int×Int} (hp:p∉qs):V1 (limD qs f) (l2 p) (.int (f p))=limD (qs++[p]) f:=by
 rw [aN4]
 ·simp [limD]
 ·rw [ad1];intro z
  obtain⟨q,hq,e⟩:=List.mem_map.mp z
  rw [←aH0 e] at hp;exact hp hq
structure aW5 (A:PHp) (P w r:Nat) (n:Int) (ps:List (Int×Int)) (L:List Int) (f:Int×Int->Int) (ll dl dk:Nat):Prop where
 web:WebAt A w r n ps
 ob:A[P]?=some (.ins 1 [(3,.ref w),(4,.ref ll),(5,.ref dl),(9,.tup (L.map .int)),(10,.ref dk)])
 ls:A[ll]?=some (.lst (L.map .int))
 ld:A[dl]?=some (.dT (limD (srt ps) f))
 lk:A[dk]?=some (.dT (limD (srt ps) f))
theorem ay9 {z:Int} (h:0<=z) (A:PHp):M5 [.int z] A=.ok (.bl true) A:=by simp [M5,h]
section
variable {A:PHp} {w r l d:Nat} {n:Int} {ps:List (Int×Int)} {L:List Int} {m:DT}
theorem aH2 (h:ps.Nodup):(srt ps).Nodup:=(Z8 ps).nodup_iff.mpr h
theorem plan_l1 {B:PHp} {P k:Nat} (W:WebAt A w r n ps) (hd:A[d]?=some (.dT m)) (hnd:ps.Nodup) (hlen:ps.length<64) (hm:∀p∈ps,∃z,0<=z/\R7 m (l2 p)=some (.int z))
 (pB:A<+:B) (hk:A.length<=k) (hB:B[k]?=some (.dT [])) (hPk:P≠k) {po:PO} (hP:B[P]?=some po) :
 Wp (P5 [some (.ref P),some (.ref w),some (.ref l),some (.ref d),some (.ref k),none]) B (λo B'=>(∃x,o=.nx [some (.ref P),some (.ref w),some (.ref l),some (.ref d),some (.ref k),x])/\A<+:B'/\B'[P]?=some po/\B'.length=B.length/\B'[k]?=some (.dT (limD (srt ps) (limOf m)))) NoX:=by
 unfold P5
 have hs:∀p∈srt ps,p∈ps:=λp hp=>(Z8 ps).mem_iff.mp hp
 refine aW1 (λi σ B'=>(∃x,σ=[some (.ref P),some (.ref w),some (.ref l),some (.ref d),some (.ref k),x])/\A<+:B'/\B'[P]?=some po/\B'.length=B.length/\B'[k]?=some (.dT (limD ((srt ps).take i) (limOf m)))) ?_
 have WB:=W.mono pB
 have hwo:=WB.ob
 have hwl:=WB.ls
 walk_at "go"
 refine⟨r,pvs (srt ps),rfl,⟨⟨_,rfl⟩,pB,hP,rfl,hB⟩,λi σ B' ⟨_,h,_⟩=>K0 (W.mono h).ls,?_,?_⟩
 ·rintro i v σ B1 hv ⟨⟨x,rfl⟩,p1,hP1,hl1,hk1⟩
  simp only [pvs,List.getElem?_map] at hv
  cases hp:(srt ps)[i]? with
  | none=>rw [hp] at hv;cases hv
  | some p=>
    rw [hp] at hv;cases hv
    have hmem:p∈srt ps:=List.mem_of_getElem? hp
    have hd1:=pre_get p1 hd
    have hkey:N2 (pv p)=some (l2 p):=rfl
    have tk:(srt ps).take (i+1)=(srt ps).take i++[p]:=by rw [List.take_succ,hp];rfl
    unfold U0
    walk_at "go"
    obtain⟨z,hz,h0⟩:=hm p (hs p hmem)
    have h0':R7 m [p.1,p.2]=some (.int z):=h0
    rw [h0']
    refine w_eq (ay9 hz _) ?_
    walk_at "gb"
    have hnin:p∉(srt ps).take i:=by
     intro hm'
     have hlt:=(List.getElem?_eq_some_iff.mp hp).1
     obtain⟨j,hj,e⟩:=List.mem_iff_getElem.mp hm'
     rw [List.length_take] at hj
     rw [List.getElem_take] at e
     have e2:(srt ps)[i]=p:=(List.getElem?_eq_some_iff.mp hp).2
     exact List.pairwise_iff_getElem.mp (aH2 hnd) j i (by omega) hlt (by omega) (e.trans e2.symm)
    have hval:limOf m p=z:=by unfold limOf;rw [h0]
    refine⟨?_,?_⟩
    ·refine aB7 ?_
     rw [limD,List.length_map,List.length_take]
     have:=(Z8 ps).length_eq;omega
    ·refine⟨⟨_,rfl⟩,m3 p1 hk,by rw [get_set_ne hPk];exact hP1,by simpa using hl1,?_⟩
     rw [get_set hk1,tk,←aH1 hnin,hval];rfl
 ·rintro σ B1 ⟨⟨x,rfl⟩,p1,hP1,hl1,hk1⟩
  rw [pvs,List.length_map,List.take_length] at hk1
  exact⟨⟨x,rfl⟩,p1,hP1,hl1,hk1⟩
theorem az0 (W:WebAt A w r n ps) (hl:A[l]?=some (.lst (L.map .int))) (hL:L.length<=1000) (hd:A[d]?=some (.dT m)) (hg:U2 n ps) (hle:w4 n L=true) (hm:∀p∈ps,∃z,0<=z/\R7 m (l2 p)=some (.int z)) :
 Wp (J7 [.ref A.length,.ref w,.ref l,.ref d]) (A++[.ins 1 []]) (λv A'=>v=.non/\A<+:A'/\∃ll dl dk,aW5 A' A.length w r n ps L (limOf m) ll dl dk/\A.length<ll/\A.length<dl/\A.length<dk) NoX:=by
 unfold J7
 walk_at "fn"
 have p0:A<+:A++[PO.ins 1 []]:=List.prefix_append _ _
 walk_at "go"
 refine w_mono (are_leaders_ok (W.mono p0) (pre_get p0 hl) hL) λv A1 ⟨p1,hv⟩=>?_
 subst hv
 have ho1:A1[A.length]?=some (.ins 1 []):=pre_get p1 get_app
 have pA1:A<+:A1:=p0.trans p1
 have hlt1:=L7 ho1
 rw [hle]
 walk_at "gb"
 refine w_mono (plan_l1 (l:=l) (P:=A.length) (k:=A1.length) W hd hg.nd hg.len hm (Q0 pA1) (by omega) get_app (by omega) (get_app_of ho1)) λo B ⟨⟨x,ho⟩,pB,hoB,hlB,hkB⟩=>?_
 subst ho
 have hlB':B.length=A1.length+1:=by rw [hlB];simp
 have WB:=W.mono pB
 have hlB1:=pre_get pB hl
 have hlA:=L7 hl
 have hsm:((limD (srt ps) (limOf m)).map (·.1)).Nodup/\∀p∈limD (srt ps) (limOf m),p.1∈small:=⟨aN5 (aH2 hg.nd),ap7 hg.hi λp hp=>hg.good p ((Z8 ps).mem_iff.mp hp)⟩
 walk_at "go"
 simp only [putFld,Nat.reduceEqDiff,if_false,List.length_set,List.length_append,List.length_cons,List.length_nil,Nat.zero_add]
 refine⟨trivial,?pre,B.length,B.length+1,A1.length,⟨W.mono ?pre,?ob,?ls,?ld,?lk⟩,?_,?_,hlt1⟩
 case pre=>walk_at "pre"
 case ob=>walk_at "st"
 case ls=>walk_at "st"
 case ld=>walk_at "st"
 case lk=>walk_at "st"
 ·omega
 ·omega
end
end Ws
namespace Ws
theorem au5 {α:Type} {A:PHp} {Q:PV->PHp->Prop} {E:XP} {σ:PSt} {it:ID} {mk:PSt->PSt} {g:GD} {e:ED} (xs:List α) (vi vo:α->PV) (S:PSt->Prop)
 (h:Wp (it σ) A (λJ A1=>W3 J A1=.ok xs.length A1/\xs.length<=LIM/\S (mk σ)/\(∀i B,A1<+:B->item J i B=.ok (xs.map vi)[i]? B)/\
  (∀x σ B,x∈xs->S σ->A1<+:B->Wp (g (vi x) σ) B (λσ1 B1=>B1=B/\S σ1/\Wp (e σ1) B (λy B3=>y=vo x/\B<+:B3) E) E)/\
  ∀B,A1<+:B->Q (.ref B.length) (B++[.lst (xs.map vo)])) E):Wp (T1 it mk g o3 e σ) A Q E:=
 aG1 (w_mono h λJ A1 ⟨hf,hL,h0,hit,hs,he⟩=>⟨xs.map vi,xs.length,λi acc σ B=>A1<+:B/\S σ/\acc=(xs.take i).map vo,hf,by simp,⟨List.prefix_refl _,h0,by simp⟩,λi acc σ B ⟨h1,_⟩=>hit i B h1,λi v acc σ B hv ⟨h1,h2,h3⟩=>by
  rw [List.getElem?_map] at hv
  obtain⟨x,hx,rfl⟩:=Option.map_eq_some_iff.mp hv
  refine w_mono (hs x σ B (List.mem_of_getElem? hx) h2 h1) λσ1 B1 ⟨e1,h4,h5⟩=>?_
  subst e1
  refine w_true ⟨λ_=>w_mono h5 λy B3 ⟨h8,h7⟩=>⟨h1.trans h7,h4,?_⟩,λhc=>by cases hc⟩
  rw [h3,h8,List.take_succ,hx];simp,λacc σ B ⟨h1,_,h3⟩=>by
  rw [List.length_map,List.take_of_length_le (Nat.le_refl _)] at h3
  subst h3
  exact⟨by rw [List.length_map];exact hL,he B h1⟩⟩)
theorem a24 {n:Nat} {l:List PV} {A B:PHp} (h:A[n]?=some (.lst l)) (p:A<+:B) (i:Nat):item (.lst n) i B=.ok l[i]? B:=Z7 (pre_get p h) i
theorem a25 {α:Type} (xs:List α):(xs.map λ_=>true).all id=true:=by simp
section
variable {A:PHp} {Q:PV->PHp->Prop} {E:XP} {σ:PSt} {e:ED}
theorem w_isC {cs:List Nat} {k:Nat} (h:Wp (e σ) A (λx A1=>∃n c fs,x=.ref n/\A1[n]?=some (.ins c fs)/\c∈cs/\Q (.bl (ai8 c k)) A1) E):Wp (aw6 cs e k σ) A Q E:=
 C0 (w_mono h λx A1 ⟨n,c,fs,hx,hm,hc,q⟩=>by subst hx;exact C0 (w_eq (a:=(c,fs)) (A':=A1) (by show P9 n A1=_;unfold P9;rw [hm]) (D7 hc q)))
theorem w_sortedT (h:Wp (e σ) A (λx A1=>∃n m,x=.ref n/\A1[n]?=some (.dT m)/\(m.length<64/\∀p∈m,p.1≠[])/\Q (.ref A1.length) (A1++[.lst ((D9 D8 (m.map (·.1))).map λt=>.tup (t.map .int))])) E):Wp (o8 e σ) A Q E:=
 C0 (w_mono h λx A1 ⟨n,m,hx,hm,hc,q⟩=>by subst hx;exact C0 (v8 hm (D7 hc q)))
theorem w_mk0 {c:Nat} (q:Q (.ref A.length) (A++[.ins c []])):Wp (aT5 c σ) A Q E:=q
end
end Ws
local macro_rules | `(tactic| walk_at "s1")=>`(tactic| first
 | with_reducible refine Ws.w_isC ?_
 | with_reducible refine Ws.w_sortedT ?_)
local macro_rules | `(tactic| walk_at "s2")=>`(tactic| with_reducible refine Ws.w_mk0 ?_)
namespace Ws
noncomputable def al:Nat->Fun
 | 0=>Q5
 | k+1=>C5 (al k)
inductive i3:Nat->PV->Prop
 | int {k:Nat} {i:Int}:i3 (k+1) (.int i)
 | str {k:Nat} {x:PySem.Str}:i3 (k+1) (.str x)
 | tup {k:Nat} {l:List PV}:l.length<=1000->(∀v∈l,i3 k v)->i3 (k+1) (.tup l)
theorem atN {α:Type} {xs:List α} {i:Nat} {x:α} (h:xs[i]?=some x):atI xs (i:Int)=some x:=by
 obtain⟨h1,h2⟩:=List.getElem?_eq_some_iff.mp h
 rw [aW4 h1,h2]
theorem ad2 {k:Nat} {l:List PV} {a b:PV} {A:PHp} (hl:l.length<=1000) (hv:∀v∈l,∀B,Wp (al k [v,v]) B (λv A'=>v=.bl true/\B<+:A') NoX)
 (ha:∀B (i:Nat) v {Q:PV->PHp->Prop},A<+:B->l[i]?=some v->Q v B->Wp (oIx a (.int (i:Int))) B Q NoX) (hb:∀B (i:Nat) v {Q:PV->PHp->Prop},A<+:B->l[i]?=some v->Q v B->Wp (oIx b (.int (i:Int))) B Q NoX)
 (hlen:∀{QI:It->PHp->Prop},QI (.rng 0 l.length) A->Wp (iRng1 (ai0 (eVar 1)) [some a,some b]) A QI NoX) :
 Wp (P6 (al k) [some a,some b]) A (λx A1=>∃n bs,x=.ref n/\A1[n]?=some (.lst (List.map .bl bs))/\PV.bl (bs.all id)=.bl true/\A<+:A1) NoX:=by
 unfold P6
 refine au5 (List.range l.length) (λi=>.int (i:Int)) (λ_=>.bl true) (λσ=>∃x,σ=[x,some a,some b]) (hlen ?_)
 refine⟨by simp,by simp;exact L9 (by omega),⟨_,rfl⟩,λi B p=>aG2 _ _,?_,λB hB=>?_⟩
 ·rintro i σ B hi ⟨x,rfl⟩ pB
  rw [List.mem_range] at hi
  have hx:l[i]?=some l[i]:=List.getElem?_eq_getElem hi
  walk_at "go"
  refine⟨rfl,⟨_,rfl⟩,?_⟩
  walk_at "go"
  refine ha B i _ pB hx ?_
  walk_at "go"
  refine hb B i _ pB hx ?_
  walk_at "go"
  exact hv _ (List.getElem_mem hi) B
 ·refine⟨_,(List.range l.length).map λ_=>true,rfl,by rw [get_app,List.map_map];rfl,?_⟩
  rw [a25]
  exact⟨rfl,hB.trans (List.prefix_append _ _)⟩
theorem w6:∀(k:Nat) (x:PV),i3 k x->∀A,Wp (al k [x,x]) A (λv A'=>v=.bl true/\A<+:A') NoX
 | 0,_,h,_=>by cases h
 | k+1,_,.int (i:=i),A=>by
   refine w_eq (A':=A) (a:=.bl true) ?_ ⟨rfl,List.prefix_refl _⟩
   show C5 (al k) [.int i,.int i] A=_
   simp [C5,plain,eqv]
 | k+1,_,.str (x:=x),A=>by
   show Wp (C5 (al k) [.str x,.str x]) A _ _
   unfold C5
   walk_at "fn"
   walk_at "gb"
   exact⟨by simp,List.prefix_refl _⟩
 | k+1,_,.tup (l:=l) hl hv,A=>by
   show Wp (C5 (al k) [.tup l,.tup l]) A _ _
   unfold C5
   walk_at "fn"
   walk_at "gb"
   refine ad2 hl (λv hm B=>w6 k v (hv v hm) B) (λB i v Q p h q=>?_) (λB i v Q p h q=>?_) λ{QI} q=>?_
   ·exact w_ixT (atN h) q
   ·exact w_ixT (atN h) q
   ·walk_at "go"
    exact q
theorem ak8 {k:Nat} {l:List PV} {n m:Nat} {A:PHp} (hl:l.length<=1000) (hv:∀v∈l,i3 k v) (hn:A[n]?=some (.lst l)) (hm:A[m]?=some (.lst l)):Wp (al (k+1) [.ref n,.ref m]) A (λv A'=>v=.bl true/\A<+:A') NoX:=by
 show Wp (C5 (al k) [.ref n,.ref m]) A _ _
 unfold C5
 walk_at "fn"
 walk_at "gb"
 refine ad2 hl (λv hm B=>w6 k v (hv v hm) B) (λB i v Q p h q=>?_) (λB i v Q p h q=>?_) λ{QI} q=>?_
 ·exact w_ixL (pre_get p hn) (atN h) q
 ·exact w_ixL (pre_get p hm) (atN h) q
 ·walk_at "go"
  exact q
end Ws
namespace Ws
noncomputable def dvs:List PV:=[.tup [.str "lay",.tup [.int 0,.int 1]],.tup [.str "say",.tup [.int 1,.int 0],.tup [.int 0]],.tup [.str "say",.tup [.int 0,.int 1],.tup [.int 1,.int 0]],.tup [.str "wait"],.tup [.str "lay",.tup [.int 5,.int 5]]]
noncomputable def dV (c:Int):PV:=dvs.getD (c%5).toNat .non
theorem a26 (c:Int):atI dvs (c%5)=some (dV c):=by
 have h1:=Int.emod_nonneg c (by decide:(5:Int)≠0)
 have h2:=Int.emod_lt_of_pos c (by decide:(0:Int)<5)
 obtain⟨k,hk⟩:∃k:Nat,c%5=k:=⟨(c%5).toNat,by omega⟩
 unfold dV
 rw [hk]
 have:k<5:=by omega
 refine atN ?_
 rw [Int.toNat_natCast]
 have hl:k<dvs.length:=by simpa [dvs] using this
 rw [List.getElem?_eq_getElem hl,List.getD_eq_getElem?_getD,List.getElem?_eq_getElem hl];rfl
theorem aH3 (c:Int):dV c∈dvs:=by
 have h1:=Int.emod_nonneg c (by decide:(5:Int)≠0)
 have h2:=Int.emod_lt_of_pos c (by decide:(0:Int)<5)
 have hl:(c%5).toNat<dvs.length:=by simp [dvs];omega
 unfold dV
 rw [List.getD_eq_getElem?_getD,List.getElem?_eq_getElem hl]
 exact List.getElem_mem hl
theorem fc {k:Nat} {v:PV} {l:List PV} (h1:i3 k v) (h2:∀w∈l,i3 k w):∀w∈v::l,i3 k w:=List.forall_mem_cons.mpr ⟨h1,h2⟩
theorem ak9 {k:Nat}:∀w∈([]:List PV),i3 k w:=λ_ h=>nomatch h
theorem f2 {k:Nat} {i j:Int}:i3 (k+2) (.tup [.int i,.int j]):=.tup (by simp) (fc .int (fc .int ak9))
theorem aH4:∀v∈dvs,i3 4 v:=
 fc (.tup (by simp) (fc .str (fc f2 ak9))) (fc (.tup (by simp) (fc .str (fc f2 (fc (.tup (by simp) (fc .int ak9)) ak9)))) (fc (.tup (by simp) (fc .str (fc f2 (fc f2 ak9)))) (fc (.tup (by simp) (fc .str ak9)) (fc (.tup (by simp) (fc .str (fc f2 ak9))) ak9))))
theorem law_deed_ok (c:Int) (A:PHp):Wp (M6 [.int c]) A (λv A'=>v=dV c/\A<+:A') NoX:=by
 unfold M6
 walk_at "fn"
 walk_at "go"
 have h:=a26 c
 unfold dvs at h
 walk_at "go"
 exact⟨rfl,List.prefix_append _ _⟩
noncomputable def rowV (c:Int):PV:=.tup [.int (1+c / 5%9),dV c]
theorem w8 {α:Type} (xs:List α):(cut xs (some 1) (some 31)).length<=30:=by
 have h1:M8 xs.length xs.length (some 31)<=31:=by simp only [M8];split <;> omega
 have h2:M8 xs.length 0 (some 1)=min 1 xs.length:=by simp only [M8];split <;> omega
 unfold cut
 rw [List.length_take,List.length_drop]
 omega
noncomputable def cells (ns:List Int):List Int:=cut ns (some 1) (some 31)
theorem law_c1_ok {ns:List Int} {A:PHp} (hA:A[0]?=some (.ro (ns.map .int))) {x1 x2 x3 x4 x5 x6 x7 x8:Option PV}:Wp (u9 [some (.ref 0),x1,x2,x3,x4,x5,x6,x7,x8]) A (λv A'=>∃r,v=.ref r/\A'[r]?=some (.lst ((cells ns).map rowV))/\A<+:A'/\A.length<=r) NoX:=by
 unfold u9
 have hc:cut (ns.map PV.int) (some 1) (some 31)=(cells ns).map .int:=ak7 _ _ _ _
 have hl:(cells ns).length<=30:=w8 ns
 refine au5 (cells ns) (λc=>.int c) rowV (λσ=>∃x,σ=[x]) ?_
 walk_at "go"
 rw [hc]
 have hB:(A++[PO.lst ((cells ns).map .int)])[A.length]?=some (.lst ((cells ns).map .int)):=get_app
 refine⟨by rw [Z6 hB];simp,L9 (by omega),⟨none,rfl⟩,λi B p=>a24 hB p i,?_,λB p=>⟨_,rfl,get_app,Q0 ((List.prefix_append _ _).trans p),by have:=aK0 p;simp at this;omega⟩⟩
 rintro c σ B hcm ⟨x,rfl⟩ pB
 walk_at "go"
 refine⟨rfl,⟨_,rfl⟩,?_⟩
 walk_at "go"
 refine w_mono (law_deed_ok c B) λv B1 hh=>?_
 obtain⟨rfl,p1⟩:=hh
 walk_at "go"
 exact⟨rfl,p1⟩
end Ws
namespace Ws
theorem az1 {A:PHp} {l:Nat} {xs:List PV} (hl:A[l]?=some (.lst xs)) :
 Wp (J6 [.ref A.length,.ref l]) (A++[.ins 4 []]) (λv A'=>v=.non/\A<+:A'/\∃d,A'[A.length]?=some (.ins 4 [(16,.ref d)])/\A'[d]?=some (.lst xs)/\A.length<d) NoX:=by
 unfold J6
 have hlt:=L7 hl
 walk_at "fn"
 walk_at "gb"
 simp only [putFld,List.length_append,List.length_cons,List.length_nil,Nat.zero_add]
 refine⟨trivial,?pre,A.length+1,?ob,?tl,by omega⟩
 case pre=>walk_at "pre"
 case ob=>walk_at "st"
 case tl=>walk_at "st"
theorem keeper_init {A:PHp} {x:PV}:Wp (E4 [.ref A.length,x]) (A++[.ins 5 []]) (λv A'=>v=.non/\A'=A++[.ins 5 [(17,x)]]) NoX:=by
 unfold E4
 have h:(A++[PO.ins 5 []])[A.length]?=some (.ins 5 []):=get_app
 walk_at "fn"
 walk_at "gb"
 exact⟨trivial,by rw [ai4];rfl⟩
noncomputable def atP (now:Int):PV->Bool
 | .tup [.int a,_]=>decide (a=now)
 | _=>false
noncomputable def aH5:PV->PV
 | .tup [_,d]=>d
 | _=>.non
noncomputable def due (ns:List Int) (now:Int):List PV:=(((cells ns).map rowV).filter (atP now)).map aH5
theorem aH6 {ns:List Int} {now:Int}:∀v∈due ns now,i3 4 v:=by
 intro v hv
 obtain⟨x,hx,rfl⟩:=List.mem_map.mp hv
 obtain⟨c,_,rfl⟩:=List.mem_map.mp (List.mem_filter.mp hx).1
 exact aH4 _ (aH3 c)
theorem au6 {ns:List Int} {now:Int}:(due ns now).length<=30:=by
 unfold due
 rw [List.length_map]
 have h:=List.length_filter_le (atP now) ((cells ns).map rowV)
 rw [List.length_map] at h
 have:=w8 ns
 unfold cells at h ⊢
 omega
theorem cut_but {α:Type} (xs:List α) (x:α):cut (xs++[x]) none (some (-1))=xs:=by
 unfold cut
 have h1:M8 (xs++[x]).length 0 none=0:=rfl
 have h2:M8 (xs++[x]).length (xs++[x]).length (some (-1))=xs.length:=by
  simp only [M8,List.length_append,List.length_cons,List.length_nil]
  split <;> omega
 rw [h1,h2]
 simp
theorem ap8 (cs:List Int):G8 (cs.map rowV)=true:=by
 rw [W4]
 intro v hv
 obtain⟨c,_,rfl⟩:=List.mem_map.mp hv
 have h:∀v∈dvs,n9 v=true:=by decide
 have:=h _ (aH3 c)
 simp [rowV,plain,this]
 rfl
theorem aH7 {A:PHp} {Q:PV->PHp->Prop} {E:XP} {n k:Nat} {l:List PV} (hn:A[n]?=some (.lst l)) (hk:A[k]?=some (.lst l)) (hp:G8 l=true) (q:Q (.bl false) A):Wp (oNe (.ref n) (.ref k)) A Q E:=
 aP1 hn hk ⟨hp,hp⟩ (by rw [(ai7 l l hp).mpr rfl];exact q)
structure LP (ns:List Int) (A:PHp) (G P f t s u F d r:Nat) (now:Int):Prop where
 ar:A[0]?=some (.ro (ns.map .int))
 ob:A[G]?=some (.ins 2 [(6,.ref P),(7,.ref f),(11,.tup [.int 0,.int 1]),(12,.int now),(13,.ref t),(14,.ref s),(15,.ref u)])
 tl:A[t]?=some (.dT [])
 fo:A[F]?=some (.ins 4 [(16,.ref d)])
 dl:A[d]?=some (.lst ((cells ns).map rowV))
 rl:A[r]?=some (.lst ((cells ns).map rowV))
section
variable {ns:List Int} {A:PHp} {G P f t s u F d r:Nat} {now:Int}
theorem LP.mono {A':PHp} (H:LP ns A G P f t s u F d r now) (p:A<+:A'):LP ns A' G P f t s u F d r now:=
 ⟨pre_get p H.ar,pre_get p H.ob,pre_get p H.tl,pre_get p H.fo,pre_get p H.dl,pre_get p H.rl⟩
theorem LP.lts (H:LP ns A G P f t s u F d r now):0<A.length/\G<A.length/\t<A.length/\F<A.length/\d<A.length/\r<A.length:=
 ⟨L7 H.ar,L7 H.ob,L7 H.tl,L7 H.fo,L7 H.dl,L7 H.rl⟩
theorem LP.setNew {B:PHp} {z:Nat} {o:PO} (H:LP ns A G P f t s u F d r now) (p:A<+:B) (hz:A.length<=z):LP ns (B.set z o) G P f t s u F d r now:=by
 obtain⟨h0,h1,h2,h3,h4,h5⟩:=H.lts
 have H':=H.mono p
 exact⟨(get_set_ne (by omega)).trans H'.ar,(get_set_ne (by omega)).trans H'.ob,(get_set_ne (by omega)).trans H'.tl,(get_set_ne (by omega)).trans H'.fo,(get_set_ne (by omega)).trans H'.dl,(get_set_ne (by omega)).trans H'.rl⟩
theorem ne_ob {n m:Nat} {o o':PO} (h:A[n]?=some o) (h':A[m]?=some o') (hn:o≠o'):n≠m:=λz=>hn (by subst z;rw [h] at h';exact Option.some.inj h')
theorem w_ne00 {Q:PV->PHp->Prop} {E:XP} {n k:Nat} (hn:A[n]?=some (.lst [])) (hk:A[k]?=some (.lst [])) (q:Q (.bl false) A):Wp (oNe (.ref n) (.ref k)) A Q E:=aP1 hn hk ⟨rfl,rfl⟩ q
theorem turn_ok (H:LP ns A G P f t s u F d r now):Wp (E5 [.ref G]) A (λv A'=>v=.int now/\A'=A) NoX:=by
 unfold E5
 have h1:=H.ob
 walk_at "fn"
 walk_at "gb"
 exact⟨rfl,rfl⟩
theorem a27 (H:LP ns A G P f t s u F d r now) {x:Option PV}:Wp (N4 [x,some (.ref G),some (.ref d)]) A (λv A'=>v=.ref A.length/\A'=A++[.lst (due ns now)]) NoX:=by
 unfold N4
 have hl:((cells ns).map rowV).length<=30:=by rw [List.length_map];exact w8 ns
 refine m7 (l:=(cells ns).map rowV) (λσ=>∃x y,σ=[x,y,some (.ref G)]) (atP now) aH5 ?_
 have hd:=H.dl
 walk_at "go"
 refine⟨_,Z6 hd,Nat.le_refl _,L9 (by omega),⟨_,_,rfl⟩,λi=>Z7 hd i,?_,rfl,rfl⟩
 rintro v σ hv ⟨x,y,rfl⟩
 obtain⟨c,_,rfl⟩:=List.mem_map.mp hv
 have ho:=H.ob
 unfold rowV
 walk_at "go"
 refine⟨rfl,⟨_,_,rfl⟩,?_⟩
 walk_at "go"
 refine w_mono (turn_ok H) λv A1 hh=>?_
 obtain⟨rfl,rfl⟩:=hh
 walk_at "go"
 refine⟨rfl,rfl,λ_=>?_⟩
 walk_at "go"
 exact⟨rfl,rfl⟩
theorem free_deeds (H:LP ns A G P f t s u F d r now):Wp (K4 [.ref F,.ref G]) A (λv A'=>v=.ref A.length/\A'=A++[.lst (due ns now)]) NoX:=by
 unfold K4
 have h1:=H.fo
 have h2:=H.dl
 walk_at "fn"
 walk_at "gb"
 exact a27 H
theorem c2_ok (H:LP ns A G P f t s u F d r now) {x0 x1 x2 x4 x5 x7 x8:Option PV}:Wp (v0 [x0,x1,x2,some (.ref r),x4,x5,some (.int now),x7,x8]) A (λv A'=>v=.ref A.length/\A'=A++[.lst (due ns now)]) NoX:=by
 unfold v0
 have hl:((cells ns).map rowV).length<=30:=by rw [List.length_map];exact w8 ns
 refine m7 (l:=(cells ns).map rowV) (λσ=>∃x y,σ=[x,y,some (.int now)]) (atP now) aH5 ?_
 have hd:=H.rl
 walk_at "go"
 refine⟨_,Z6 hd,Nat.le_refl _,L9 (by omega),⟨_,_,rfl⟩,λi=>Z7 hd i,?_,rfl,rfl⟩
 rintro v σ hv ⟨x,y,rfl⟩
 obtain⟨c,_,rfl⟩:=List.mem_map.mp hv
 unfold rowV
 walk_at "go"
 refine⟨rfl,⟨_,_,rfl⟩,?_⟩
 walk_at "go"
 refine⟨rfl,rfl,λ_=>?_⟩
 walk_at "go"
 exact⟨rfl,rfl⟩
theorem hand_deeds {x:PV}:Wp (K3 [x,.ref G]) A (λv A'=>v=.ref A.length/\A'=A++[.lst []]) NoX:=by
 unfold K3
 walk_at "fn"
 walk_at "gb"
 exact⟨rfl,rfl⟩
theorem laid_ok (H:LP ns A G P f t s u F d r now):Wp (J5 [.ref G]) A (λv A'=>v=.ref A.length/\A'=A++[.lst []]) NoX:=by
 unfold J5
 have h1:=H.ob
 have h2:=H.tl
 walk_at "fn"
 walk_at "gb"
 exact⟨⟨by decide,λp hp=>nomatch hp⟩,rfl,rfl⟩
theorem move_ok (H:LP ns A G P f t s u F d r now):Wp (J4 [.ref G]) A (λv A'=>LP ns A' G P f t s u F d r (now+1)) NoX:=by
 unfold J4
 have h1:=H.ob
 walk_at "fn"
 walk_at "gb"
 exact⟨(get_set_ne (ne_ob H.ar h1 nofun)).trans H.ar,get_set h1,(get_set_ne (ne_ob H.tl h1 nofun)).trans H.tl,(get_set_ne (ne_ob H.fo h1 (λz=>by injection z with z1;cases z1))).trans H.fo,(get_set_ne (ne_ob H.dl h1 nofun)).trans H.dl,(get_set_ne (ne_ob H.rl h1 nofun)).trans H.rl⟩
theorem body_ok (H:LP ns A G P f t s u F d r now) {x1 x4 x7 x8:Option PV} :
 Wp (f_law_b1 [some (.ref 0),x1,some (.ref G),some (.ref r),x4,some (.ref F),some (.int now),x7,x8]) A
  (λfl A'=>∃y7 y8,fl=.nx [some (.ref 0),x1,some (.ref G),some (.ref r),x4,some (.ref F),some (.int now),y7,y8]/\LP ns A' G P f t s u F d r (now+1)) NoX:=by
 unfold f_law_b1
 have hF:=H.fo
 have hG:=H.ob
 walk_at "gb"
 refine w_mono (free_deeds H) λv A1 hh=>?_
 obtain⟨rfl,rfl⟩:=hh
 have H1:=H.mono (List.prefix_append A [.lst (due ns now)])
 walk_at "gb"
 refine w_mono (c2_ok H1) λv A2 hh=>?_
 obtain⟨rfl,rfl⟩:=hh
 have H2:=H1.mono (List.prefix_append _ [.lst (due ns now)])
 walk_at "gb"
 have q1:(A++[PO.lst (due ns now)])[A.length]?=some (.lst (due ns now)):=get_app
 have q2:(A++[PO.lst (due ns now)]++[PO.lst (due ns now)])[A.length]?=some (.lst (due ns now)):=get_app_of q1
 refine w_mono (ak8 (k:=4) (l:=due ns now) (have:=au6 (ns:=ns) (now:=now);by omega) aH6 q2 get_app) λv A3 hh=>?_
 obtain⟨rfl,p3⟩:=hh
 have H3:=H2.mono p3
 have q3:=pre_get p3 q2
 have p0:A<+:A++[PO.lst (due ns now)]++[PO.lst (due ns now)]:=(List.prefix_append _ _).trans (List.prefix_append _ _)
 generalize A++[PO.lst (due ns now)]++[PO.lst (due ns now)]=A2 at *
 generalize (A++[PO.lst (due ns now)]).length=z at *
 have hG3:=H3.ob
 walk_at "gb"
 refine w_mono hand_deeds λv A4 hh=>?_
 obtain⟨rfl,rfl⟩:=hh
 walk_at "gb"
 refine w_ne00 (get_app_of get_app) get_app ?_
 walk_at "gb"
 have pz:A<+:A3++[PO.ins 3 []]++[PO.lst []]++[PO.lst []]:=p0.trans (p3.trans ((List.prefix_append _ _).trans ((List.prefix_append _ _).trans (List.prefix_append _ _))))
 have hz:(A3++[PO.ins 3 []]++[PO.lst []]++[PO.lst []])[A.length]?=some (.lst (due ns now)):=get_app_of (get_app_of (get_app_of q3))
 generalize A3++[PO.ins 3 []]++[PO.lst []]++[PO.lst []]=A4 at *
 have hl:=au6 (ns:=ns) (now:=now)
 have hL:(due ns now).length<LIM:=L9 (show (due ns now).length+1<=_ by omega)
 have H5:LP ns (A4.set A.length (PO.lst (due ns now++[PV.tup [PV.str (PySem.Str.ofString "lay"),PV.tup [PV.int 0,PV.int 1]]]))) G P f t s u F d r now:=H.setNew pz (Nat.le_refl _)
 walk_at "gb"
 generalize A4.set A.length (PO.lst (due ns now++[PV.tup [PV.str (PySem.Str.ofString "lay"),PV.tup [PV.int 0,PV.int 1]]]))=A5 at *
 have hG5:=H5.ob
 walk_at "gb"
 refine w_mono (laid_ok H5) λv A6 hh=>?_
 obtain⟨rfl,rfl⟩:=hh
 walk_at "gb"
 refine w_ne00 (get_app_of get_app) get_app ?_
 have H6:=H5.mono ((List.prefix_append _ [PO.lst []]).trans (List.prefix_append _ [PO.lst []]))
 have hG6:=H6.ob
 walk_at "gb"
 refine w_mono (turn_ok H6) λv A7 hh=>?_
 obtain⟨rfl,rfl⟩:=hh
 walk_at "gb"
 refine w_mono (move_ok H6) λv A7 hh=>?_
 exact⟨_,_,rfl,hh⟩
end
end Ws
namespace Ws
noncomputable def ps2:List (Int×Int):=[(0,1),(1,0)]
noncomputable def m2:DT:=V1 (V1 [] [0,1] (.int 2)) [1,0] (.int 2)
theorem W2:U2 2 ps2:=⟨by decide,by decide,by intro p hp;simp only [ps2,List.mem_cons,List.not_mem_nil,or_false] at hp;rcases hp with rfl | rfl <;> (unfold good;decide),by decide,by decide⟩
structure a28 (A:PHp) (G P f t s u:Nat) (now:Int) (fr:List Int):Prop where
 ob:A[G]?=some (.ins 2 [(6,.ref P),(7,.ref f),(11,.tup (fr.map .int)),(12,.int now),(13,.ref t),(14,.ref s),(15,.ref u)])
 tl:A[t]?=some (.dT [])
theorem al0 {A:PHp} {P l:Nat} {fr:List Int} (hl:A[l]?=some (.lst (fr.map .int))) (hfr:fr.length<=1000) :
 Wp (G3 [.ref A.length,.ref P,.ref l]) (A++[.ins 2 []]) (λv A'=>v=.non/\A<+:A'/\∃f t s u,a28 A' A.length P f t s u 1 fr/\A.length<f/\A.length<t) NoX:=by
 unfold G3
 have hlt:=L7 hl
 walk_at "fn"
 walk_at "gb"
 simp only [putFld,Nat.reduceEqDiff,if_false,List.length_set,List.length_append,List.length_cons,List.length_nil,Nat.zero_add]
 refine⟨trivial,?pre,A.length+1,A.length+1+1,A.length+1+1+1,A.length+1+1+1+1,⟨?ob,?tl⟩,by omega,by omega⟩
 case pre=>walk_at "pre"
 case ob=>walk_at "st"
 case tl=>walk_at "st"
theorem law_pure:∀ns:List Int,∃A',au3 [.ref 0] [.ro (ns.map .int)]=.ok (.bl true) A':=by
 intro ns
 have h:Wp (au3 [.ref 0]) [.ro (ns.map .int)] (λv _=>v=.bl true) NoX:=by
  generalize hA0:[PO.ro (ns.map PV.int)]=A0
  have hA:A0[0]?=some (.ro (ns.map .int)):=by rw [←hA0];rfl
  clear hA0
  unfold au3
  walk_at "fn"
  walk_at "gb"
  obtain⟨A1,r,e1,p1,W1,hr1⟩:=aG7 W2 (A:=A0++[PO.lst (pvs ps2)]) (q:=A0.length) get_app
  refine w_eq e1 ?_
  have q1:A0<+:A1:=(List.prefix_append _ _).trans p1
  generalize hw:(A0++[PO.lst (pvs ps2)]).length=w at W1
  have hw':List.length (A0++[PO.lst [PV.tup [PV.int 0,PV.int 1],PV.tup [PV.int 1,PV.int 0]]])=w:=hw
  rw [hw']
  clear hw hw' e1
  walk_at "gb"
  refine w_tdisp2 (k1:=[0,1]) (k2:=[1,0]) (x1:=.tup [.int 0,.int 1]) (x2:=.tup [.int 1,.int 0]) (v1:=.int 2) (v2:=.int 2) (λB=>au4 rfl rfl) (λB=>rfl) (λB=>au4 rfl rfl) (λB=>rfl) rfl rfl ?_
  walk_at "gb"
  have hAll:∀p∈ps2,∃z,0<=z/\R7 m2 (l2 p)=some (.int z):=by
   intro p hp
   simp only [ps2,List.mem_cons,List.not_mem_nil,or_false] at hp
   rcases hp with rfl | rfl <;> exact⟨2,by decide,rfl⟩
  have hPl:=az0 (A:=A1++[PO.lst ([(0:Int)].map .int)]++[PO.dT m2]) (L:=[0]) (m:=m2) (l:=A1.length) (d:=(A1++[PO.lst ([(0:Int)].map .int)]).length) (W1.mono ((List.prefix_append _ _).trans (List.prefix_append _ _))) (get_app_of get_app) (by simp) get_app W2 (by decide) hAll
  refine w_mono hPl λv A2 hh=>?_
  obtain⟨hv,p2,ll,dl,dk,HP,_⟩:=hh
  have q2:A0<+:A2:=q1.trans ((List.prefix_append _ _).trans ((List.prefix_append _ _).trans p2))
  have hA2:=pre_get q2 hA
  generalize hP:List.length _=P at HP
  have hP':List.length (A1++[PO.lst [PV.int 0]]++[PO.dT (V1 (V1 [] [0,1] (PV.int 2)) [1,0] (PV.int 2))])=P:=hP
  rw [hP']
  clear hP hP' hPl
  walk_at "gb"
  have hLg:=al0 (A:=A2++[PO.lst ([(0:Int),1].map .int)]) (P:=P) (l:=A2.length) (fr:=[0,1]) get_app (by simp)
  refine w_mono hLg λv A3 hh=>?_
  obtain⟨_,p3,f,t,sx,u,HG,hf3,ht3⟩:=hh
  have q3:A2<+:A3:=(List.prefix_append _ _).trans p3
  generalize hG:List.length _=G at HG hf3 ht3
  have hG':List.length (A2++[PO.lst [PV.int 0,PV.int 1]])=G:=hG
  rw [hG']
  have hGA:A2.length<G:=by rw [←hG];simp
  clear hLg hG hG'
  walk_at "gb"
  refine w_mono (law_c1_ok (pre_get q3 hA2)) λv A4 hh=>?_
  obtain⟨rw_,rfl,hrw,p4,hr4⟩:=hh
  walk_at "gb"
  have hrh:(A4++[PO.lst (List.map rowV (cells ns))])[A4.length]?=some (.lst ((cells ns).map rowV)):=get_app
  refine w_mono (az1 hrh) λv A5 hh=>?_
  obtain⟨_,p5,d,hF,hd,hdl⟩:=hh
  have q5:A4<+:A5:=(List.prefix_append _ _).trans p5
  have hh5:=pre_get p5 hrh
  have hG5:=pre_get q5 (pre_get p4 HG.ob)
  have ht5:=pre_get q5 (pre_get p4 HG.tl)
  have hr5:=pre_get q5 hrw
  have h05:=pre_get q5 (pre_get p4 (pre_get q3 hA2))
  have hne:A4.length≠rw_:=by have:=L7 hrw;omega
  have hnd:d≠A4.length:=by rw [List.length_append] at hdl;omega
  have hL:(List.map rowV (cells ns)).length<LIM:=L9 (show _+1<=_ by have:=w8 ns;rw [List.length_map];unfold cells;omega)
  generalize (A4++[PO.lst (List.map rowV (cells ns))]).length=F at hF ⊢
  generalize A4.length=hx at *
  clear HP
  have HL:LP ns (A5.set hx (PO.lst (List.map rowV (cells ns)++[PV.tup [PV.int 1,PV.tup [PV.str (PySem.Str.ofString "lay"),PV.tup [PV.int 1,PV.int 0]]]]))) G P f t sx u F d rw_ 1:=
   ⟨(get_set_ne (ne_ob h05 hh5 nofun)).trans h05,(get_set_ne (ne_ob hG5 hh5 nofun)).trans hG5,(get_set_ne (ne_ob ht5 hh5 nofun)).trans ht5,(get_set_ne (ne_ob hF hh5 nofun)).trans hF,(get_set_ne hnd).trans hd,(get_set_ne hne.symm).trans hr5⟩
  have hH:(A5.set hx (PO.lst (List.map rowV (cells ns)++[PV.tup [PV.int 1,PV.tup [PV.str (PySem.Str.ofString "lay"),PV.tup [PV.int 1,PV.int 0]]]])))[hx]?=some (.lst (List.map rowV (cells ns)++[PV.tup [PV.int 1,PV.tup [PV.str (PySem.Str.ofString "lay"),PV.tup [PV.int 1,PV.int 0]]]])):=get_set hh5
  walk_at "gb"
  generalize A5.set hx (PO.lst (List.map rowV (cells ns)++[PV.tup [PV.int 1,PV.tup [PV.str (PySem.Str.ofString "lay"),PV.tup [PV.int 1,PV.int 0]]]]))=A6 at *
  have hF6:=HL.fo
  have hG6:=HL.ob
  clear hd hF hh5 hG5 ht5 hr5 h05 q5 p5 hrh hrw p4 HG p3 q3 hA2 q1 q2 hA
  walk_at "gb"
  refine⟨by decide,_,rfl,?_⟩
  rw [show ai8 4 3=true from rfl]
  walk_at "gb"
  refine w_mono keeper_init λv A7 hh=>?_
  obtain⟨_,rfl⟩:=hh
  have hK:(A6++[PO.ins 5 [(17,PV.int 0)]])[A6.length]?=some (.ins 5 [(17,PV.int 0)]):=get_app
  have H7:=HL.mono (List.prefix_append A6 [PO.ins 5 [(17,PV.int 0)]])
  have hH7:=pre_get (List.prefix_append A6 [PO.ins 5 [(17,PV.int 0)]]) hH
  generalize A6++[PO.ins 5 [(17,PV.int 0)]]=A7 at *
  generalize A6.length=k6 at *
  walk_at "gb"
  refine⟨by decide,_,rfl,?_⟩
  rw [show ai8 5 3=true from rfl]
  have hF7:=H7.fo
  walk_at "gb"
  refine⟨by decide,_,rfl,?_⟩
  rw [show ai8 4 5=false from rfl]
  walk_at "gb"
  refine w_mono keeper_init λv A8 hh=>?_
  obtain⟨_,rfl⟩:=hh
  have hK8:(A7++[PO.ins 5 [(17,PV.int 1)]])[A7.length]?=some (.ins 5 [(17,PV.int 1)]):=get_app
  have H8:=H7.mono (List.prefix_append A7 [PO.ins 5 [(17,PV.int 1)]])
  have hH8:=pre_get (List.prefix_append A7 [PO.ins 5 [(17,PV.int 1)]]) hH7
  generalize A7++[PO.ins 5 [(17,PV.int 1)]]=A8 at *
  generalize A7.length=k7 at *
  walk_at "gb"
  refine⟨by decide,_,rfl,?_⟩
  rw [show ai8 5 4=false from rfl]
  walk_at "gb"
  rw [cut_but]
  refine aH7 get_app (get_app_of H8.rl) (ap8 _) ?_
  have H9:=H8.mono (List.prefix_append A8 [PO.lst ((cells ns).map rowV)])
  generalize A8++[PO.lst ((cells ns).map rowV)]=A9 at *
  walk_at "gb"
  unfold f_law_l1
  refine aW0 (λi σ B=>(∃x y z,σ=[some (.ref 0),some (.ref P),some (.ref G),some (.ref rw_),some (.ref hx),some (.ref F),x,y,z])/\LP ns B G P f t sx u F d rw_ (1+(i:Int))) ?_
  obtain⟨c,hc⟩:=aN3 H9.ar 0
  walk_at "gb"
  refine w_eq hc ?_
  walk_at "gb"
  have g1:=Int.emod_nonneg c (by decide:(12:Int)≠0)
  have g2:=Int.emod_lt_of_pos c (by decide:(0:Int)<12)
  obtain⟨m,hm⟩:∃m:Nat,c%12=m:=⟨(c%12).toNat,by omega⟩
  have hm12:m<12:=by omega
  refine⟨1,1+m,rfl,by rw [hm,Int.natCast_add];rfl,⟨by omega,by omega⟩,_,_,rfl,⟨⟨_,_,_,rfl⟩,H9⟩,?_,?_⟩
  ·rintro i σ B hi ⟨⟨x,y,z,rfl⟩,HB⟩
   walk_at "go"
   refine w_mono (body_ok HB) λfl B' hh=>?_
   obtain⟨y7,y8,rfl,HB'⟩:=hh
   refine⟨⟨_,_,_,rfl⟩,?_⟩
   rw [show (1:Int)+((i+1:Nat):Int)=1+i+1 by omega]
   exact HB'
  ·rintro σ B ⟨⟨x,y,z,rfl⟩,HB⟩
   walk_at "gb"
 obtain⟨v,A',e,hv⟩:=a09 h
 exact⟨A',by rw [e,hv]⟩
end Ws
namespace Ws
open PySem
structure a29 (mg:Str->Option Value):Prop where
 g_FEWEST_HANDS:∃t,mg "FEWEST_HANDS" = some (.int 2 t)
 g_MOST_HANDS:∃t,mg "MOST_HANDS" = some (.int 6 t)
section
variable {P:Program} {w:World} {K:PySem.W.Frag} {mg:Str->Option Value} {base:Heap} {cm:Nat->Addr}
noncomputable def top (i:Nat):Stmt:=PySem.Challenge.pw_wordswap_k31_hands_and_rows.main.body.getD i (.Pass ⟨0,0,0,0⟩)
theorem al1:L2.D1 ["value"] ["value"] (L2.B6 (top 8)):=⟨rfl,rfl,rfl,by decide +kernel,rfl,by decide +kernel,by decide +kernel⟩
set_option maxHeartbeats 4000000 in
theorem al2 {fa:Addr} {fd:FuncData} (B:P3 K mg cm) (F:L2.Fun K "is_whole" "is_whole" (top 8) fa fd):L2.FnOk P w K mg base L2.CX0 (1) fa fd ["value"] (SpF K cm G1 1):=
 K9 F al1 λcdv A outer s0 H E hr=>by
  have hu:=hr.units
  have hu1:=Nat.lt_of_le_of_lt (Nat.add_le_add_left (show 1<=64 by decide) _) hu
  exact (C8 (E9 (T4 (P2 (t:=.int) B.kit (r_var (L2.pv 0)) rfl B.b_isinstance rfl B.b_int PyProof.Rows.boot_int) (R9 (aO8 (P2 (t:=.bool) B.kit (r_var (L2.pv 0)) rfl B.b_isinstance rfl B.b_bool PyProof.Rows.boot_bool))))))
theorem ap9:L2.D1 ["number","value"] ["number","value"] (L2.B6 (top 9)):=⟨rfl,rfl,rfl,by decide +kernel,rfl,by decide +kernel,by decide +kernel⟩
set_option maxHeartbeats 4000000 in
theorem aq0 {fa:Addr} {fd:FuncData} (B:P3 K mg cm) (D_is_whole:Def P w K mg base cm "is_whole" 1 ["value"] G1 1) (F:L2.Fun K "is_hand" "is_hand" (top 9) fa fd):L2.FnOk P w K mg base L2.CX0 (2) fa fd ["number","value"] (SpF K cm K1 2):=
 K9 F ap9 λcdv A outer s0 H E hr=>by
  have hu:=hr.units
  have hu1:=Nat.lt_of_le_of_lt (Nat.add_le_add_left (show 1<=64 by decide) _) hu
  exact (C8 (E9 (T4 (G6 D_is_whole (by decide) hr rfl (r_cons (r_var (L2.pv 1)) r_nil)) (R9 (ar5 L2.aA2 aC6 L2.aA1 aC5 r_int (r_var (L2.pv 1)) (r_var (L2.pv 0)))))))
theorem S6:L2.D1 ["value"] ["value"] (L2.B6 (top 10)):=⟨rfl,rfl,rfl,by decide +kernel,rfl,by decide +kernel,by decide +kernel⟩
set_option maxHeartbeats 4000000 in
theorem S7 {fa:Addr} {fd:FuncData} (B:P3 K mg cm) (GL:a29 mg) (D_is_whole:Def P w K mg base cm "is_whole" 1 ["value"] G1 1) (F:L2.Fun K "is_number_of_hands" "is_number_of_hands" (top 10) fa fd):L2.FnOk P w K mg base L2.CX0 (2) fa fd ["value"] (SpF K cm D6 1):=
 K9 F S6 λcdv A outer s0 H E hr=>by
  have hu:=hr.units
  have hu1:=Nat.lt_of_le_of_lt (Nat.add_le_add_left (show 1<=64 by decide) _) hu
  exact (C8 (E9 (T4 (G6 D_is_whole (by decide) hr rfl (r_cons (r_var (L2.pv 0)) r_nil)) (R9 (ar5 L2.aA2 aC6 L2.aA2 aC6 (aD4 rfl GL.g_FEWEST_HANDS) (r_var (L2.pv 0)) (aD4 rfl GL.g_MOST_HANDS))))))
theorem aa4:L2.D1 ["number","value"] ["number","value"] (L2.B6 (top 11)):=⟨rfl,rfl,rfl,by decide +kernel,rfl,by decide +kernel,by decide +kernel⟩
set_option maxHeartbeats 4000000 in
theorem aa5 {fa:Addr} {fd:FuncData} (B:P3 K mg cm) (D_is_hand:Def P w K mg base cm "is_hand" 2 ["number","value"] K1 2) (F:L2.Fun K "is_passing" "is_passing" (top 11) fa fd):L2.FnOk P w K mg base L2.CX0 (3) fa fd ["number","value"] (SpF K cm K2 2):=
 K9 F aa4 λcdv A outer s0 H E hr=>by
  have hu:=hr.units
  have hu1:=Nat.lt_of_le_of_lt (Nat.add_le_add_left (show 1<=64 by decide) _) hu
  exact (C4 (S0 (L2.PW.pt (Y4 (R8 (K6 (P2 (t:=.tuple) B.kit (r_var (L2.pv 1)) rfl B.b_isinstance rfl B.b_tuple PyProof.Rows.boot_tuple))) (T3 (M2 (S3 hu) Z1 (aj0 (r_var (L2.pv 1)) rfl B.b_len) r_int (L2.nomark _)))))
 (C8 (E9 ae8))
 J0)
 (C8 (E9 (T4 (G6 D_is_hand (by decide) hr rfl (r_cons (r_var (L2.pv 0)) (r_cons (ai9 (r_var (L2.pv 1)) r_int (λ_ _=>rfl)) r_nil))) (T4 (G6 D_is_hand (by decide) hr rfl (r_cons (r_var (L2.pv 0)) (r_cons (ai9 (r_var (L2.pv 1)) r_int (λ_ _=>rfl)) r_nil))) (R9 (ac1 (S3 hu) Z1 (ai9 (r_var (L2.pv 1)) r_int (λ_ _=>rfl)) (ai9 (r_var (L2.pv 1)) r_int (λ_ _=>rfl)) (L2.nomark _))))))))
theorem sc_first_wrong_passing:L2.D1 ["number","passings","at","passing"] ["number","passings"] (L2.B6 (top 12)):=⟨rfl,rfl,rfl,by decide +kernel,rfl,by decide +kernel,by decide +kernel⟩
set_option maxHeartbeats 4000000 in
theorem S5 {fa:Addr} {fd:FuncData} (B:P3 K mg cm) (D_is_passing:Def P w K mg base cm "is_passing" 3 ["number","value"] K2 2) (F:L2.Fun K "first_wrong_passing" "first_wrong_passing" (top 12) fa fd):L2.FnOk P w K mg base L2.CX0 (4) fa fd ["number","passings"] (SpF K cm D5 2):=
 K9 F sc_first_wrong_passing λcdv A outer s0 H E hr=>by
  have hu:=hr.units
  have hu1:=Nat.lt_of_le_of_lt (Nat.add_le_add_left (show 1<=64 by decide) _) hu
  exact (C4 (aD1 PassesOwn.never rfl (a04 rfl B.b_enumerate (r_var (L2.pv 1))) (as0 rfl (T5 (M3 (L2.J9 (i:=2) sc_first_wrong_passing.nd rfl (.inl rfl))) (T5 (M3 (L2.J9 (i:=3) sc_first_wrong_passing.nd rfl (.inl rfl))) ar9)))
 (C8 (S0 (L2.PW.pt (Y4 (R8 (K6 (G6 D_is_passing (by decide) hr rfl (r_cons (r_var (L2.pv 0)) (r_cons (r_var (L2.pv 3)) r_nil))))) (T3 (M2 (aU6 hu) a03 (r_var (L2.pv 3)) (ar7 (r_var (L2.pv 1)) r_lno (r_lat (r_var (L2.pv 2)))) (by rfl)))))
 (C8 (E9 (r_var (L2.pv 2))))
 J0)))
 (C8 (E9 aZ4)))
theorem w9:L2.D1 ["self","plan","free"] ["self","plan","free"] (L2.B6 (L2.B9 (top 17) 0)):=⟨rfl,rfl,rfl,by decide +kernel,rfl,by decide +kernel,by decide +kernel⟩
set_option maxHeartbeats 4000000 in
theorem x9 {fa:Addr} {fd:FuncData} (B:P3 K mg cm) (F:FunD K "__init__" "Ledger.__init__" (L2.B9 (top 17) 0) fa fd #[.none]):L2.FnOk P w K mg base L2.CX0 (1) fa fd ["self","plan","free"] (SpF K cm G3 3):=
 aV3 F w9 λcdv A outer s0 H E hr=>by
  have hu:=hr.units
  have hu1:=Nat.lt_of_le_of_lt (Nat.add_le_add_left (show 1<=64 by decide) _) hu
  exact (C4 (N1 (r_var (L2.pv 0)) (r_var (L2.pv 1)) (i:=6) rfl (by decide) B.cls (λc=>B.na c 6 (by decide)))
 (C4 (N1 (r_var (L2.pv 0)) (aZ9 (aC8 (r_var (L2.pv 2))) (Y5 r_nil) (Y6 (r_var (L2.pv 2)) rfl B.b_list PyProof.Rows.boot_list)) (i:=7) rfl (by decide) B.cls (λc=>B.na c 7 (by decide)))
 (C4 (N1 (r_var (L2.pv 0)) (ac8 (q8 (r_var (L2.pv 0)) (i:=7) rfl (by decide) B.cls (λc=>B.na c 7 (by decide))) rfl B.b_tuple PyProof.Rows.boot_tuple) (i:=11) rfl (by decide) B.cls (λc=>B.na c 11 (by decide)))
 (C4 (N1 (r_var (L2.pv 0)) r_int (i:=12) rfl (by decide) B.cls (λc=>B.na c 12 (by decide)))
 (C4 (N1 (r_var (L2.pv 0)) af9 (i:=13) rfl (by decide) B.cls (λc=>B.na c 13 (by decide)))
 (C4 (N1 (r_var (L2.pv 0)) af9 (i:=14) rfl (by decide) B.cls (λc=>B.na c 14 (by decide)))
 (C8 (N1 (r_var (L2.pv 0)) af9 (i:=15) rfl (by decide) B.cls (λc=>B.na c 15 (by decide))))))))))
theorem ag1:L2.D1 ["self","does"] ["self","does"] (L2.B6 (L2.B9 (top 20) 0)):=⟨rfl,rfl,rfl,by decide +kernel,rfl,by decide +kernel,by decide +kernel⟩
set_option maxHeartbeats 4000000 in
theorem ag2 {fa:Addr} {fd:FuncData} (B:P3 K mg cm) (F:L2.Fun K "__init__" "Free.__init__" (L2.B9 (top 20) 0) fa fd):L2.FnOk P w K mg base L2.CX0 (1) fa fd ["self","does"] (SpF K cm J6 2):=
 K9 F ag1 λcdv A outer s0 H E hr=>by
  have hu:=hr.units
  have hu1:=Nat.lt_of_le_of_lt (Nat.add_le_add_left (show 1<=64 by decide) _) hu
  exact (C8 (N1 (r_var (L2.pv 0)) (aZ9 (K6 (P2 (t:=.list) B.kit (r_var (L2.pv 1)) rfl B.b_isinstance rfl B.b_list PyProof.Rows.boot_list)) (Y6 (r_var (L2.pv 1)) rfl B.b_list PyProof.Rows.boot_list) (r_var (L2.pv 1))) (i:=16) rfl (by decide) B.cls (λc=>B.na c 16 (by decide))))
theorem y0:L2.D1 ["self","me"] ["self","me"] (L2.B6 (L2.B9 (top 21) 0)):=⟨rfl,rfl,rfl,by decide +kernel,rfl,by decide +kernel,by decide +kernel⟩
set_option maxHeartbeats 4000000 in
theorem y3 {fa:Addr} {fd:FuncData} (B:P3 K mg cm) (F:L2.Fun K "__init__" "Keeper.__init__" (L2.B9 (top 21) 0) fa fd):L2.FnOk P w K mg base L2.CX0 (1) fa fd ["self","me"] (SpF K cm E4 2):=
 K9 F y0 λcdv A outer s0 H E hr=>by
  have hu:=hr.units
  have hu1:=Nat.lt_of_le_of_lt (Nat.add_le_add_left (show 1<=64 by decide) _) hu
  exact (C8 (N1 (r_var (L2.pv 0)) (r_var (L2.pv 1)) (i:=17) rfl (by decide) B.cls (λc=>B.na c 17 (by decide))))
theorem ag3:L2.D1 ["numbers"] ["numbers"] (L2.B6 (top 23)):=⟨rfl,rfl,rfl,by decide +kernel,rfl,by decide +kernel,by decide +kernel⟩
set_option maxHeartbeats 4000000 in
theorem ag4 {fa:Addr} {fd:FuncData} (B:P3 K mg cm) (F:L2.Fun K "is_rising" "is_rising" (top 23) fa fd):L2.FnOk P w K mg base L2.CX0 (1) fa fd ["numbers"] (SpF K cm L5 1):=
 K9 F ag3 λcdv A outer s0 H E hr=>by
  have hu:=hr.units
  have hu1:=Nat.lt_of_le_of_lt (Nat.add_le_add_left (show 1<=64 by decide) _) hu
  exact (C8 (E9 (aE8 rfl (af3 (N:=["low","high"]) [none,none] rfl (⟨rfl,rfl,by decide +kernel,by decide +kernel,N3,(D0 (λh=>nomatch h) (D0 (λh=>nomatch h) (D0 (λh=>nomatch h) N3)))⟩) (.own (.own .nil)) (a07 (λ_ _=>nofun) rfl B.b_zip (r_var (L2.pv 0)) (ar7 (r_var (L2.pv 0)) (r_lat r_int) r_lno)) (λ_ _ _ _=>(as0 rfl (T5 (M3 (L2.J9 (i:=0) (show List.Nodup (["low","high"]:List Str) from by decide +kernel) rfl (by first | exact Or.inl rfl | exact Or.inr rfl))) (T5 (M3 (L2.J9 (i:=1) (show List.Nodup (["low","high"]:List Str) from by decide +kernel) rfl (by first | exact Or.inl rfl | exact Or.inr rfl))) ar9)))) (λ_ _ _ _=>af2) (λ_ _ _ _=>(ac1 L2.aA1 aC5 (r_var (L2.pv 0)) (r_var (L2.pv 1)) (L2.nomark _)))) rfl B.b_all)))
theorem y4:L2.D1 ["web","leaders"] ["web","leaders"] (L2.B6 (top 24)):=⟨rfl,rfl,rfl,by decide +kernel,rfl,by decide +kernel,by decide +kernel⟩
set_option maxHeartbeats 4000000 in
theorem y6 {fa:Addr} {fd:FuncData} (B:P3 K mg cm) (D_is_rising:Def P w K mg base cm "is_rising" 1 ["numbers"] L5 1) (D_is_hand:Def P w K mg base cm "is_hand" 2 ["number","value"] K1 2) (F:L2.Fun K "are_leaders" "are_leaders" (top 24) fa fd):L2.FnOk P w K mg base L2.CX0 (3) fa fd ["web","leaders"] (SpF K cm J3 2):=
 K9 F y4 λcdv A outer s0 H E hr=>by
  have hu:=hr.units
  have hu1:=Nat.lt_of_le_of_lt (Nat.add_le_add_left (show 1<=64 by decide) _) hu
  exact (C4 (S0 (L2.PW.pt (Y4 (R8 (K6 (P2 (t:=.list) B.kit (r_var (L2.pv 1)) rfl B.b_isinstance rfl B.b_list PyProof.Rows.boot_list))) (T3 (M2 (g6 hu) ac3 (r_var (L2.pv 1)) (Y5 r_nil) (L2.nomark _)))))
 (C8 (E9 ae8))
 J0)
 (C8 (E9 (T4 (aE8 rfl (af3 (N:=["h","web"]) [none,some 0] rfl (⟨rfl,rfl,by decide +kernel,by decide +kernel,(D0 rfl N3),(D0 (λh=>nomatch h) (D0 (λh=>nomatch h) (D0 (λh=>nomatch h) (D0 (λ_=>rfl) N3))))⟩) (.own (.free rfl (by first | exact Or.inl rfl | exact Or.inr rfl) (by first | exact Or.inl rfl | exact Or.inr (Or.inl rfl) | exact Or.inr (Or.inr rfl)) rfl (by first | exact Or.inl rfl | exact Or.inr rfl) .nil)) (aj2 (r_var (L2.pv 1))) (λ_ _ _ _=>(M3 (L2.J9 (i:=0) (show List.Nodup (["h","web"]:List Str) from by decide +kernel) rfl (by first | exact Or.inl rfl | exact Or.inr rfl)))) (λ_ _ _ _=>af2) (λ_ _ _ _=>(G6 D_is_hand (by decide) hr rfl (r_cons (q8 (r_var (L2.pv 1)) (i:=0) rfl (by decide) B.cls (λc=>B.na c 0 (by decide))) (r_cons (r_var (L2.pv 0)) r_nil))))) rfl B.b_all) (R9 (G6 D_is_rising (by decide) hr rfl (r_cons (r_var (L2.pv 1)) r_nil)))))))
theorem al3:L2.D1 ["value"] ["value"] (L2.B6 (top 25)):=⟨rfl,rfl,rfl,by decide +kernel,rfl,by decide +kernel,by decide +kernel⟩
set_option maxHeartbeats 4000000 in
theorem al4 {fa:Addr} {fd:FuncData} (B:P3 K mg cm) (D_is_whole:Def P w K mg base cm "is_whole" 1 ["value"] G1 1) (F:L2.Fun K "is_limit" "is_limit" (top 25) fa fd):L2.FnOk P w K mg base L2.CX0 (2) fa fd ["value"] (SpF K cm M5 1):=
 K9 F al3 λcdv A outer s0 H E hr=>by
  have hu:=hr.units
  have hu1:=Nat.lt_of_le_of_lt (Nat.add_le_add_left (show 1<=64 by decide) _) hu
  exact (C8 (E9 (T4 (G6 D_is_whole (by decide) hr rfl (r_cons (r_var (L2.pv 0)) r_nil)) (R9 (ac1 L2.aY3 aZ5 (r_var (L2.pv 0)) r_int (L2.nomark _))))))
theorem sc_Plan_init:L2.D1 ["self","web","leaders","limits","kept","passing"] ["self","web","leaders","limits"] (L2.B6 (L2.B9 (top 26) 0)):=⟨rfl,rfl,rfl,by decide +kernel,rfl,by decide +kernel,by decide +kernel⟩
set_option maxHeartbeats 4000000 in
theorem ag5 {fa:Addr} {fd:FuncData} (B:P3 K mg cm) (D_are_leaders:Def P w K mg base cm "are_leaders" 3 ["web","leaders"] J3 2) (D_is_limit:Def P w K mg base cm "is_limit" 2 ["value"] M5 1) (F:L2.Fun K "__init__" "Plan.__init__" (L2.B9 (top 26) 0) fa fd):L2.FnOk P w K mg base L2.CX0 (4) fa fd ["self","web","leaders","limits"] (SpF K cm J7 4):=
 K9 F sc_Plan_init λcdv A outer s0 H E hr=>by
  have hu:=hr.units
  have hu1:=Nat.lt_of_le_of_lt (Nat.add_le_add_left (show 1<=64 by decide) _) hu
  exact (C4 (S0 (R8 (K6 (G6 D_are_leaders (by decide) hr rfl (r_cons (r_var (L2.pv 1)) (r_cons (r_var (L2.pv 2)) r_nil)))))
 (C8 Y7)
 J0)
 (C4 (Y8 (i:=4) sc_Plan_init.nd rfl (.inl rfl) af9)
 (C4 (aD1 PassesOwn.never rfl (aj2 (q8 (r_var (L2.pv 1)) (i:=1) rfl (by decide) B.cls (λc=>B.na c 1 (by decide)))) (M3 (L2.J9 (i:=5) sc_Plan_init.nd rfl (.inl rfl)))
 (C4 (S0 (R8 (K6 (G6 D_is_limit (by decide) hr rfl (r_cons (aM0 hu1 (r_var (L2.pv 3)) (r_var (L2.pv 5))) r_nil))))
 (C8 Y7)
 J0)
 (C8 (aV6 hu1 (r_var (L2.pv 4)) (r_var (L2.pv 5)) (aV7 hu1 (r_var (L2.pv 3)) (r_var (L2.pv 5)) (λ_ _=>rfl))))))
 (C4 (N1 (r_var (L2.pv 0)) (r_var (L2.pv 1)) (i:=3) rfl (by decide) B.cls (λc=>B.na c 3 (by decide)))
 (C4 (N1 (r_var (L2.pv 0)) (Y6 (r_var (L2.pv 2)) rfl B.b_list PyProof.Rows.boot_list) (i:=4) rfl (by decide) B.cls (λc=>B.na c 4 (by decide)))
 (C4 (N1 (r_var (L2.pv 0)) (aM4 (r_var (L2.pv 4)) rfl B.b_dict) (i:=5) rfl (by decide) B.cls (λc=>B.na c 5 (by decide)))
 (C4 (N1 (r_var (L2.pv 0)) (ac8 (r_var (L2.pv 2)) rfl B.b_tuple PyProof.Rows.boot_tuple) (i:=9) rfl (by decide) B.cls (λc=>B.na c 9 (by decide)))
 (C8 (N1 (r_var (L2.pv 0)) (r_var (L2.pv 4)) (i:=10) rfl (by decide) B.cls (λc=>B.na c 10 (by decide)))))))))))
theorem sc_Web_init:L2.D1 ["self","number","passings","wrong"] ["self","number","passings"] (L2.B6 (L2.B9 (top 13) 0)):=⟨rfl,rfl,rfl,by decide +kernel,rfl,by decide +kernel,by decide +kernel⟩
set_option maxHeartbeats 4000000 in
theorem al5 {fa:Addr} {fd:FuncData} (B:P3 K mg cm) (D_is_number_of_hands:Def P w K mg base cm "is_number_of_hands" 2 ["value"] D6 1) (D_first_wrong_passing:Def P w K mg base cm "first_wrong_passing" 4 ["number","passings"] D5 2) (F:L2.Fun K "__init__" "Web.__init__" (L2.B9 (top 13) 0) fa fd):L2.FnOk P w K mg base L2.CX0 (5) fa fd ["self","number","passings"] (SpF K cm J8 3):=
 K9 F sc_Web_init λcdv A outer s0 H E hr=>by
  have hu:=hr.units
  have hu1:=Nat.lt_of_le_of_lt (Nat.add_le_add_left (show 1<=64 by decide) _) hu
  exact (C4 (S0 (R8 (K6 (G6 D_is_number_of_hands (by decide) hr rfl (r_cons (r_var (L2.pv 1)) r_nil))))
 (C8 Y7)
 J0)
 (C4 (Y8 (i:=3) sc_Web_init.nd rfl (.inl rfl) (G6 D_first_wrong_passing (by decide) hr rfl (r_cons (r_var (L2.pv 1)) (r_cons (r_var (L2.pv 2)) r_nil))))
 (C4 (S0 (aK4 (r_var (L2.pv 3)))
 (C8 Y7)
 J0)
 (C4 (N1 (r_var (L2.pv 0)) (r_var (L2.pv 1)) (i:=0) rfl (by decide) B.cls (λc=>B.na c 0 (by decide)))
 (C8 (N1 (r_var (L2.pv 0)) (aE2 hu (r_var (L2.pv 2)) rfl B.b_sorted) (i:=1) rfl (by decide) B.cls (λc=>B.na c 1 (by decide))))))))
theorem y9:L2.D1 ["self"] ["self"] (L2.B6 (L2.B9 (top 17) 1)):=⟨rfl,rfl,rfl,by decide +kernel,rfl,by decide +kernel,by decide +kernel⟩
set_option maxHeartbeats 4000000 in
theorem z0 {fa:Addr} {fd:FuncData} (B:P3 K mg cm) (F:L2.Fun K "turn" "Ledger.turn" (L2.B9 (top 17) 1) fa fd):L2.FnOk P w K mg base L2.CX0 (1) fa fd ["self"] (SpF K cm E5 1):=
 K9 F y9 λcdv A outer s0 H E hr=>by
  have hu:=hr.units
  have hu1:=Nat.lt_of_le_of_lt (Nat.add_le_add_left (show 1<=64 by decide) _) hu
  exact (C8 (E9 (q8 (r_var (L2.pv 0)) (i:=12) rfl (by decide) B.cls (λc=>B.na c 12 (by decide)))))
theorem z5:L2.D1 ["self"] ["self"] (L2.B6 (L2.B9 (top 17) 2)):=⟨rfl,rfl,rfl,by decide +kernel,rfl,by decide +kernel,by decide +kernel⟩
set_option maxHeartbeats 4000000 in
theorem z6 {fa:Addr} {fd:FuncData} (B:P3 K mg cm) (F:L2.Fun K "move" "Ledger.move" (L2.B9 (top 17) 2) fa fd):L2.FnOk P w K mg base L2.CX0 (1) fa fd ["self"] (SpF K cm J4 1):=
 K9 F z5 λcdv A outer s0 H E hr=>by
  have hu:=hr.units
  have hu1:=Nat.lt_of_le_of_lt (Nat.add_le_add_left (show 1<=64 by decide) _) hu
  exact (C8 (N1 (r_var (L2.pv 0)) (p7 af0 ao5 (q8 (r_var (L2.pv 0)) (i:=12) rfl (by decide) B.cls (λc=>B.na c 12 (by decide))) r_int) (i:=12) rfl (by decide) B.cls (λc=>B.na c 12 (by decide))))
theorem z7:L2.D1 ["self"] ["self"] (L2.B6 (L2.B9 (top 17) 12)):=⟨rfl,rfl,rfl,by decide +kernel,rfl,by decide +kernel,by decide +kernel⟩
set_option maxHeartbeats 4000000 in
theorem z8 {fa:Addr} {fd:FuncData} (B:P3 K mg cm) (F:L2.Fun K "laid" "Ledger.laid" (L2.B9 (top 17) 12) fa fd):L2.FnOk P w K mg base L2.CX0 (1) fa fd ["self"] (SpF K cm J5 1):=
 K9 F z7 λcdv A outer s0 H E hr=>by
  have hu:=hr.units
  have hu1:=Nat.lt_of_le_of_lt (Nat.add_le_add_left (show 1<=64 by decide) _) hu
  exact (C8 (E9 (ay3 rfl (q8 (r_var (L2.pv 0)) (i:=13) rfl (by decide) B.cls (λc=>B.na c 13 (by decide))) rfl B.b_sorted)))
theorem aa6:L2.D1 ["self","ledger"] ["self","ledger"] (L2.B6 (L2.B9 (top 19) 0)):=⟨rfl,rfl,rfl,by decide +kernel,rfl,by decide +kernel,by decide +kernel⟩
set_option maxHeartbeats 4000000 in
theorem aa7 {fa:Addr} {fd:FuncData} (B:P3 K mg cm) (F:L2.Fun K "deeds" "Hand.deeds" (L2.B9 (top 19) 0) fa fd):L2.FnOk P w K mg base L2.CX0 (1) fa fd ["self","ledger"] (SpF K cm K3 2):=
 K9 F aa6 λcdv A outer s0 H E hr=>by
  have hu:=hr.units
  have hu1:=Nat.lt_of_le_of_lt (Nat.add_le_add_left (show 1<=64 by decide) _) hu
  exact (C8 (E9 (Y5 r_nil)))
theorem sc_Free_deeds:L2.D1 ["self","ledger","does"] ["self","ledger"] (L2.B6 (L2.B9 (top 20) 1)):=⟨rfl,rfl,rfl,by decide +kernel,rfl,by decide +kernel,by decide +kernel⟩
set_option maxHeartbeats 4000000 in
theorem aa8 {fa:Addr} {fd:FuncData} (B:P3 K mg cm) (D_Ledger_turn:g7 P w K mg base cm 2 "turn" 1 ["self"] E5 1) (F:L2.Fun K "deeds" "Free.deeds" (L2.B9 (top 20) 1) fa fd):L2.FnOk P w K mg base L2.CX0 (2) fa fd ["self","ledger"] (SpF K cm K4 2):=
 K9 F sc_Free_deeds λcdv A outer s0 H E hr=>by
  have hu:=hr.units
  have hu1:=Nat.lt_of_le_of_lt (Nat.add_le_add_left (show 1<=64 by decide) _) hu
  exact (C4 (Y8 (i:=2) sc_Free_deeds.nd rfl (.inl rfl) (q8 (r_var (L2.pv 0)) (i:=16) rfl (by decide) B.cls (λc=>B.na c 16 (by decide))))
 (C4 (S0 (K6 (P2 (t:=.list) B.kit (r_var (L2.pv 2)) rfl B.b_isinstance rfl B.b_list PyProof.Rows.boot_list))
 (C8 (E9 (af3 (N:=["turn","deed","ledger"]) [none,none,some 1] rfl (⟨rfl,rfl,by decide +kernel,by decide +kernel,(D0 rfl N3),(D0 (λh=>nomatch h) (D0 (λh=>nomatch h) (D0 (λh=>nomatch h) (D0 (λ_=>rfl) N3))))⟩) (.own (.own (.free rfl (by first | exact Or.inl rfl | exact Or.inr rfl) (by first | exact Or.inl rfl | exact Or.inr (Or.inl rfl) | exact Or.inr (Or.inr rfl)) rfl (by first | exact Or.inl rfl | exact Or.inr rfl) .nil))) (aj2 (r_var (L2.pv 2))) (λ_ _ _ _=>(as0 rfl (T5 (M3 (L2.J9 (i:=0) (show List.Nodup (["turn","deed","ledger"]:List Str) from by decide +kernel) rfl (by first | exact Or.inl rfl | exact Or.inr rfl))) (T5 (M3 (L2.J9 (i:=1) (show List.Nodup (["turn","deed","ledger"]:List Str) from by decide +kernel) rfl (by first | exact Or.inl rfl | exact Or.inr rfl))) ar9)))) (λ_ _ _ _=>(aD6 (M2 (g6 hu) ac3 (r_var (L2.pv 0)) (Z5 D_Ledger_turn (by decide) hr (B.cls _ (by decide)) (r_var (L2.pv 2)) (by decide +kernel)) (L2.nomark _)))) (λ_ _ _ _=>(r_var (L2.pv 1))))))
 J0)
 (C8 Y7)))
theorem z9:L2.D1 ["_law_script","_law_k"] ["_law_script","_law_k"] (L2.B6 (top 28)):=⟨rfl,rfl,rfl,by decide +kernel,rfl,by decide +kernel,by decide +kernel⟩
set_option maxHeartbeats 4000000 in
theorem aa0 {fa:Addr} {fd:FuncData} (B:P3 K mg cm) (F:L2.Fun K "_law_cell_at" "_law_cell_at" (top 28) fa fd):L2.FnOk P w K mg base L2.CX0 (1) fa fd ["_law_script","_law_k"] (SpF K cm G4 2):=
 K9 F z9 λcdv A outer s0 H E hr=>by
  have hu:=hr.units
  have hu1:=Nat.lt_of_le_of_lt (Nat.add_le_add_left (show 1<=64 by decide) _) hu
  exact (C4 (S0 (M2 L2.aA1 aC5 (r_var (L2.pv 1)) (aj0 (r_var (L2.pv 0)) rfl B.b_len) (L2.nomark _))
 (C8 (E9 (ai9 (r_var (L2.pv 0)) (r_var (L2.pv 1)) (λ_ _=>rfl))))
 J0)
 (C8 (E9 r_int)))
theorem ag6:L2.D1 ["_law_found","_law_due"] ["_law_found","_law_due"] (L2.B6 (top 29)):=⟨rfl,rfl,rfl,by decide +kernel,rfl,by decide +kernel,by decide +kernel⟩
set_option maxHeartbeats 4000000 in
theorem L8 {fa:Addr} {fd:FuncData} (B:P3 K mg cm) (BS:mg "str" = none) {kk:Nat} {rec:Fun} (D_law_alike:Def P w K mg base cm "_law_alike" kk ["_law_found","_law_due"] rec 2) (F:L2.Fun K "_law_alike" "_law_alike" (top 29) fa fd):L2.FnOk P w K mg base L2.CX0 (kk+1) fa fd ["_law_found","_law_due"] (SpF K cm (C5 rec) 2):=
 K9 F ag6 λcdv A outer s0 H E hr=>by
  have hu:=hr.units
  have hu1:=Nat.lt_of_le_of_lt (Nat.add_le_add_left (show 1<=64 by decide) _) hu
  exact (C4 (S0 (aC8 (r_var (L2.pv 1)))
 (C8 (E9 (aZ8 (r_var (L2.pv 0)))))
 J0)
 (C4 (S0 (K6 (P2 (t:=.bool) B.kit (r_var (L2.pv 1)) rfl B.b_isinstance rfl B.b_bool PyProof.Rows.boot_bool))
 (C8 (E9 (T4 (P2 (t:=.bool) B.kit (r_var (L2.pv 0)) rfl B.b_isinstance rfl B.b_bool PyProof.Rows.boot_bool) (R9 (ac1 (g6 hu) ac3 (r_var (L2.pv 0)) (r_var (L2.pv 1)) (L2.nomark _))))))
 J0)
 (C4 (S0 (K6 (P2 (t:=.int) B.kit (r_var (L2.pv 1)) rfl B.b_isinstance rfl B.b_int PyProof.Rows.boot_int))
 (C8 (E9 (T4 (P2 (t:=.int) B.kit (r_var (L2.pv 0)) rfl B.b_isinstance rfl B.b_int PyProof.Rows.boot_int) (T4 (aO8 (P2 (t:=.bool) B.kit (r_var (L2.pv 0)) rfl B.b_isinstance rfl B.b_bool PyProof.Rows.boot_bool)) (R9 (ac1 (g6 hu) ac3 (r_var (L2.pv 0)) (r_var (L2.pv 1)) (L2.nomark _)))))))
 J0)
 (C4 (S0 (K6 (at8 (r_var (L2.pv 1)) rfl B.b_isinstance rfl BS))
 (C8 (E9 (T4 (at8 (r_var (L2.pv 0)) rfl B.b_isinstance rfl BS) (R9 (ac1 (g6 hu) ac3 (r_var (L2.pv 0)) (r_var (L2.pv 1)) (L2.nomark _))))))
 J0)
 (C4 (S0 (L2.PW.pt (Y4 (M2 (S3 hu) Z1 (P2 (t:=.tuple) B.kit (r_var (L2.pv 1)) rfl B.b_isinstance rfl B.b_tuple PyProof.Rows.boot_tuple) (P2 (t:=.tuple) B.kit (r_var (L2.pv 0)) rfl B.b_isinstance rfl B.b_tuple PyProof.Rows.boot_tuple) (L2.nomark _)) (T3 (M2 (S3 hu) Z1 (P2 (t:=.list) B.kit (r_var (L2.pv 1)) rfl B.b_isinstance rfl B.b_list PyProof.Rows.boot_list) (P2 (t:=.list) B.kit (r_var (L2.pv 0)) rfl B.b_isinstance rfl B.b_list PyProof.Rows.boot_list) (L2.nomark _)))))
 (C8 (E9 ae8))
 J0)
 (C4 (S0 (M2 (S3 hu) Z1 (aj0 (r_var (L2.pv 0)) rfl B.b_len) (aj0 (r_var (L2.pv 1)) rfl B.b_len) (L2.nomark _))
 (C8 (E9 ae8))
 J0)
 (C8 (E9 (aE8 rfl (af3 (N:=["_law_k","_law_found","_law_due"]) [none,some 0,some 1] rfl (⟨rfl,rfl,by decide +kernel,by decide +kernel,(D0 rfl (D0 rfl N3)),(D0 (λh=>nomatch h) (D0 (λh=>nomatch h) (D0 (λh=>nomatch h) (D0 (λ_=>rfl) (D0 (λ_=>rfl) N3)))))⟩) (.own (.free rfl (by first | exact Or.inl rfl | exact Or.inr rfl) (by first | exact Or.inl rfl | exact Or.inr (Or.inl rfl) | exact Or.inr (Or.inr rfl)) rfl (by first | exact Or.inl rfl | exact Or.inr rfl) (.free rfl (by first | exact Or.inl rfl | exact Or.inr rfl) (by first | exact Or.inl rfl | exact Or.inr (Or.inl rfl) | exact Or.inr (Or.inr rfl)) rfl (by first | exact Or.inl rfl | exact Or.inr rfl) .nil))) (aU4 rfl B.b_range (aj0 (r_var (L2.pv 1)) rfl B.b_len)) (λ_ _ _ _=>(M3 (L2.J9 (i:=0) (show List.Nodup (["_law_k","_law_found","_law_due"]:List Str) from by decide +kernel) rfl (by first | exact Or.inl rfl | exact Or.inr rfl)))) (λ_ _ _ _=>af2) (λ_ _ _ _=>(G6 D_law_alike (Nat.le_refl _) hr rfl (r_cons (ai9 (r_var (L2.pv 1)) (r_var (L2.pv 0)) (λ_ _=>rfl)) (r_cons (ai9 (r_var (L2.pv 2)) (r_var (L2.pv 0)) (λ_ _=>rfl)) r_nil))))) rfl B.b_all)))))))))
theorem sc_law_deed:L2.D1 ["_law_cell","_law_some"] ["_law_cell"] (L2.B6 (top 30)):=⟨rfl,rfl,rfl,by decide +kernel,rfl,by decide +kernel,by decide +kernel⟩
set_option maxHeartbeats 4000000 in
theorem al6 {fa:Addr} {fd:FuncData} (B:P3 K mg cm) (F:L2.Fun K "_law_deed" "_law_deed" (top 30) fa fd):L2.FnOk P w K mg base L2.CX0 (1) fa fd ["_law_cell"] (SpF K cm M6 1):=
 K9 F sc_law_deed λcdv A outer s0 H E hr=>by
  have hu:=hr.units
  have hu1:=Nat.lt_of_le_of_lt (Nat.add_le_add_left (show 1<=64 by decide) _) hu
  refine @C4 _ _ _ _ _ _ ?_ ?_
  refine @Y8 _ _ 1 _ _ _ _ _ ?_ ?_ ?_ ?_ ?_ ?_
  exact sc_law_deed.nd
  exact rfl
  exact (.inl rfl)
  refine @Y5 _ _ _ _ _ ?_;refine @r_cons _ _ _ _ _ _ ?_ ?_ (by exact C1 rfl);refine @K8 _ _ _ _ _ _ ?_;refine @r_cons _ _ _ _ _ _ ?_ ?_ (by exact C1 rfl);exact u6;refine @r_cons _ _ _ _ _ _ ?_ ?_ (by exact C1 rfl);refine @K8 _ _ _ _ _ _ ?_;refine @r_cons _ _ _ _ _ _ ?_ ?_ (by exact C1 rfl);exact r_int;refine @r_cons _ _ _ _ _ _ ?_ ?_ (by exact C1 rfl);exact r_int;exact r_nil;exact r_nil;refine @r_cons _ _ _ _ _ _ ?_ ?_ (by exact C1 rfl);refine @K8 _ _ _ _ _ _ ?_;refine @r_cons _ _ _ _ _ _ ?_ ?_ (by exact C1 rfl);exact u6;refine @r_cons _ _ _ _ _ _ ?_ ?_ (by exact C1 rfl);refine @K8 _ _ _ _ _ _ ?_;refine @r_cons _ _ _ _ _ _ ?_ ?_ (by exact C1 rfl);exact r_int;refine @r_cons _ _ _ _ _ _ ?_ ?_ (by exact C1 rfl);exact r_int;exact r_nil;refine @r_cons _ _ _ _ _ _ ?_ ?_ (by exact C1 rfl);refine @K8 _ _ _ _ _ _ ?_;refine @r_cons _ _ _ _ _ _ ?_ ?_ (by exact C1 rfl);exact r_int;exact r_nil;exact r_nil;refine @r_cons _ _ _ _ _ _ ?_ ?_ (by exact C1 rfl);refine @K8 _ _ _ _ _ _ ?_;refine @r_cons _ _ _ _ _ _ ?_ ?_ (by exact C1 rfl);exact u6;refine @r_cons _ _ _ _ _ _ ?_ ?_ (by exact C1 rfl);refine @K8 _ _ _ _ _ _ ?_;refine @r_cons _ _ _ _ _ _ ?_ ?_ (by exact C1 rfl);exact r_int;refine @r_cons _ _ _ _ _ _ ?_ ?_ (by exact C1 rfl);exact r_int;exact r_nil;refine @r_cons _ _ _ _ _ _ ?_ ?_ (by exact C1 rfl);refine @K8 _ _ _ _ _ _ ?_;refine @r_cons _ _ _ _ _ _ ?_ ?_ (by exact C1 rfl);exact r_int;refine @r_cons _ _ _ _ _ _ ?_ ?_ (by exact C1 rfl);exact r_int;exact r_nil;exact r_nil;refine @r_cons _ _ _ _ _ _ ?_ ?_ (by exact C1 rfl);refine @K8 _ _ _ _ _ _ ?_;refine @r_cons _ _ _ _ _ _ ?_ ?_ (by exact C1 rfl);exact u6;exact r_nil;refine @r_cons _ _ _ _ _ _ ?_ ?_ (by exact C1 rfl);refine @K8 _ _ _ _ _ _ ?_;refine @r_cons _ _ _ _ _ _ ?_ ?_ (by exact C1 rfl);exact u6;refine @r_cons _ _ _ _ _ _ ?_ ?_ (by exact C1 rfl);refine @K8 _ _ _ _ _ _ ?_;refine @r_cons _ _ _ _ _ _ ?_ ?_ (by exact C1 rfl);exact r_int;refine @r_cons _ _ _ _ _ _ ?_ ?_ (by exact C1 rfl);exact r_int;exact r_nil;exact r_nil;exact r_nil
  rfl
  first | exact .inl rfl | exact .inr rfl
  exact (C8 (E9 (ai9 (r_var (L2.pv 1)) (p7 L2.am0 ao4 (r_var (L2.pv 0)) r_int) (λ_ _=>rfl))))
theorem sc_law:L2.D1 ["_law_script","_law_plan","_law_ledger","_law_rows","_law_handed","_law_free","_law_turn","_law_found","_law_due"] ["_law_script"] (L2.B6 (top 31)):=⟨rfl,rfl,rfl,by decide +kernel,rfl,by decide +kernel,by decide +kernel⟩
set_option maxHeartbeats 4000000 in
theorem aW6 {fa:Addr} {fd:FuncData} (B:P3 K mg cm) (IG:aV9 K cm [3,4,5]) (CN_Hand:mg "Hand" = some (.ref (cm 3))) (CN_Free:mg "Free" = some (.ref (cm 4))) (CN_Keeper:mg "Keeper" = some (.ref (cm 5))) (D_Plan_init:s9 P w K mg base cm 1 "Plan" 4 ["self","web","leaders","limits"] J7 4) (D_Web_init:s9 P w K mg base cm 0 "Web" 5 ["self","number","passings"] J8 3) (D_Ledger_init:s9 P w K mg base cm 2 "Ledger" 1 ["self","plan","free"] G3 3) (D_law_deed:Def P w K mg base cm "_law_deed" 1 ["_law_cell"] M6 1) (D_Free_init:s9 P w K mg base cm 4 "Free" 1 ["self","does"] J6 2) (D_Keeper_init:s9 P w K mg base cm 5 "Keeper" 1 ["self","me"] E4 2) (D_law_cell_at:Def P w K mg base cm "_law_cell_at" 1 ["_law_script","_law_k"] G4 2) (D_Free_deeds:g7 P w K mg base cm 4 "deeds" 2 ["self","ledger"] K4 2) (D_Hand_deeds:g7 P w K mg base cm 3 "deeds" 1 ["self","ledger"] K3 2) (D0_Hand:aG0 K mg cm 3 "Hand") (D_law_alike:Def P w K mg base cm "_law_alike" 6 ["_law_found","_law_due"] U1 2) (D_Ledger_turn:g7 P w K mg base cm 2 "turn" 1 ["self"] E5 1) (D_Ledger_laid:g7 P w K mg base cm 2 "laid" 1 ["self"] J5 1) (D_Ledger_move:g7 P w K mg base cm 2 "move" 1 ["self"] J4 1) (F:L2.Fun K "law" "law" (top 31) fa fd):L2.FnOk P w K mg base L2.CX0 (7) fa fd ["_law_script"] (SpF K cm au3 1):=
 K9 F sc_law λcdv A outer s0 H E hr=>by
  have hu:=hr.units
  have hu1:=Nat.lt_of_le_of_lt (Nat.add_le_add_left (show 1<=64 by decide) _) hu
  refine @C4 _ _ _ _ _ _ ?_ ?_
  refine @Y8 _ _ 1 _ _ _ _ _ ?_ ?_ ?_ ?_ ?_ ?_
  exact sc_law.nd
  exact rfl
  exact (.inl rfl)
  refine @U7 _ _ ?_ ?_ ?_ ?_ ?_ ?_ _ _ _ _ _ _ ?D ?hk ?hr ?_ ?_ ?_ ?_ ?_ ?_
  case D=>exact D_Plan_init
  case hr=>exact hr
  case hk=>exact (by decide)
  exact rfl
  refine @r_cons _ _ _ _ _ _ ?_ ?_ ?_
  refine @U7 _ _ ?_ ?_ ?_ ?_ ?_ ?_ _ _ _ _ _ _ ?D ?hk ?hr ?_ ?_ ?_ ?_ ?_ ?_
  case D=>exact D_Web_init
  case hr=>exact hr
  case hk=>exact (by decide)
  exact rfl
  refine @r_cons _ _ _ _ _ _ ?_ ?_ ?_
  exact r_int
  refine @r_cons _ _ _ _ _ _ ?_ ?_ ?_
  refine @Y5 _ _ _ _ _ ?_;refine @r_cons _ _ _ _ _ _ ?_ ?_ (by exact C1 rfl);refine @K8 _ _ _ _ _ _ ?_;refine @r_cons _ _ _ _ _ _ ?_ ?_ (by exact C1 rfl);exact r_int;refine @r_cons _ _ _ _ _ _ ?_ ?_ (by exact C1 rfl);exact r_int;exact r_nil;refine @r_cons _ _ _ _ _ _ ?_ ?_ (by exact C1 rfl);refine @K8 _ _ _ _ _ _ ?_;refine @r_cons _ _ _ _ _ _ ?_ ?_ (by exact C1 rfl);exact r_int;refine @r_cons _ _ _ _ _ _ ?_ ?_ (by exact C1 rfl);exact r_int;exact r_nil;exact r_nil
  exact r_nil
  exact C1 rfl
  exact C1 rfl
  decide
  exact C1 rfl
  rfl
  decide
  refine @r_cons _ _ _ _ _ _ ?_ ?_ ?_
  exact (Y5 (r_cons r_int r_nil))
  refine @r_cons _ _ _ _ _ _ ?_ ?_ ?_
  refine @aF7 _ _ _ _ _ _ _ _ _ _ _ ?_ ?_ ?_ ?_ ?_;exact hu1;exact (K8 (r_cons r_int (r_cons r_int r_nil)));exact r_int;exact (K8 (r_cons r_int (r_cons r_int r_nil)));exact r_int
  exact r_nil
  exact C1 rfl
  exact C1 rfl
  exact C1 rfl
  decide
  exact C1 rfl
  rfl
  decide
  rfl
  first | exact .inl rfl | exact .inr rfl
  refine @C4 _ _ _ _ _ _ ?_ ?_
  exact (Y8 (i:=2) sc_law.nd rfl (.inl rfl) (U7 D_Ledger_init (by decide) hr rfl (r_cons (r_var (L2.pv 1)) (r_cons (Y5 (r_cons r_int (r_cons r_int r_nil))) r_nil))))
  refine @C4 _ _ _ _ _ _ ?_ ?_
  exact (aD7 (N:=["_law_cell"]) [none] rfl (⟨rfl,rfl,by decide +kernel,by decide +kernel,N3,(D0 (λh=>nomatch h) (D0 (λh=>nomatch h) (D0 (λh=>nomatch h) N3)))⟩) (.own .nil) (aj2 (ar7 (r_var (L2.pv 0)) (r_lat r_int) (r_lat r_int))) (λ_ _ _ _=>(M3 (L2.J9 (i:=0) (show List.Nodup (["_law_cell"]:List Str) from by decide +kernel) rfl (by first | exact Or.inl rfl | exact Or.inr rfl)))) (λ_ _ _ _=>af2) (λ_ _ _ _=>(K8 (r_cons (p7 af0 ao5 r_int (p7 L2.am0 ao4 (p7 L2.aI5 aK3 (r_var (L2.pv 0)) r_int) r_int)) (r_cons (G6 D_law_deed (by decide) hr rfl (r_cons (r_var (L2.pv 0)) r_nil)) r_nil)))) (i:=3) sc_law.nd rfl (.inl rfl))
  refine @C4 _ _ _ _ _ _ ?_ ?_
  exact (Y8 (i:=4) sc_law.nd rfl (.inl rfl) (Y6 (r_var (L2.pv 3)) rfl B.b_list PyProof.Rows.boot_list))
  refine @C4 _ _ _ _ _ _ ?_ ?_
  exact (Y8 (i:=5) sc_law.nd rfl (.inl rfl) (U7 D_Free_init (by decide) hr rfl (r_cons (r_var (L2.pv 4)) r_nil)))
  refine @C4 _ _ _ _ _ _ ?_ ?_
  refine @ao6 _ _ _ _ _ ?_ ?_
  refine @aj1 _ _ _ _ _ _ _ _ ?_ ?_ ?_ ?_ ?_ ?_
  exact (r_var (L2.pv 4))
  refine @K8 _ _ _ _ _ _ ?_;refine @r_cons _ _ _ _ _ _ ?_ ?_ (by exact C1 rfl);exact r_int;refine @r_cons _ _ _ _ _ _ ?_ ?_ (by exact C1 rfl);refine @K8 _ _ _ _ _ _ ?_;refine @r_cons _ _ _ _ _ _ ?_ ?_ (by exact C1 rfl);exact u6;refine @r_cons _ _ _ _ _ _ ?_ ?_ (by exact C1 rfl);refine @K8 _ _ _ _ _ _ ?_;refine @r_cons _ _ _ _ _ _ ?_ ?_ (by exact C1 rfl);exact r_int;refine @r_cons _ _ _ _ _ _ ?_ ?_ (by exact C1 rfl);exact r_int;exact r_nil;exact r_nil;exact r_nil
  rfl
  exact C1 rfl
  rfl
  rfl
  rfl
  refine @C4 _ _ _ _ _ _ ?_ ?_
  exact (S0 (L2.PW.pt (Y4 (R8 (K6 (at9 IG B.cls (by decide) (r_var (L2.pv 5)) rfl B.b_isinstance rfl CN_Hand))) (Y4 (R8 (K6 (at9 IG B.cls (by decide) (U7 D_Keeper_init (by decide) hr rfl (r_cons r_int r_nil)) rfl B.b_isinstance rfl CN_Hand))) (T3 (K6 (at9 IG B.cls (by decide) (r_var (L2.pv 5)) rfl B.b_isinstance rfl CN_Keeper))))))
 (C8 (E9 ae8))
 J0)
  refine @C4 _ _ _ _ _ _ ?_ ?_
  exact (S0 (L2.PW.pt (Y4 (K6 (at9 IG B.cls (by decide) (U7 D_Keeper_init (by decide) hr rfl (r_cons r_int r_nil)) rfl B.b_isinstance rfl CN_Free)) (T3 (M2 (S3 hu) Z1 (ar7 (r_var (L2.pv 4)) r_lno (r_lat r_neg)) (r_var (L2.pv 3)) (L2.nomark _)))))
 (C8 (E9 ae8))
 J0)
  refine @C4 _ _ _ _ _ _ ?_ ?_
  refine @aD1 _ _ _ _ _ _ _ _ _ ?_ ?_ ?_ ?_ ?_ ?_
  exact PassesOwn.never
  exact rfl
  exact (aU5 rfl B.b_range r_int (p7 af0 ao5 r_int (p7 L2.am0 ao4 (G6 D_law_cell_at (by decide) hr rfl (r_cons (r_var (L2.pv 0)) (r_cons r_int r_nil))) r_int)))
  exact (M3 (L2.J9 (i:=6) sc_law.nd rfl (.inr rfl)))
  refine @C4 _ _ _ _ _ _ ?_ ?_
  exact (Y8 (i:=7) sc_law.nd rfl (.inl rfl) (as6 D_Free_deeds (by decide) hr (B.cls _ (by decide)) (r_var (L2.pv 5)) (r_cons (r_var (L2.pv 2)) r_nil) (by decide +kernel)))
  refine @C4 _ _ _ _ _ _ ?_ ?_
  exact (aD7 (N:=["_law_at","_law_deed_here","_law_turn"]) [none,none,some 6] rfl (⟨rfl,rfl,by decide +kernel,by decide +kernel,(D0 rfl N3),(D0 (λh=>nomatch h) (D0 (λh=>nomatch h) (D0 (λh=>nomatch h) (D0 (λ_=>rfl) N3))))⟩) (.own (.own (.free rfl (by first | exact Or.inl rfl | exact Or.inr rfl) (by first | exact Or.inl rfl | exact Or.inr (Or.inl rfl) | exact Or.inr (Or.inr rfl)) rfl (by first | exact Or.inl rfl | exact Or.inr rfl) .nil))) (aj2 (r_var (L2.pv 3))) (λ_ _ _ _=>(as0 rfl (T5 (M3 (L2.J9 (i:=0) (show List.Nodup (["_law_at","_law_deed_here","_law_turn"]:List Str) from by decide +kernel) rfl (by first | exact Or.inl rfl | exact Or.inr rfl))) (T5 (M3 (L2.J9 (i:=1) (show List.Nodup (["_law_at","_law_deed_here","_law_turn"]:List Str) from by decide +kernel) rfl (by first | exact Or.inl rfl | exact Or.inr rfl))) ar9)))) (λ_ _ _ _=>(aD6 (M2 (g6 hu) ac3 (r_var (L2.pv 0)) (r_var (L2.pv 2)) (L2.nomark _)))) (λ_ _ _ _=>(r_var (L2.pv 1))) (i:=8) sc_law.nd rfl (.inl rfl))
  refine @C4 _ _ _ _ _ _ ?_ ?_
  exact (S0 (L2.PW.pt (Y4 (R8 (K6 (G6 D_law_alike (by decide) hr rfl (r_cons (r_var (L2.pv 7)) (r_cons (r_var (L2.pv 8)) r_nil))))) (T3 (M2 (S3 hu) Z1 (as6 D_Hand_deeds (by decide) hr (B.cls _ (by decide)) (a08 D0_Hand rfl) (r_cons (r_var (L2.pv 2)) r_nil) (by decide +kernel)) (Y5 r_nil) (L2.nomark _)))))
 (C8 (E9 ae8))
 J0)
  refine @C4 _ _ _ _ _ _ ?_ ?_
  refine @ao6 _ _ _ _ _ ?_ ?_
  refine @aj1 _ _ _ _ _ _ _ _ ?_ ?_ ?_ ?_ ?_ ?_
  exact (r_var (L2.pv 7))
  refine @K8 _ _ _ _ _ _ ?_;refine @r_cons _ _ _ _ _ _ ?_ ?_ (by exact C1 rfl);exact u6;refine @r_cons _ _ _ _ _ _ ?_ ?_ (by exact C1 rfl);refine @K8 _ _ _ _ _ _ ?_;refine @r_cons _ _ _ _ _ _ ?_ ?_ (by exact C1 rfl);exact r_int;refine @r_cons _ _ _ _ _ _ ?_ ?_ (by exact C1 rfl);exact r_int;exact r_nil;exact r_nil
  rfl
  exact C1 rfl
  rfl
  rfl
  rfl
  exact (C4 (S0 (L2.PW.pt (Y4 (M2 (S3 hu) Z1 (Z5 D_Ledger_laid (by decide) hr (B.cls _ (by decide)) (r_var (L2.pv 2)) (by decide +kernel)) (Y5 r_nil) (L2.nomark _)) (T3 (M2 (S3 hu) Z1 (Z5 D_Ledger_turn (by decide) hr (B.cls _ (by decide)) (r_var (L2.pv 2)) (by decide +kernel)) (r_var (L2.pv 6)) (L2.nomark _)))))
 (C8 (E9 ae8))
 J0)
 (C8 (ao6 (Z5 D_Ledger_move (by decide) hr (B.cls _ (by decide)) (r_var (L2.pv 2)) (by decide +kernel)))))
  exact λ_=>rfl
  exact (C8 (E9 ae8))
end
theorem ag7 {vs:List PV} {A A':PHp} {v:PV} (h:J8 vs A=.ok v A'):v=.non:=t8 (E8 (af7 U8 Z4) (E8 at2 (E8 (af7 U8 Z4) (E8 G7 G7)))) h
theorem aa9 {vs:List PV} {A A':PHp} {v:PV} (h:J7 vs A=.ok v A'):v=.non:=t8 (E8 (af7 U8 Z4) (E8 at2 (E8 (aM7 (E8 (af7 U8 Z4) aF8)) (E8 G7 (E8 G7 (E8 G7 (E8 G7 G7))))))) h
theorem j6 {vs:List PV} {A A':PHp} {v:PV} (h:G3 vs A=.ok v A'):v=.non:=t8 (E8 G7 (E8 G7 (E8 G7 (E8 G7 (E8 G7 (E8 G7 G7)))))) h
theorem ab0 {vs:List PV} {A A':PHp} {v:PV} (h:J6 vs A=.ok v A'):v=.non:=t8 G7 h
theorem j7 {vs:List PV} {A A':PHp} {v:PV} (h:E4 vs A=.ok v A'):v=.non:=t8 G7 h
theorem aW7 {l:PySem.W.OpenLaw} {w:World} {K:PySem.W.Frag} {h:Heap} {mg:Str->Option Value} {fa:Addr} (X:K.In h) (G:h.Ns mainGlobals mg) (hfa:mg "law" = some (.ref fa))
 {C_Web:Addr}
 {C_Ledger:Addr}
 {C_Hand:Addr}
 {C_Free:Addr}
 {C_Keeper:Addr}
 {C_Plan:Addr}
 {f0:Addr} {od0 an0:Option Addr} {sl0:Array (Option Value)} {oc0 kV0 dc0 pm0 cd0 ct0:Value}
 {f1:Addr} {od1 an1:Option Addr} {sl1:Array (Option Value)} {oc1 kV1 dc1 pm1 cd1 ct1:Value}
 {f2:Addr} {od2 an2:Option Addr} {sl2:Array (Option Value)} {oc2 kV2 dc2 pm2 cd2 ct2:Value}
 {f3:Addr} {od3 an3:Option Addr} {sl3:Array (Option Value)} {oc3 kV3 dc3 pm3 cd3 ct3:Value}
 {f4:Addr} {od4 an4:Option Addr} {sl4:Array (Option Value)} {oc4 kV4 dc4 pm4 cd4 ct4:Value}
 {f5:Addr} {od5 an5:Option Addr} {sl5:Array (Option Value)} {oc5 kV5 dc5 pm5 cd5 ct5:Value}
 {f6:Addr} {od6 an6:Option Addr} {sl6:Array (Option Value)} {oc6 kV6 dc6 pm6 cd6 ct6:Value}
 {f7:Addr} {od7 an7:Option Addr} {sl7:Array (Option Value)} {oc7 kV7 dc7 pm7 cd7 ct7:Value}
 {f8:Addr} {od8 an8:Option Addr} {sl8:Array (Option Value)} {oc8 kV8 dc8 pm8 cd8 ct8:Value}
 {f9:Addr} {od9 an9:Option Addr} {sl9:Array (Option Value)} {oc9 kV9 dc9 pm9 cd9 ct9:Value}
 {f10:Addr} {od10 an10:Option Addr} {sl10:Array (Option Value)} {oc10 kV10 dc10 pm10 cd10 ct10:Value}
 {T10:Addr} {tc10:Value} {td10:Option Addr} {tn10:Nat} {ts10:Array (Option Value)}
 {f11:Addr} {od11 an11:Option Addr} {sl11:Array (Option Value)} {oc11 kV11 dc11 pm11 cd11 ct11:Value}
 {f12:Addr} {od12 an12:Option Addr} {sl12:Array (Option Value)} {oc12 kV12 dc12 pm12 cd12 ct12:Value}
 {f13:Addr} {od13 an13:Option Addr} {sl13:Array (Option Value)} {oc13 kV13 dc13 pm13 cd13 ct13:Value}
 {f14:Addr} {od14 an14:Option Addr} {sl14:Array (Option Value)} {oc14 kV14 dc14 pm14 cd14 ct14:Value}
 {f15:Addr} {od15 an15:Option Addr} {sl15:Array (Option Value)} {oc15 kV15 dc15 pm15 cd15 ct15:Value}
 {f16:Addr} {od16 an16:Option Addr} {sl16:Array (Option Value)} {oc16 kV16 dc16 pm16 cd16 ct16:Value}
 {f17:Addr} {od17 an17:Option Addr} {sl17:Array (Option Value)} {oc17 kV17 dc17 pm17 cd17 ct17:Value}
 {f18:Addr} {od18 an18:Option Addr} {sl18:Array (Option Value)} {oc18 kV18 dc18 pm18 cd18 ct18:Value}
 {f19:Addr} {od19 an19:Option Addr} {sl19:Array (Option Value)} {oc19 kV19 dc19 pm19 cd19 ct19:Value}
 {f20:Addr} {od20 an20:Option Addr} {sl20:Array (Option Value)} {oc20 kV20 dc20 pm20 cd20 ct20:Value}
 {f21:Addr} {od21 an21:Option Addr} {sl21:Array (Option Value)} {oc21 kV21 dc21 pm21 cd21 ct21:Value}
 {t_FEWEST_HANDS:Tok}
 {t_MOST_HANDS:Tok}
 (aC_Web:PySem.W.nsIn K mainGlobals "Web" = some (some (.ref C_Web)))
 (aC_Ledger:PySem.W.nsIn K mainGlobals "Ledger" = some (some (.ref C_Ledger)))
 (aC_Hand:PySem.W.nsIn K mainGlobals "Hand" = some (some (.ref C_Hand)))
 (aC_Free:PySem.W.nsIn K mainGlobals "Free" = some (some (.ref C_Free)))
 (aC_Keeper:PySem.W.nsIn K mainGlobals "Keeper" = some (some (.ref C_Keeper)))
 (aC_Plan:PySem.W.nsIn K mainGlobals "Plan" = some (some (.ref C_Plan)))
 (a0:PySem.W.nsIn K mainGlobals "is_rising" = some (some (.ref f0)))
 (l0:K.lookup f0=some ⟨oc0,od0,.func (PySem.W.fnOf "is_rising" "is_rising" (L2.C3 (top 23)) (L2.C2 (top 23)) (L2.B6 (top 23)) .none kV0 dc0 pm0 an0 cd0 ct0),sl0⟩)
 (c0:PySem.W.codeIn K cd0 "is_rising" = true)
 (k0:PySem.W.keepIn K (.ref f0)=true)
 (a1:PySem.W.nsIn K mainGlobals "is_whole" = some (some (.ref f1)))
 (l1:K.lookup f1=some ⟨oc1,od1,.func (PySem.W.fnOf "is_whole" "is_whole" (L2.C3 (top 8)) (L2.C2 (top 8)) (L2.B6 (top 8)) .none kV1 dc1 pm1 an1 cd1 ct1),sl1⟩)
 (c1:PySem.W.codeIn K cd1 "is_whole" = true)
 (k1:PySem.W.keepIn K (.ref f1)=true)
 (a2:PySem.W.nsIn K mainGlobals "is_hand" = some (some (.ref f2)))
 (l2:K.lookup f2=some ⟨oc2,od2,.func (PySem.W.fnOf "is_hand" "is_hand" (L2.C3 (top 9)) (L2.C2 (top 9)) (L2.B6 (top 9)) .none kV2 dc2 pm2 an2 cd2 ct2),sl2⟩)
 (c2:PySem.W.codeIn K cd2 "is_hand" = true)
 (k2:PySem.W.keepIn K (.ref f2)=true)
 (a3:PySem.W.nsIn K mainGlobals "are_leaders" = some (some (.ref f3)))
 (l3:K.lookup f3=some ⟨oc3,od3,.func (PySem.W.fnOf "are_leaders" "are_leaders" (L2.C3 (top 24)) (L2.C2 (top 24)) (L2.B6 (top 24)) .none kV3 dc3 pm3 an3 cd3 ct3),sl3⟩)
 (c3:PySem.W.codeIn K cd3 "are_leaders" = true)
 (k3:PySem.W.keepIn K (.ref f3)=true)
 (a4:PySem.W.nsIn K mainGlobals "is_limit" = some (some (.ref f4)))
 (l4:K.lookup f4=some ⟨oc4,od4,.func (PySem.W.fnOf "is_limit" "is_limit" (L2.C3 (top 25)) (L2.C2 (top 25)) (L2.B6 (top 25)) .none kV4 dc4 pm4 an4 cd4 ct4),sl4⟩)
 (c4:PySem.W.codeIn K cd4 "is_limit" = true)
 (k4:PySem.W.keepIn K (.ref f4)=true)
 (a5:PySem.W.findIn K (.ref C_Plan) "__init__" = some (some (.ref f5)))
 (i5:PySem.W.isFn K (.ref f5)=true)
 (l5:K.lookup f5=some ⟨oc5,od5,.func (PySem.W.fnOf "__init__" "Plan.__init__" (L2.C3 (L2.B9 (top 26) 0)) (L2.C2 (L2.B9 (top 26) 0)) (L2.B6 (L2.B9 (top 26) 0)) .none kV5 dc5 pm5 an5 cd5 ct5),sl5⟩)
 (c5:PySem.W.codeIn K cd5 "Plan.__init__" = true)
 (k5:PySem.W.keepIn K (.ref f5)=true)
 (a6:PySem.W.nsIn K mainGlobals "is_number_of_hands" = some (some (.ref f6)))
 (l6:K.lookup f6=some ⟨oc6,od6,.func (PySem.W.fnOf "is_number_of_hands" "is_number_of_hands" (L2.C3 (top 10)) (L2.C2 (top 10)) (L2.B6 (top 10)) .none kV6 dc6 pm6 an6 cd6 ct6),sl6⟩)
 (c6:PySem.W.codeIn K cd6 "is_number_of_hands" = true)
 (k6:PySem.W.keepIn K (.ref f6)=true)
 (a7:PySem.W.nsIn K mainGlobals "is_passing" = some (some (.ref f7)))
 (l7:K.lookup f7=some ⟨oc7,od7,.func (PySem.W.fnOf "is_passing" "is_passing" (L2.C3 (top 11)) (L2.C2 (top 11)) (L2.B6 (top 11)) .none kV7 dc7 pm7 an7 cd7 ct7),sl7⟩)
 (c7:PySem.W.codeIn K cd7 "is_passing" = true)
 (k7:PySem.W.keepIn K (.ref f7)=true)
 (a8:PySem.W.nsIn K mainGlobals "first_wrong_passing" = some (some (.ref f8)))
 (l8:K.lookup f8=some ⟨oc8,od8,.func (PySem.W.fnOf "first_wrong_passing" "first_wrong_passing" (L2.C3 (top 12)) (L2.C2 (top 12)) (L2.B6 (top 12)) .none kV8 dc8 pm8 an8 cd8 ct8),sl8⟩)
 (c8:PySem.W.codeIn K cd8 "first_wrong_passing" = true)
 (k8:PySem.W.keepIn K (.ref f8)=true)
 (a9:PySem.W.findIn K (.ref C_Web) "__init__" = some (some (.ref f9)))
 (i9:PySem.W.isFn K (.ref f9)=true)
 (l9:K.lookup f9=some ⟨oc9,od9,.func (PySem.W.fnOf "__init__" "Web.__init__" (L2.C3 (L2.B9 (top 13) 0)) (L2.C2 (L2.B9 (top 13) 0)) (L2.B6 (L2.B9 (top 13) 0)) .none kV9 dc9 pm9 an9 cd9 ct9),sl9⟩)
 (c9:PySem.W.codeIn K cd9 "Web.__init__" = true)
 (k9:PySem.W.keepIn K (.ref f9)=true)
 (a10:PySem.W.findIn K (.ref C_Ledger) "__init__" = some (some (.ref f10)))
 (i10:PySem.W.isFn K (.ref f10)=true)
 (l10:K.lookup f10=some ⟨oc10,od10,.func (PySem.W.fnOf "__init__" "Ledger.__init__" (L2.C3 (L2.B9 (top 17) 0)) (L2.C2 (L2.B9 (top 17) 0)) (L2.B6 (L2.B9 (top 17) 0)) (.ref T10) kV10 dc10 pm10 an10 cd10 ct10),sl10⟩)
 (c10:PySem.W.codeIn K cd10 "Ledger.__init__" = true)
 (k10:PySem.W.keepIn K (.ref f10)=true)
 (t10:K.lookup T10=some ⟨tc10,td10,.seq #[.none] tn10,ts10⟩)
 (a11:PySem.W.nsIn K mainGlobals "_law_deed" = some (some (.ref f11)))
 (l11:K.lookup f11=some ⟨oc11,od11,.func (PySem.W.fnOf "_law_deed" "_law_deed" (L2.C3 (top 30)) (L2.C2 (top 30)) (L2.B6 (top 30)) .none kV11 dc11 pm11 an11 cd11 ct11),sl11⟩)
 (c11:PySem.W.codeIn K cd11 "_law_deed" = true)
 (k11:PySem.W.keepIn K (.ref f11)=true)
 (a12:PySem.W.findIn K (.ref C_Free) "__init__" = some (some (.ref f12)))
 (i12:PySem.W.isFn K (.ref f12)=true)
 (l12:K.lookup f12=some ⟨oc12,od12,.func (PySem.W.fnOf "__init__" "Free.__init__" (L2.C3 (L2.B9 (top 20) 0)) (L2.C2 (L2.B9 (top 20) 0)) (L2.B6 (L2.B9 (top 20) 0)) .none kV12 dc12 pm12 an12 cd12 ct12),sl12⟩)
 (c12:PySem.W.codeIn K cd12 "Free.__init__" = true)
 (k12:PySem.W.keepIn K (.ref f12)=true)
 (a13:PySem.W.findIn K (.ref C_Keeper) "__init__" = some (some (.ref f13)))
 (i13:PySem.W.isFn K (.ref f13)=true)
 (l13:K.lookup f13=some ⟨oc13,od13,.func (PySem.W.fnOf "__init__" "Keeper.__init__" (L2.C3 (L2.B9 (top 21) 0)) (L2.C2 (L2.B9 (top 21) 0)) (L2.B6 (L2.B9 (top 21) 0)) .none kV13 dc13 pm13 an13 cd13 ct13),sl13⟩)
 (c13:PySem.W.codeIn K cd13 "Keeper.__init__" = true)
 (k13:PySem.W.keepIn K (.ref f13)=true)
 (a14:PySem.W.nsIn K mainGlobals "_law_cell_at" = some (some (.ref f14)))
 (l14:K.lookup f14=some ⟨oc14,od14,.func (PySem.W.fnOf "_law_cell_at" "_law_cell_at" (L2.C3 (top 28)) (L2.C2 (top 28)) (L2.B6 (top 28)) .none kV14 dc14 pm14 an14 cd14 ct14),sl14⟩)
 (c14:PySem.W.codeIn K cd14 "_law_cell_at" = true)
 (k14:PySem.W.keepIn K (.ref f14)=true)
 (a15:PySem.W.findIn K (.ref C_Ledger) "turn" = some (some (.ref f15)))
 (i15:PySem.W.isFn K (.ref f15)=true)
 (l15:K.lookup f15=some ⟨oc15,od15,.func (PySem.W.fnOf "turn" "Ledger.turn" (L2.C3 (L2.B9 (top 17) 1)) (L2.C2 (L2.B9 (top 17) 1)) (L2.B6 (L2.B9 (top 17) 1)) .none kV15 dc15 pm15 an15 cd15 ct15),sl15⟩)
 (c15:PySem.W.codeIn K cd15 "Ledger.turn" = true)
 (k15:PySem.W.keepIn K (.ref f15)=true)
 (a16:PySem.W.findIn K (.ref C_Free) "deeds" = some (some (.ref f16)))
 (i16:PySem.W.isFn K (.ref f16)=true)
 (l16:K.lookup f16=some ⟨oc16,od16,.func (PySem.W.fnOf "deeds" "Free.deeds" (L2.C3 (L2.B9 (top 20) 1)) (L2.C2 (L2.B9 (top 20) 1)) (L2.B6 (L2.B9 (top 20) 1)) .none kV16 dc16 pm16 an16 cd16 ct16),sl16⟩)
 (c16:PySem.W.codeIn K cd16 "Free.deeds" = true)
 (k16:PySem.W.keepIn K (.ref f16)=true)
 (a17:PySem.W.findIn K (.ref C_Hand) "deeds" = some (some (.ref f17)))
 (i17:PySem.W.isFn K (.ref f17)=true)
 (l17:K.lookup f17=some ⟨oc17,od17,.func (PySem.W.fnOf "deeds" "Hand.deeds" (L2.C3 (L2.B9 (top 19) 0)) (L2.C2 (L2.B9 (top 19) 0)) (L2.B6 (L2.B9 (top 19) 0)) .none kV17 dc17 pm17 an17 cd17 ct17),sl17⟩)
 (c17:PySem.W.codeIn K cd17 "Hand.deeds" = true)
 (k17:PySem.W.keepIn K (.ref f17)=true)
 (a18:PySem.W.nsIn K mainGlobals "_law_alike" = some (some (.ref f18)))
 (l18:K.lookup f18=some ⟨oc18,od18,.func (PySem.W.fnOf "_law_alike" "_law_alike" (L2.C3 (top 29)) (L2.C2 (top 29)) (L2.B6 (top 29)) .none kV18 dc18 pm18 an18 cd18 ct18),sl18⟩)
 (c18:PySem.W.codeIn K cd18 "_law_alike" = true)
 (k18:PySem.W.keepIn K (.ref f18)=true)
 (a19:PySem.W.findIn K (.ref C_Ledger) "laid" = some (some (.ref f19)))
 (i19:PySem.W.isFn K (.ref f19)=true)
 (l19:K.lookup f19=some ⟨oc19,od19,.func (PySem.W.fnOf "laid" "Ledger.laid" (L2.C3 (L2.B9 (top 17) 12)) (L2.C2 (L2.B9 (top 17) 12)) (L2.B6 (L2.B9 (top 17) 12)) .none kV19 dc19 pm19 an19 cd19 ct19),sl19⟩)
 (c19:PySem.W.codeIn K cd19 "Ledger.laid" = true)
 (k19:PySem.W.keepIn K (.ref f19)=true)
 (a20:PySem.W.findIn K (.ref C_Ledger) "move" = some (some (.ref f20)))
 (i20:PySem.W.isFn K (.ref f20)=true)
 (l20:K.lookup f20=some ⟨oc20,od20,.func (PySem.W.fnOf "move" "Ledger.move" (L2.C3 (L2.B9 (top 17) 2)) (L2.C2 (L2.B9 (top 17) 2)) (L2.B6 (L2.B9 (top 17) 2)) .none kV20 dc20 pm20 an20 cd20 ct20),sl20⟩)
 (c20:PySem.W.codeIn K cd20 "Ledger.move" = true)
 (k20:PySem.W.keepIn K (.ref f20)=true)
 (a21:PySem.W.nsIn K mainGlobals "law" = some (some (.ref f21)))
 (l21:K.lookup f21=some ⟨oc21,od21,.func (PySem.W.fnOf "law" "law" (L2.C3 (top 31)) (L2.C2 (top 31)) (L2.B6 (top 31)) .none kV21 dc21 pm21 an21 cd21 ct21),sl21⟩)
 (c21:PySem.W.codeIn K cd21 "law" = true)
 (k21:PySem.W.keepIn K (.ref f21)=true)
 (pg_Web:PySem.W.plainGet K C_Web Str.empty=true)
 (hd_Web:PySem.W.hasDictIn K C_Web=true)
 (po_Web:PySem.W.plainOver K C_Web=true)
 (sa_Web:PySem.W.findIn K (.ref C_Web) "__setattr__" = some (some (.builtin "object.__setattr__")))
 (mk_Web:PySem.W.makesIn K C_Web=true)
 (kc_Web:PySem.W.keepIn K (.ref C_Web)=true)
 (n0_Web:PySem.W.findIn K (.ref C_Web) "number" = some none)
 (n1_Web:PySem.W.findIn K (.ref C_Web) "passings" = some none)
 (n2_Web:PySem.W.findIn K (.ref C_Web) "at" = some none)
 (n3_Web:PySem.W.findIn K (.ref C_Web) "web" = some none)
 (n4_Web:PySem.W.findIn K (.ref C_Web) "leaders" = some none)
 (n5_Web:PySem.W.findIn K (.ref C_Web) "limits" = some none)
 (n6_Web:PySem.W.findIn K (.ref C_Web) "plan" = some none)
 (n7_Web:PySem.W.findIn K (.ref C_Web) "free" = some none)
 (n8_Web:PySem.W.findIn K (.ref C_Web) "ledger" = some none)
 (n9_Web:PySem.W.findIn K (.ref C_Web) "kept_leaders" = some none)
 (n10_Web:PySem.W.findIn K (.ref C_Web) "kept_limits" = some none)
 (n11_Web:PySem.W.findIn K (.ref C_Web) "kept_free" = some none)
 (n12_Web:PySem.W.findIn K (.ref C_Web) "now" = some none)
 (n13_Web:PySem.W.findIn K (.ref C_Web) "turns_of_lays" = some none)
 (n14_Web:PySem.W.findIn K (.ref C_Web) "sayings" = some none)
 (n15_Web:PySem.W.findIn K (.ref C_Web) "first_turns" = some none)
 (n16_Web:PySem.W.findIn K (.ref C_Web) "does" = some none)
 (n17_Web:PySem.W.findIn K (.ref C_Web) "me" = some none)
 (n18_Web:PySem.W.findIn K (.ref C_Web) "open_boxes" = some none)
 (pg_Ledger:PySem.W.plainGet K C_Ledger Str.empty=true)
 (hd_Ledger:PySem.W.hasDictIn K C_Ledger=true)
 (po_Ledger:PySem.W.plainOver K C_Ledger=true)
 (sa_Ledger:PySem.W.findIn K (.ref C_Ledger) "__setattr__" = some (some (.builtin "object.__setattr__")))
 (mk_Ledger:PySem.W.makesIn K C_Ledger=true)
 (kc_Ledger:PySem.W.keepIn K (.ref C_Ledger)=true)
 (n0_Ledger:PySem.W.findIn K (.ref C_Ledger) "number" = some none)
 (n1_Ledger:PySem.W.findIn K (.ref C_Ledger) "passings" = some none)
 (n2_Ledger:PySem.W.findIn K (.ref C_Ledger) "at" = some none)
 (n3_Ledger:PySem.W.findIn K (.ref C_Ledger) "web" = some none)
 (n4_Ledger:PySem.W.findIn K (.ref C_Ledger) "leaders" = some none)
 (n5_Ledger:PySem.W.findIn K (.ref C_Ledger) "limits" = some none)
 (n6_Ledger:PySem.W.findIn K (.ref C_Ledger) "plan" = some none)
 (n7_Ledger:PySem.W.findIn K (.ref C_Ledger) "free" = some none)
 (n8_Ledger:PySem.W.findIn K (.ref C_Ledger) "ledger" = some none)
 (n9_Ledger:PySem.W.findIn K (.ref C_Ledger) "kept_leaders" = some none)
 (n10_Ledger:PySem.W.findIn K (.ref C_Ledger) "kept_limits" = some none)
 (n11_Ledger:PySem.W.findIn K (.ref C_Ledger) "kept_free" = some none)
 (n12_Ledger:PySem.W.findIn K (.ref C_Ledger) "now" = some none)
 (n13_Ledger:PySem.W.findIn K (.ref C_Ledger) "turns_of_lays" = some none)
 (n14_Ledger:PySem.W.findIn K (.ref C_Ledger) "sayings" = some none)
 (n15_Ledger:PySem.W.findIn K (.ref C_Ledger) "first_turns" = some none)
 (n16_Ledger:PySem.W.findIn K (.ref C_Ledger) "does" = some none)
 (n17_Ledger:PySem.W.findIn K (.ref C_Ledger) "me" = some none)
 (n18_Ledger:PySem.W.findIn K (.ref C_Ledger) "open_boxes" = some none)
 (pg_Hand:PySem.W.plainGet K C_Hand Str.empty=true)
 (hd_Hand:PySem.W.hasDictIn K C_Hand=true)
 (po_Hand:PySem.W.plainOver K C_Hand=true)
 (sa_Hand:PySem.W.findIn K (.ref C_Hand) "__setattr__" = some (some (.builtin "object.__setattr__")))
 (mk_Hand:PySem.W.makesIn K C_Hand=true)
 (kc_Hand:PySem.W.keepIn K (.ref C_Hand)=true)
 (n0_Hand:PySem.W.findIn K (.ref C_Hand) "number" = some none)
 (n1_Hand:PySem.W.findIn K (.ref C_Hand) "passings" = some none)
 (n2_Hand:PySem.W.findIn K (.ref C_Hand) "at" = some none)
 (n3_Hand:PySem.W.findIn K (.ref C_Hand) "web" = some none)
 (n4_Hand:PySem.W.findIn K (.ref C_Hand) "leaders" = some none)
 (n5_Hand:PySem.W.findIn K (.ref C_Hand) "limits" = some none)
 (n6_Hand:PySem.W.findIn K (.ref C_Hand) "plan" = some none)
 (n7_Hand:PySem.W.findIn K (.ref C_Hand) "free" = some none)
 (n8_Hand:PySem.W.findIn K (.ref C_Hand) "ledger" = some none)
 (n9_Hand:PySem.W.findIn K (.ref C_Hand) "kept_leaders" = some none)
 (n10_Hand:PySem.W.findIn K (.ref C_Hand) "kept_limits" = some none)
 (n11_Hand:PySem.W.findIn K (.ref C_Hand) "kept_free" = some none)
 (n12_Hand:PySem.W.findIn K (.ref C_Hand) "now" = some none)
 (n13_Hand:PySem.W.findIn K (.ref C_Hand) "turns_of_lays" = some none)
 (n14_Hand:PySem.W.findIn K (.ref C_Hand) "sayings" = some none)
 (n15_Hand:PySem.W.findIn K (.ref C_Hand) "first_turns" = some none)
 (n16_Hand:PySem.W.findIn K (.ref C_Hand) "does" = some none)
 (n17_Hand:PySem.W.findIn K (.ref C_Hand) "me" = some none)
 (n18_Hand:PySem.W.findIn K (.ref C_Hand) "open_boxes" = some none)
 (pg_Free:PySem.W.plainGet K C_Free Str.empty=true)
 (hd_Free:PySem.W.hasDictIn K C_Free=true)
 (po_Free:PySem.W.plainOver K C_Free=true)
 (sa_Free:PySem.W.findIn K (.ref C_Free) "__setattr__" = some (some (.builtin "object.__setattr__")))
 (mk_Free:PySem.W.makesIn K C_Free=true)
 (kc_Free:PySem.W.keepIn K (.ref C_Free)=true)
 (n0_Free:PySem.W.findIn K (.ref C_Free) "number" = some none)
 (n1_Free:PySem.W.findIn K (.ref C_Free) "passings" = some none)
 (n2_Free:PySem.W.findIn K (.ref C_Free) "at" = some none)
 (n3_Free:PySem.W.findIn K (.ref C_Free) "web" = some none)
 (n4_Free:PySem.W.findIn K (.ref C_Free) "leaders" = some none)
 (n5_Free:PySem.W.findIn K (.ref C_Free) "limits" = some none)
 (n6_Free:PySem.W.findIn K (.ref C_Free) "plan" = some none)
 (n7_Free:PySem.W.findIn K (.ref C_Free) "free" = some none)
 (n8_Free:PySem.W.findIn K (.ref C_Free) "ledger" = some none)
 (n9_Free:PySem.W.findIn K (.ref C_Free) "kept_leaders" = some none)
 (n10_Free:PySem.W.findIn K (.ref C_Free) "kept_limits" = some none)
 (n11_Free:PySem.W.findIn K (.ref C_Free) "kept_free" = some none)
 (n12_Free:PySem.W.findIn K (.ref C_Free) "now" = some none)
 (n13_Free:PySem.W.findIn K (.ref C_Free) "turns_of_lays" = some none)
 (n14_Free:PySem.W.findIn K (.ref C_Free) "sayings" = some none)
 (n15_Free:PySem.W.findIn K (.ref C_Free) "first_turns" = some none)
 (n16_Free:PySem.W.findIn K (.ref C_Free) "does" = some none)
 (n17_Free:PySem.W.findIn K (.ref C_Free) "me" = some none)
 (n18_Free:PySem.W.findIn K (.ref C_Free) "open_boxes" = some none)
 (pg_Keeper:PySem.W.plainGet K C_Keeper Str.empty=true)
 (hd_Keeper:PySem.W.hasDictIn K C_Keeper=true)
 (po_Keeper:PySem.W.plainOver K C_Keeper=true)
 (sa_Keeper:PySem.W.findIn K (.ref C_Keeper) "__setattr__" = some (some (.builtin "object.__setattr__")))
 (mk_Keeper:PySem.W.makesIn K C_Keeper=true)
 (kc_Keeper:PySem.W.keepIn K (.ref C_Keeper)=true)
 (n0_Keeper:PySem.W.findIn K (.ref C_Keeper) "number" = some none)
 (n1_Keeper:PySem.W.findIn K (.ref C_Keeper) "passings" = some none)
 (n2_Keeper:PySem.W.findIn K (.ref C_Keeper) "at" = some none)
 (n3_Keeper:PySem.W.findIn K (.ref C_Keeper) "web" = some none)
 (n4_Keeper:PySem.W.findIn K (.ref C_Keeper) "leaders" = some none)
 (n5_Keeper:PySem.W.findIn K (.ref C_Keeper) "limits" = some none)
 (n6_Keeper:PySem.W.findIn K (.ref C_Keeper) "plan" = some none)
 (n7_Keeper:PySem.W.findIn K (.ref C_Keeper) "free" = some none)
 (n8_Keeper:PySem.W.findIn K (.ref C_Keeper) "ledger" = some none)
 (n9_Keeper:PySem.W.findIn K (.ref C_Keeper) "kept_leaders" = some none)
 (n10_Keeper:PySem.W.findIn K (.ref C_Keeper) "kept_limits" = some none)
 (n11_Keeper:PySem.W.findIn K (.ref C_Keeper) "kept_free" = some none)
 (n12_Keeper:PySem.W.findIn K (.ref C_Keeper) "now" = some none)
 (n13_Keeper:PySem.W.findIn K (.ref C_Keeper) "turns_of_lays" = some none)
 (n14_Keeper:PySem.W.findIn K (.ref C_Keeper) "sayings" = some none)
 (n15_Keeper:PySem.W.findIn K (.ref C_Keeper) "first_turns" = some none)
 (n16_Keeper:PySem.W.findIn K (.ref C_Keeper) "does" = some none)
 (n17_Keeper:PySem.W.findIn K (.ref C_Keeper) "me" = some none)
 (n18_Keeper:PySem.W.findIn K (.ref C_Keeper) "open_boxes" = some none)
 (pg_Plan:PySem.W.plainGet K C_Plan Str.empty=true)
 (hd_Plan:PySem.W.hasDictIn K C_Plan=true)
 (po_Plan:PySem.W.plainOver K C_Plan=true)
 (sa_Plan:PySem.W.findIn K (.ref C_Plan) "__setattr__" = some (some (.builtin "object.__setattr__")))
 (mk_Plan:PySem.W.makesIn K C_Plan=true)
 (kc_Plan:PySem.W.keepIn K (.ref C_Plan)=true)
 (n0_Plan:PySem.W.findIn K (.ref C_Plan) "number" = some none)
 (n1_Plan:PySem.W.findIn K (.ref C_Plan) "passings" = some none)
 (n2_Plan:PySem.W.findIn K (.ref C_Plan) "at" = some none)
 (n3_Plan:PySem.W.findIn K (.ref C_Plan) "web" = some none)
 (n4_Plan:PySem.W.findIn K (.ref C_Plan) "leaders" = some none)
 (n5_Plan:PySem.W.findIn K (.ref C_Plan) "limits" = some none)
 (n6_Plan:PySem.W.findIn K (.ref C_Plan) "plan" = some none)
 (n7_Plan:PySem.W.findIn K (.ref C_Plan) "free" = some none)
 (n8_Plan:PySem.W.findIn K (.ref C_Plan) "ledger" = some none)
 (n9_Plan:PySem.W.findIn K (.ref C_Plan) "kept_leaders" = some none)
 (n10_Plan:PySem.W.findIn K (.ref C_Plan) "kept_limits" = some none)
 (n11_Plan:PySem.W.findIn K (.ref C_Plan) "kept_free" = some none)
 (n12_Plan:PySem.W.findIn K (.ref C_Plan) "now" = some none)
 (n13_Plan:PySem.W.findIn K (.ref C_Plan) "turns_of_lays" = some none)
 (n14_Plan:PySem.W.findIn K (.ref C_Plan) "sayings" = some none)
 (n15_Plan:PySem.W.findIn K (.ref C_Plan) "first_turns" = some none)
 (n16_Plan:PySem.W.findIn K (.ref C_Plan) "does" = some none)
 (n17_Plan:PySem.W.findIn K (.ref C_Plan) "me" = some none)
 (n18_Plan:PySem.W.findIn K (.ref C_Plan) "open_boxes" = some none)
 (oi_Hand:PySem.W.findIn K (.ref C_Hand) "__init__" = some (some (.builtin "object.__init__")))
 (xcg:PySem.W.specialIn K (.builtin "object.__class__") "__get__" = some (some (.builtin "getset_descriptor.__get__")))
 (xct:PySem.W.takesIn K (.builtin "object.__class__")=some true)
 (ci_Hand:PySem.W.findIn K (.ref C_Hand) "__class__" = some (some (.builtin "object.__class__")))
 (mi_Hand:PySem.W.mroIn K C_Hand (.type "object")=some true)
 (kt_Hand_Hand:PySem.W.kitOne K (.ref C_Hand) (.ref C_Hand)=some true)
 (kt_Hand_Free:PySem.W.kitOne K (.ref C_Hand) (.ref C_Free)=some false)
 (kt_Hand_Keeper:PySem.W.kitOne K (.ref C_Hand) (.ref C_Keeper)=some false)
 (ci_Free:PySem.W.findIn K (.ref C_Free) "__class__" = some (some (.builtin "object.__class__")))
 (mi_Free:PySem.W.mroIn K C_Free (.type "object")=some true)
 (kt_Free_Hand:PySem.W.kitOne K (.ref C_Free) (.ref C_Hand)=some true)
 (kt_Free_Free:PySem.W.kitOne K (.ref C_Free) (.ref C_Free)=some true)
 (kt_Free_Keeper:PySem.W.kitOne K (.ref C_Free) (.ref C_Keeper)=some false)
 (ci_Keeper:PySem.W.findIn K (.ref C_Keeper) "__class__" = some (some (.builtin "object.__class__")))
 (mi_Keeper:PySem.W.mroIn K C_Keeper (.type "object")=some true)
 (kt_Keeper_Hand:PySem.W.kitOne K (.ref C_Keeper) (.ref C_Hand)=some true)
 (kt_Keeper_Free:PySem.W.kitOne K (.ref C_Keeper) (.ref C_Free)=some false)
 (kt_Keeper_Keeper:PySem.W.kitOne K (.ref C_Keeper) (.ref C_Keeper)=some true)
 (g_FEWEST_HANDS:PySem.W.nsIn K mainGlobals "FEWEST_HANDS" = some (some (.int 2 t_FEWEST_HANDS)))
 (g_MOST_HANDS:PySem.W.nsIn K mainGlobals "MOST_HANDS" = some (some (.int 6 t_MOST_HANDS)))
 (z_str:PySem.W.nsIn K mainGlobals "str" = some none)
 (z_len:PySem.W.nsIn K mainGlobals "len" = some none)
 (z_range:PySem.W.nsIn K mainGlobals "range" = some none)
 (z_list:PySem.W.nsIn K mainGlobals "list" = some none)
 (z_sorted:PySem.W.nsIn K mainGlobals "sorted" = some none)
 (z_isinstance:PySem.W.nsIn K mainGlobals "isinstance" = some none)
 (z_int:PySem.W.nsIn K mainGlobals "int" = some none)
 (z_bool:PySem.W.nsIn K mainGlobals "bool" = some none)
 (z_tuple:PySem.W.nsIn K mainGlobals "tuple" = some none)
 (z_enumerate:PySem.W.nsIn K mainGlobals "enumerate" = some none)
 (z_reversed:PySem.W.nsIn K mainGlobals "reversed" = some none)
 (z_max:PySem.W.nsIn K mainGlobals "max" = some none)
 (z_min:PySem.W.nsIn K mainGlobals "min" = some none)
 (z_all:PySem.W.nsIn K mainGlobals "all" = some none)
 (z_any:PySem.W.nsIn K mainGlobals "any" = some none)
 (z_set:PySem.W.nsIn K mainGlobals "set" = some none)
 (z_zip:PySem.W.nsIn K mainGlobals "zip" = some none)
 (z_dict:PySem.W.nsIn K mainGlobals "dict" = some none) :
 ∃fd:FuncData,(∀(s:Shared) (v:Value),BindsTo s fd ⟨[v],[]⟩ [("_law_script",v)])/\∀base:Heap,K.In base->base.Ns mainGlobals mg->L2.FnOk l.prog w K mg base L2.CX0 7 fa fd ["_law_script"] (at3 K):=by
 have e:=hfa.symm.trans (PySem.W.mg_of X G a21)
 cases e
 have B:P3 K mg (λi=>if i=2 then C_Ledger else if i=3 then C_Hand else if i=4 then C_Free else if i=5 then C_Keeper else if i=1 then C_Plan else C_Web):=by
  refine⟨aL0 K,λc h7=>?_,λc i hi h7=>?_,PySem.W.mg_none_of X G z_len,PySem.W.mg_none_of X G z_range,PySem.W.mg_none_of X G z_list,PySem.W.mg_none_of X G z_sorted,PySem.W.mg_none_of X G z_isinstance,PySem.W.mg_none_of X G z_int,PySem.W.mg_none_of X G z_bool,PySem.W.mg_none_of X G z_tuple,PySem.W.mg_none_of X G z_enumerate,PySem.W.mg_none_of X G z_reversed,PySem.W.mg_none_of X G z_max,PySem.W.mg_none_of X G z_min,PySem.W.mg_none_of X G z_all,PySem.W.mg_none_of X G z_any,PySem.W.mg_none_of X G z_set,PySem.W.mg_none_of X G z_zip,PySem.W.mg_none_of X G z_dict⟩
  ·by_cases h0:c=2;· subst h0;exact⟨pg_Ledger,hd_Ledger,po_Ledger,sa_Ledger⟩
   by_cases h1:c=3;· subst h1;exact⟨pg_Hand,hd_Hand,po_Hand,sa_Hand⟩
   by_cases h2:c=4;· subst h2;exact⟨pg_Free,hd_Free,po_Free,sa_Free⟩
   by_cases h3:c=5;· subst h3;exact⟨pg_Keeper,hd_Keeper,po_Keeper,sa_Keeper⟩
   by_cases h4:c=1;· subst h4;exact⟨pg_Plan,hd_Plan,po_Plan,sa_Plan⟩
   simp only [h0,h1,h2,h3,h4,if_false];exact⟨pg_Web,hd_Web,po_Web,sa_Web⟩
  ·by_cases h0:c=2;· subst h0;exact (match i,hi with | 0,_=>n0_Ledger | 1,_=>n1_Ledger | 2,_=>n2_Ledger | 3,_=>n3_Ledger | 4,_=>n4_Ledger | 5,_=>n5_Ledger | 6,_=>n6_Ledger | 7,_=>n7_Ledger | 8,_=>n8_Ledger | 9,_=>n9_Ledger | 10,_=>n10_Ledger | 11,_=>n11_Ledger | 12,_=>n12_Ledger | 13,_=>n13_Ledger | 14,_=>n14_Ledger | 15,_=>n15_Ledger | 16,_=>n16_Ledger | 17,_=>n17_Ledger | 18,_=>n18_Ledger | i+19,hi=>absurd hi (by omega))
   by_cases h1:c=3;· subst h1;exact (match i,hi with | 0,_=>n0_Hand | 1,_=>n1_Hand | 2,_=>n2_Hand | 3,_=>n3_Hand | 4,_=>n4_Hand | 5,_=>n5_Hand | 6,_=>n6_Hand | 7,_=>n7_Hand | 8,_=>n8_Hand | 9,_=>n9_Hand | 10,_=>n10_Hand | 11,_=>n11_Hand | 12,_=>n12_Hand | 13,_=>n13_Hand | 14,_=>n14_Hand | 15,_=>n15_Hand | 16,_=>n16_Hand | 17,_=>n17_Hand | 18,_=>n18_Hand | i+19,hi=>absurd hi (by omega))
   by_cases h2:c=4;· subst h2;exact (match i,hi with | 0,_=>n0_Free | 1,_=>n1_Free | 2,_=>n2_Free | 3,_=>n3_Free | 4,_=>n4_Free | 5,_=>n5_Free | 6,_=>n6_Free | 7,_=>n7_Free | 8,_=>n8_Free | 9,_=>n9_Free | 10,_=>n10_Free | 11,_=>n11_Free | 12,_=>n12_Free | 13,_=>n13_Free | 14,_=>n14_Free | 15,_=>n15_Free | 16,_=>n16_Free | 17,_=>n17_Free | 18,_=>n18_Free | i+19,hi=>absurd hi (by omega))
   by_cases h3:c=5;· subst h3;exact (match i,hi with | 0,_=>n0_Keeper | 1,_=>n1_Keeper | 2,_=>n2_Keeper | 3,_=>n3_Keeper | 4,_=>n4_Keeper | 5,_=>n5_Keeper | 6,_=>n6_Keeper | 7,_=>n7_Keeper | 8,_=>n8_Keeper | 9,_=>n9_Keeper | 10,_=>n10_Keeper | 11,_=>n11_Keeper | 12,_=>n12_Keeper | 13,_=>n13_Keeper | 14,_=>n14_Keeper | 15,_=>n15_Keeper | 16,_=>n16_Keeper | 17,_=>n17_Keeper | 18,_=>n18_Keeper | i+19,hi=>absurd hi (by omega))
   by_cases h4:c=1;· subst h4;exact (match i,hi with | 0,_=>n0_Plan | 1,_=>n1_Plan | 2,_=>n2_Plan | 3,_=>n3_Plan | 4,_=>n4_Plan | 5,_=>n5_Plan | 6,_=>n6_Plan | 7,_=>n7_Plan | 8,_=>n8_Plan | 9,_=>n9_Plan | 10,_=>n10_Plan | 11,_=>n11_Plan | 12,_=>n12_Plan | 13,_=>n13_Plan | 14,_=>n14_Plan | 15,_=>n15_Plan | 16,_=>n16_Plan | 17,_=>n17_Plan | 18,_=>n18_Plan | i+19,hi=>absurd hi (by omega))
   simp only [h0,h1,h2,h3,h4,if_false];exact (match i,hi with | 0,_=>n0_Web | 1,_=>n1_Web | 2,_=>n2_Web | 3,_=>n3_Web | 4,_=>n4_Web | 5,_=>n5_Web | 6,_=>n6_Web | 7,_=>n7_Web | 8,_=>n8_Web | 9,_=>n9_Web | 10,_=>n10_Web | 11,_=>n11_Web | 12,_=>n12_Web | 13,_=>n13_Web | 14,_=>n14_Web | 15,_=>n15_Web | 16,_=>n16_Web | 17,_=>n17_Web | 18,_=>n18_Web | i+19,hi=>absurd hi (by omega))
 have GL:a29 mg:=⟨⟨_,PySem.W.mg_of X G g_FEWEST_HANDS⟩,⟨_,PySem.W.mg_of X G g_MOST_HANDS⟩⟩
 have F0:=L2.G0 (st:=(top 23)) l0 c0 k0
 have b0:=F0.binds (ps:=["numbers"]) λ_ _ _ _ _ _ us hl=>match us,hl with | [_],_=>rfl
 have F1:=L2.G0 (st:=(top 8)) l1 c1 k1
 have b1:=F1.binds (ps:=["value"]) λ_ _ _ _ _ _ us hl=>match us,hl with | [_],_=>rfl
 have F2:=L2.G0 (st:=(top 9)) l2 c2 k2
 have b2:=F2.binds (ps:=["number","value"]) λ_ _ _ _ _ _ us hl=>match us,hl with | [_,_],_=>rfl
 have F3:=L2.G0 (st:=(top 24)) l3 c3 k3
 have b3:=F3.binds (ps:=["web","leaders"]) λ_ _ _ _ _ _ us hl=>match us,hl with | [_,_],_=>rfl
 have F4:=L2.G0 (st:=(top 25)) l4 c4 k4
 have b4:=F4.binds (ps:=["value"]) λ_ _ _ _ _ _ us hl=>match us,hl with | [_],_=>rfl
 have F5:=L2.G0 (st:=(L2.B9 (top 26) 0)) l5 c5 k5
 have b5:=F5.binds (ps:=["self","web","leaders","limits"]) λ_ _ _ _ _ _ us hl=>match us,hl with | [_,_,_,_],_=>rfl
 have F6:=L2.G0 (st:=(top 10)) l6 c6 k6
 have b6:=F6.binds (ps:=["value"]) λ_ _ _ _ _ _ us hl=>match us,hl with | [_],_=>rfl
 have F7:=L2.G0 (st:=(top 11)) l7 c7 k7
 have b7:=F7.binds (ps:=["number","value"]) λ_ _ _ _ _ _ us hl=>match us,hl with | [_,_],_=>rfl
 have F8:=L2.G0 (st:=(top 12)) l8 c8 k8
 have b8:=F8.binds (ps:=["number","passings"]) λ_ _ _ _ _ _ us hl=>match us,hl with | [_,_],_=>rfl
 have F9:=L2.G0 (st:=(L2.B9 (top 13) 0)) l9 c9 k9
 have b9:=F9.binds (ps:=["self","number","passings"]) λ_ _ _ _ _ _ us hl=>match us,hl with | [_,_,_],_=>rfl
 have F10:=aL6 (st:=(L2.B9 (top 17) 0)) l10 c10 k10 t10
 have b10:=F10.binds (ps:=["self","plan","free"]) (ds:=[]) 3 rfl λ_ _ _ _ _ _ _ us hl=>match us,hl with | [_,_,_],_=>⟨_,rfl,rfl⟩
 have bN10:=F10.binds (ps:=["self","plan","free"]) (ds:=[.none]) 2 rfl λ_ _ _ _ _ _ _ us hl=>match us,hl with | [_,_],_=>⟨_,rfl,rfl⟩
 have F11:=L2.G0 (st:=(top 30)) l11 c11 k11
 have b11:=F11.binds (ps:=["_law_cell"]) λ_ _ _ _ _ _ us hl=>match us,hl with | [_],_=>rfl
 have F12:=L2.G0 (st:=(L2.B9 (top 20) 0)) l12 c12 k12
 have b12:=F12.binds (ps:=["self","does"]) λ_ _ _ _ _ _ us hl=>match us,hl with | [_,_],_=>rfl
 have F13:=L2.G0 (st:=(L2.B9 (top 21) 0)) l13 c13 k13
 have b13:=F13.binds (ps:=["self","me"]) λ_ _ _ _ _ _ us hl=>match us,hl with | [_,_],_=>rfl
 have F14:=L2.G0 (st:=(top 28)) l14 c14 k14
 have b14:=F14.binds (ps:=["_law_script","_law_k"]) λ_ _ _ _ _ _ us hl=>match us,hl with | [_,_],_=>rfl
 have F15:=L2.G0 (st:=(L2.B9 (top 17) 1)) l15 c15 k15
 have b15:=F15.binds (ps:=["self"]) λ_ _ _ _ _ _ us hl=>match us,hl with | [_],_=>rfl
 have F16:=L2.G0 (st:=(L2.B9 (top 20) 1)) l16 c16 k16
 have b16:=F16.binds (ps:=["self","ledger"]) λ_ _ _ _ _ _ us hl=>match us,hl with | [_,_],_=>rfl
 have F17:=L2.G0 (st:=(L2.B9 (top 19) 0)) l17 c17 k17
 have b17:=F17.binds (ps:=["self","ledger"]) λ_ _ _ _ _ _ us hl=>match us,hl with | [_,_],_=>rfl
 have F18:=L2.G0 (st:=(top 29)) l18 c18 k18
 have b18:=F18.binds (ps:=["_law_found","_law_due"]) λ_ _ _ _ _ _ us hl=>match us,hl with | [_,_],_=>rfl
 have F19:=L2.G0 (st:=(L2.B9 (top 17) 12)) l19 c19 k19
 have b19:=F19.binds (ps:=["self"]) λ_ _ _ _ _ _ us hl=>match us,hl with | [_],_=>rfl
 have F20:=L2.G0 (st:=(L2.B9 (top 17) 2)) l20 c20 k20
 have b20:=F20.binds (ps:=["self"]) λ_ _ _ _ _ _ us hl=>match us,hl with | [_],_=>rfl
 have F21:=L2.G0 (st:=(top 31)) l21 c21 k21
 refine⟨PySem.W.fnOf "law" "law" (L2.C3 (top 31)) (L2.C2 (top 31)) (L2.B6 (top 31)) .none kV21 dc21 pm21 an21 cd21 ct21,λs v=>.of_eq rfl,λbase _ _=>?_⟩
 have D0_Hand:aG0 K mg (λi=>if i=2 then C_Ledger else if i=3 then C_Hand else if i=4 then C_Free else if i=5 then C_Keeper else if i=1 then C_Plan else C_Web) 3 "Hand":=⟨mk_Hand,oi_Hand,kc_Hand,PySem.W.mg_of X G aC_Hand,by decide⟩
 have IG:aV9 K (λi=>if i=2 then C_Ledger else if i=3 then C_Hand else if i=4 then C_Free else if i=5 then C_Keeper else if i=1 then C_Plan else C_Web) [3,4,5]:=by
  refine⟨λc hc=>?_,xcg,xct,λc hc=>?_,λc hc k hk=>?_⟩
  ·simp only [List.mem_cons,List.not_mem_nil,or_false] at hc;rcases hc with rfl | rfl | rfl
   ·exact ci_Hand
   ·exact ci_Free
   ·exact ci_Keeper
  ·simp only [List.mem_cons,List.not_mem_nil,or_false] at hc;rcases hc with rfl | rfl | rfl
   ·exact mi_Hand
   ·exact mi_Free
   ·exact mi_Keeper
  ·simp only [List.mem_cons,List.not_mem_nil,or_false] at hc;rcases hc with rfl | rfl | rfl
   ·simp only [List.mem_cons,List.not_mem_nil,or_false] at hk;rcases hk with rfl | rfl | rfl
    ·exact kt_Hand_Hand
    ·exact kt_Hand_Free
    ·exact kt_Hand_Keeper
   ·simp only [List.mem_cons,List.not_mem_nil,or_false] at hk;rcases hk with rfl | rfl | rfl
    ·exact kt_Free_Hand
    ·exact kt_Free_Free
    ·exact kt_Free_Keeper
   ·simp only [List.mem_cons,List.not_mem_nil,or_false] at hk;rcases hk with rfl | rfl | rfl
    ·exact kt_Keeper_Hand
    ·exact kt_Keeper_Free
    ·exact kt_Keeper_Keeper
 have CN_Hand:mg "Hand" = some (.ref ((λi=>if i=2 then C_Ledger else if i=3 then C_Hand else if i=4 then C_Free else if i=5 then C_Keeper else if i=1 then C_Plan else C_Web) 3)):=PySem.W.mg_of X G aC_Hand
 have CN_Free:mg "Free" = some (.ref ((λi=>if i=2 then C_Ledger else if i=3 then C_Hand else if i=4 then C_Free else if i=5 then C_Keeper else if i=1 then C_Plan else C_Web) 4)):=PySem.W.mg_of X G aC_Free
 have CN_Keeper:mg "Keeper" = some (.ref ((λi=>if i=2 then C_Ledger else if i=3 then C_Hand else if i=4 then C_Free else if i=5 then C_Keeper else if i=1 then C_Plan else C_Web) 5)):=PySem.W.mg_of X G aC_Keeper
 have BS:=PySem.W.mg_none_of X G z_str
 have O0:=ag4 (P:=l.prog) (w:=w) (base:=base) B F0
 have D_is_rising:Def l.prog w K mg base (λi=>if i=2 then C_Ledger else if i=3 then C_Hand else if i=4 then C_Free else if i=5 then C_Keeper else if i=1 then C_Plan else C_Web) "is_rising" 1 ["numbers"] L5 1:=⟨⟨_,_,O0,PySem.W.mg_of X G a0,k0,b0⟩,λvs A v A' h=>E1 h⟩
 have O1:=al2 (P:=l.prog) (w:=w) (base:=base) B F1
 have D_is_whole:Def l.prog w K mg base (λi=>if i=2 then C_Ledger else if i=3 then C_Hand else if i=4 then C_Free else if i=5 then C_Keeper else if i=1 then C_Plan else C_Web) "is_whole" 1 ["value"] G1 1:=⟨⟨_,_,O1,PySem.W.mg_of X G a1,k1,b1⟩,λvs A v A' h=>E1 h⟩
 have O2:=aq0 (P:=l.prog) (w:=w) (base:=base) B D_is_whole F2
 have D_is_hand:Def l.prog w K mg base (λi=>if i=2 then C_Ledger else if i=3 then C_Hand else if i=4 then C_Free else if i=5 then C_Keeper else if i=1 then C_Plan else C_Web) "is_hand" 2 ["number","value"] K1 2:=⟨⟨_,_,O2,PySem.W.mg_of X G a2,k2,b2⟩,λvs A v A' h=>E1 h⟩
 have O3:=y6 (P:=l.prog) (w:=w) (base:=base) B D_is_rising D_is_hand F3
 have D_are_leaders:Def l.prog w K mg base (λi=>if i=2 then C_Ledger else if i=3 then C_Hand else if i=4 then C_Free else if i=5 then C_Keeper else if i=1 then C_Plan else C_Web) "are_leaders" 3 ["web","leaders"] J3 2:=⟨⟨_,_,O3,PySem.W.mg_of X G a3,k3,b3⟩,λvs A v A' h=>E1 h⟩
 have O4:=al4 (P:=l.prog) (w:=w) (base:=base) B D_is_whole F4
 have D_is_limit:Def l.prog w K mg base (λi=>if i=2 then C_Ledger else if i=3 then C_Hand else if i=4 then C_Free else if i=5 then C_Keeper else if i=1 then C_Plan else C_Web) "is_limit" 2 ["value"] M5 1:=⟨⟨_,_,O4,PySem.W.mg_of X G a4,k4,b4⟩,λvs A v A' h=>E1 h⟩
 have O5:=ag5 (P:=l.prog) (w:=w) (base:=base) B D_are_leaders D_is_limit F5
 have D_Plan_init:s9 l.prog w K mg base (λi=>if i=2 then C_Ledger else if i=3 then C_Hand else if i=4 then C_Free else if i=5 then C_Keeper else if i=1 then C_Plan else C_Web) 1 "Plan" 4 ["self","web","leaders","limits"] J7 4:=⟨⟨_,_,O5,⟨mk_Plan,a5,i5,kc_Plan⟩,PySem.W.mg_of X G aC_Plan,b5⟩,λvs A v A' h=>⟨E1 h,aa9 h⟩⟩
 have O6:=S7 (P:=l.prog) (w:=w) (base:=base) B GL D_is_whole F6
 have D_is_number_of_hands:Def l.prog w K mg base (λi=>if i=2 then C_Ledger else if i=3 then C_Hand else if i=4 then C_Free else if i=5 then C_Keeper else if i=1 then C_Plan else C_Web) "is_number_of_hands" 2 ["value"] D6 1:=⟨⟨_,_,O6,PySem.W.mg_of X G a6,k6,b6⟩,λvs A v A' h=>E1 h⟩
 have O7:=aa5 (P:=l.prog) (w:=w) (base:=base) B D_is_hand F7
 have D_is_passing:Def l.prog w K mg base (λi=>if i=2 then C_Ledger else if i=3 then C_Hand else if i=4 then C_Free else if i=5 then C_Keeper else if i=1 then C_Plan else C_Web) "is_passing" 3 ["number","value"] K2 2:=⟨⟨_,_,O7,PySem.W.mg_of X G a7,k7,b7⟩,λvs A v A' h=>E1 h⟩
 have O8:=S5 (P:=l.prog) (w:=w) (base:=base) B D_is_passing F8
 have D_first_wrong_passing:Def l.prog w K mg base (λi=>if i=2 then C_Ledger else if i=3 then C_Hand else if i=4 then C_Free else if i=5 then C_Keeper else if i=1 then C_Plan else C_Web) "first_wrong_passing" 4 ["number","passings"] D5 2:=⟨⟨_,_,O8,PySem.W.mg_of X G a8,k8,b8⟩,λvs A v A' h=>E1 h⟩
 have O9:=al5 (P:=l.prog) (w:=w) (base:=base) B D_is_number_of_hands D_first_wrong_passing F9
 have D_Web_init:s9 l.prog w K mg base (λi=>if i=2 then C_Ledger else if i=3 then C_Hand else if i=4 then C_Free else if i=5 then C_Keeper else if i=1 then C_Plan else C_Web) 0 "Web" 5 ["self","number","passings"] J8 3:=⟨⟨_,_,O9,⟨mk_Web,a9,i9,kc_Web⟩,PySem.W.mg_of X G aC_Web,b9⟩,λvs A v A' h=>⟨E1 h,ag7 h⟩⟩
 have O10:=x9 (P:=l.prog) (w:=w) (base:=base) B F10
 have D_Ledger_init:s9 l.prog w K mg base (λi=>if i=2 then C_Ledger else if i=3 then C_Hand else if i=4 then C_Free else if i=5 then C_Keeper else if i=1 then C_Plan else C_Web) 2 "Ledger" 1 ["self","plan","free"] G3 3:=⟨⟨_,_,O10,⟨mk_Ledger,a10,i10,kc_Ledger⟩,PySem.W.mg_of X G aC_Ledger,b10⟩,λvs A v A' h=>⟨E1 h,j6 h⟩⟩
 have O11:=al6 (P:=l.prog) (w:=w) (base:=base) B F11
 have D_law_deed:Def l.prog w K mg base (λi=>if i=2 then C_Ledger else if i=3 then C_Hand else if i=4 then C_Free else if i=5 then C_Keeper else if i=1 then C_Plan else C_Web) "_law_deed" 1 ["_law_cell"] M6 1:=⟨⟨_,_,O11,PySem.W.mg_of X G a11,k11,b11⟩,λvs A v A' h=>E1 h⟩
 have O12:=ag2 (P:=l.prog) (w:=w) (base:=base) B F12
 have D_Free_init:s9 l.prog w K mg base (λi=>if i=2 then C_Ledger else if i=3 then C_Hand else if i=4 then C_Free else if i=5 then C_Keeper else if i=1 then C_Plan else C_Web) 4 "Free" 1 ["self","does"] J6 2:=⟨⟨_,_,O12,⟨mk_Free,a12,i12,kc_Free⟩,PySem.W.mg_of X G aC_Free,b12⟩,λvs A v A' h=>⟨E1 h,ab0 h⟩⟩
 have O13:=y3 (P:=l.prog) (w:=w) (base:=base) B F13
 have D_Keeper_init:s9 l.prog w K mg base (λi=>if i=2 then C_Ledger else if i=3 then C_Hand else if i=4 then C_Free else if i=5 then C_Keeper else if i=1 then C_Plan else C_Web) 5 "Keeper" 1 ["self","me"] E4 2:=⟨⟨_,_,O13,⟨mk_Keeper,a13,i13,kc_Keeper⟩,PySem.W.mg_of X G aC_Keeper,b13⟩,λvs A v A' h=>⟨E1 h,j7 h⟩⟩
 have O14:=aa0 (P:=l.prog) (w:=w) (base:=base) B F14
 have D_law_cell_at:Def l.prog w K mg base (λi=>if i=2 then C_Ledger else if i=3 then C_Hand else if i=4 then C_Free else if i=5 then C_Keeper else if i=1 then C_Plan else C_Web) "_law_cell_at" 1 ["_law_script","_law_k"] G4 2:=⟨⟨_,_,O14,PySem.W.mg_of X G a14,k14,b14⟩,λvs A v A' h=>E1 h⟩
 have O15:=z0 (P:=l.prog) (w:=w) (base:=base) B F15
 have D_Ledger_turn:g7 l.prog w K mg base (λi=>if i=2 then C_Ledger else if i=3 then C_Hand else if i=4 then C_Free else if i=5 then C_Keeper else if i=1 then C_Plan else C_Web) 2 "turn" 1 ["self"] E5 1:=⟨⟨_,_,O15,⟨a15,i15,k15⟩,b15⟩,λvs A v A' h=>E1 h⟩
 have O16:=aa8 (P:=l.prog) (w:=w) (base:=base) B D_Ledger_turn F16
 have D_Free_deeds:g7 l.prog w K mg base (λi=>if i=2 then C_Ledger else if i=3 then C_Hand else if i=4 then C_Free else if i=5 then C_Keeper else if i=1 then C_Plan else C_Web) 4 "deeds" 2 ["self","ledger"] K4 2:=⟨⟨_,_,O16,⟨a16,i16,k16⟩,b16⟩,λvs A v A' h=>E1 h⟩
 have O17:=aa7 (P:=l.prog) (w:=w) (base:=base) B F17
 have D_Hand_deeds:g7 l.prog w K mg base (λi=>if i=2 then C_Ledger else if i=3 then C_Hand else if i=4 then C_Free else if i=5 then C_Keeper else if i=1 then C_Plan else C_Web) 3 "deeds" 1 ["self","ledger"] K3 2:=⟨⟨_,_,O17,⟨a17,i17,k17⟩,b17⟩,λvs A v A' h=>E1 h⟩
 have D_law_alike_0:Def l.prog w K mg base (λi=>if i=2 then C_Ledger else if i=3 then C_Hand else if i=4 then C_Free else if i=5 then C_Keeper else if i=1 then C_Plan else C_Web) "_law_alike" 1 ["_law_found","_law_due"] Q5 2:=⟨⟨_,_,ax9,PySem.W.mg_of X G a18,k18,b18⟩,λvs A v A' h=>nomatch h⟩
 have D_law_alike_1:Def l.prog w K mg base (λi=>if i=2 then C_Ledger else if i=3 then C_Hand else if i=4 then C_Free else if i=5 then C_Keeper else if i=1 then C_Plan else C_Web) "_law_alike" 2 ["_law_found","_law_due"] V5 2:=⟨⟨_,_,L8 (P:=l.prog) (w:=w) (base:=base) B BS D_law_alike_0 F18,PySem.W.mg_of X G a18,k18,b18⟩,λvs A v A' h=>E1 h⟩
 have D_law_alike_2:Def l.prog w K mg base (λi=>if i=2 then C_Ledger else if i=3 then C_Hand else if i=4 then C_Free else if i=5 then C_Keeper else if i=1 then C_Plan else C_Web) "_law_alike" 3 ["_law_found","_law_due"] V6 2:=⟨⟨_,_,L8 (P:=l.prog) (w:=w) (base:=base) B BS D_law_alike_1 F18,PySem.W.mg_of X G a18,k18,b18⟩,λvs A v A' h=>E1 h⟩
 have D_law_alike_3:Def l.prog w K mg base (λi=>if i=2 then C_Ledger else if i=3 then C_Hand else if i=4 then C_Free else if i=5 then C_Keeper else if i=1 then C_Plan else C_Web) "_law_alike" 4 ["_law_found","_law_due"] V7 2:=⟨⟨_,_,L8 (P:=l.prog) (w:=w) (base:=base) B BS D_law_alike_2 F18,PySem.W.mg_of X G a18,k18,b18⟩,λvs A v A' h=>E1 h⟩
 have D_law_alike_4:Def l.prog w K mg base (λi=>if i=2 then C_Ledger else if i=3 then C_Hand else if i=4 then C_Free else if i=5 then C_Keeper else if i=1 then C_Plan else C_Web) "_law_alike" 5 ["_law_found","_law_due"] V8 2:=⟨⟨_,_,L8 (P:=l.prog) (w:=w) (base:=base) B BS D_law_alike_3 F18,PySem.W.mg_of X G a18,k18,b18⟩,λvs A v A' h=>E1 h⟩
 have D_law_alike:Def l.prog w K mg base (λi=>if i=2 then C_Ledger else if i=3 then C_Hand else if i=4 then C_Free else if i=5 then C_Keeper else if i=1 then C_Plan else C_Web) "_law_alike" 6 ["_law_found","_law_due"] U1 2:=⟨⟨_,_,L8 (P:=l.prog) (w:=w) (base:=base) B BS D_law_alike_4 F18,PySem.W.mg_of X G a18,k18,b18⟩,λvs A v A' h=>E1 h⟩
 have O19:=z8 (P:=l.prog) (w:=w) (base:=base) B F19
 have D_Ledger_laid:g7 l.prog w K mg base (λi=>if i=2 then C_Ledger else if i=3 then C_Hand else if i=4 then C_Free else if i=5 then C_Keeper else if i=1 then C_Plan else C_Web) 2 "laid" 1 ["self"] J5 1:=⟨⟨_,_,O19,⟨a19,i19,k19⟩,b19⟩,λvs A v A' h=>E1 h⟩
 have O20:=z6 (P:=l.prog) (w:=w) (base:=base) B F20
 have D_Ledger_move:g7 l.prog w K mg base (λi=>if i=2 then C_Ledger else if i=3 then C_Hand else if i=4 then C_Free else if i=5 then C_Keeper else if i=1 then C_Plan else C_Web) 2 "move" 1 ["self"] J4 1:=⟨⟨_,_,O20,⟨a20,i20,k20⟩,b20⟩,λvs A v A' h=>E1 h⟩
 have O21:=aW6 (P:=l.prog) (w:=w) (base:=base) B IG CN_Hand CN_Free CN_Keeper D_Plan_init D_Web_init D_Ledger_init D_law_deed D_Free_init D_Keeper_init D_law_cell_at D_Free_deeds D_Hand_deeds D0_Hand D_law_alike D_Ledger_turn D_Ledger_laid D_Ledger_move F21
 exact O21.imp λvs H Q E q=>aV1 law_pure vs H Q E q
end Ws
lay_quick PySem.Challenge.pw_wordswap_k31_hands_and_rows
namespace Ws
open PySem PySem.W
set_option Elab.async false
set_option maxHeartbeats 0
noncomputable abbrev kps:List Nat:=[0,2,3,4,6,7,8,9,10,11,12,13,15,16,17,19,20,21,23,24,25,26,28,29,30,31]
noncomputable abbrev lse:List Str:=[]
noncomputable abbrev xt (p:Program) (s:Shared):Bool:=xlAt (view p kps) [] s&&recOk (RowW.records PySem.Challenge.rw_wordswap_k31_hands_and_rows.row.toRowW) s
noncomputable def D4 (p:Program) (i:Nat):Stmt:=p.main.body.getD i (.Pass ⟨0,0,0,0⟩)
noncomputable abbrev ob0 (K:Frag):=(PySem.W.nsIn K mainGlobals "Web",PySem.W.nsIn K mainGlobals "Ledger",PySem.W.nsIn K mainGlobals "Hand",PySem.W.nsIn K mainGlobals "Free",PySem.W.nsIn K mainGlobals "Keeper",PySem.W.nsIn K mainGlobals "Plan",PySem.W.nsIn K mainGlobals "is_rising",K.lookup 414,PySem.W.codeIn K (.ref 413) "is_rising",PySem.W.keepIn K (.ref 414),PySem.W.nsIn K mainGlobals "is_whole",K.lookup 72,PySem.W.codeIn K (.ref 71) "is_whole",PySem.W.keepIn K (.ref 72),PySem.W.nsIn K mainGlobals "is_hand",K.lookup 79)
noncomputable abbrev va0 (p:Program):=((some (some (.ref 163)):Option (Option Value)),(some (some (.ref 290)):Option (Option Value)),(some (some (.ref 311)):Option (Option Value)),(some (some (.ref 337)):Option (Option Value)),(some (some (.ref 407)):Option (Option Value)),(some (some (.ref 464)):Option (Option Value)),(some (some (.ref 414)):Option (Option Value)),(some ⟨(.type "function"),none,.func (PySem.W.fnOf "is_rising" "is_rising" (L2.C3 (D4 p 23)) (L2.C2 (D4 p 23)) (L2.B6 (D4 p 23)) .none .none .none (.str "wordswap.plans" 698) none (.ref 413) .none),#[]⟩:Option Obj),(true:Bool),(true:Bool),(some (some (.ref 72)):Option (Option Value)),(some ⟨(.type "function"),none,.func (PySem.W.fnOf "is_whole" "is_whole" (L2.C3 (D4 p 8)) (L2.C2 (D4 p 8)) (L2.B6 (D4 p 8)) .none .none .none (.str "wordswap.webs" 255) none (.ref 71) .none),#[]⟩:Option Obj),(true:Bool),(true:Bool),(some (some (.ref 79)):Option (Option Value)),(some ⟨(.type "function"),none,.func (PySem.W.fnOf "is_hand" "is_hand" (L2.C3 (D4 p 9)) (L2.C2 (D4 p 9)) (L2.B6 (D4 p 9)) .none .none .none (.str "wordswap.webs" 255) none (.ref 78) .none),#[]⟩:Option Obj))
noncomputable abbrev ob1 (K:Frag):=(PySem.W.codeIn K (.ref 78) "is_hand",PySem.W.keepIn K (.ref 79),PySem.W.nsIn K mainGlobals "are_leaders",K.lookup 419,PySem.W.codeIn K (.ref 418) "are_leaders",PySem.W.keepIn K (.ref 419),PySem.W.nsIn K mainGlobals "is_limit",K.lookup 426,PySem.W.codeIn K (.ref 425) "is_limit",PySem.W.keepIn K (.ref 426),PySem.W.findIn K (.ref 464) "__init__",PySem.W.isFn K (.ref 440),K.lookup 440,PySem.W.codeIn K (.ref 439) "Plan.__init__",PySem.W.keepIn K (.ref 440),PySem.W.nsIn K mainGlobals "is_number_of_hands")
noncomputable abbrev va1 (p:Program):=((true:Bool),(true:Bool),(some (some (.ref 419)):Option (Option Value)),(some ⟨(.type "function"),none,.func (PySem.W.fnOf "are_leaders" "are_leaders" (L2.C3 (D4 p 24)) (L2.C2 (D4 p 24)) (L2.B6 (D4 p 24)) .none .none .none (.str "wordswap.plans" 698) none (.ref 418) .none),#[]⟩:Option Obj),(true:Bool),(true:Bool),(some (some (.ref 426)):Option (Option Value)),(some ⟨(.type "function"),none,.func (PySem.W.fnOf "is_limit" "is_limit" (L2.C3 (D4 p 25)) (L2.C2 (D4 p 25)) (L2.B6 (D4 p 25)) .none .none .none (.str "wordswap.plans" 698) none (.ref 425) .none),#[]⟩:Option Obj),(true:Bool),(true:Bool),(some (some (.ref 440)):Option (Option Value)),(true:Bool),(some ⟨(.type "function"),none,.func (PySem.W.fnOf "__init__" "Plan.__init__" (L2.C3 (L2.B9 (D4 p 26) 0)) (L2.C2 (L2.B9 (D4 p 26) 0)) (L2.B6 (L2.B9 (D4 p 26) 0)) .none .none .none (.str "wordswap.plans" 698) none (.ref 439) .none),#[]⟩:Option Obj),(true:Bool),(true:Bool),(some (some (.ref 86)):Option (Option Value)))
noncomputable abbrev ob2 (K:Frag):=(K.lookup 86,PySem.W.codeIn K (.ref 85) "is_number_of_hands",PySem.W.keepIn K (.ref 86),PySem.W.nsIn K mainGlobals "is_passing",K.lookup 93,PySem.W.codeIn K (.ref 92) "is_passing",PySem.W.keepIn K (.ref 93),PySem.W.nsIn K mainGlobals "first_wrong_passing",K.lookup 100,PySem.W.codeIn K (.ref 99) "first_wrong_passing",PySem.W.keepIn K (.ref 100),PySem.W.findIn K (.ref 163) "__init__",PySem.W.isFn K (.ref 114),K.lookup 114,PySem.W.codeIn K (.ref 113) "Web.__init__",PySem.W.keepIn K (.ref 114))
noncomputable abbrev va2 (p:Program):=((some ⟨(.type "function"),none,.func (PySem.W.fnOf "is_number_of_hands" "is_number_of_hands" (L2.C3 (D4 p 10)) (L2.C2 (D4 p 10)) (L2.B6 (D4 p 10)) .none .none .none (.str "wordswap.webs" 255) none (.ref 85) .none),#[]⟩:Option Obj),(true:Bool),(true:Bool),(some (some (.ref 93)):Option (Option Value)),(some ⟨(.type "function"),none,.func (PySem.W.fnOf "is_passing" "is_passing" (L2.C3 (D4 p 11)) (L2.C2 (D4 p 11)) (L2.B6 (D4 p 11)) .none .none .none (.str "wordswap.webs" 255) none (.ref 92) .none),#[]⟩:Option Obj),(true:Bool),(true:Bool),(some (some (.ref 100)):Option (Option Value)),(some ⟨(.type "function"),none,.func (PySem.W.fnOf "first_wrong_passing" "first_wrong_passing" (L2.C3 (D4 p 12)) (L2.C2 (D4 p 12)) (L2.B6 (D4 p 12)) .none .none .none (.str "wordswap.webs" 255) none (.ref 99) .none),#[]⟩:Option Obj),(true:Bool),(true:Bool),(some (some (.ref 114)):Option (Option Value)),(true:Bool),(some ⟨(.type "function"),none,.func (PySem.W.fnOf "__init__" "Web.__init__" (L2.C3 (L2.B9 (D4 p 13) 0)) (L2.C2 (L2.B9 (D4 p 13) 0)) (L2.B6 (L2.B9 (D4 p 13) 0)) .none .none .none (.str "wordswap.webs" 255) none (.ref 113) .none),#[]⟩:Option Obj),(true:Bool),(true:Bool))
noncomputable abbrev ob3 (K:Frag):=(PySem.W.findIn K (.ref 290) "__init__",PySem.W.isFn K (.ref 182),K.lookup 182,PySem.W.codeIn K (.ref 181) "Ledger.__init__",PySem.W.keepIn K (.ref 182),K.lookup 175,PySem.W.nsIn K mainGlobals "_law_deed",K.lookup 487,PySem.W.codeIn K (.ref 486) "_law_deed",PySem.W.keepIn K (.ref 487),PySem.W.findIn K (.ref 337) "__init__",PySem.W.isFn K (.ref 329),K.lookup 329,PySem.W.codeIn K (.ref 328) "Free.__init__",PySem.W.keepIn K (.ref 329),PySem.W.findIn K (.ref 407) "__init__")
noncomputable abbrev va3 (p:Program):=((some (some (.ref 182)):Option (Option Value)),(true:Bool),(some ⟨(.type "function"),none,.func (PySem.W.fnOf "__init__" "Ledger.__init__" (L2.C3 (L2.B9 (D4 p 17) 0)) (L2.C2 (L2.B9 (D4 p 17) 0)) (L2.B6 (L2.B9 (D4 p 17) 0)) (.ref 175) .none .none (.str "wordswap.ledgers" 385) none (.ref 181) .none),#[]⟩:Option Obj),(true:Bool),(true:Bool),(some ⟨(.type "tuple"),none,.seq #[.none] 0,#[]⟩:Option Obj),(some (some (.ref 487)):Option (Option Value)),(some ⟨(.type "function"),none,.func (PySem.W.fnOf "_law_deed" "_law_deed" (L2.C3 (D4 p 30)) (L2.C2 (D4 p 30)) (L2.B6 (D4 p 30)) .none .none .none (.str "law_wordswap_k31_hands_and_rows" 779) none (.ref 486) .none),#[]⟩:Option Obj),(true:Bool),(true:Bool),(some (some (.ref 329)):Option (Option Value)),(true:Bool),(some ⟨(.type "function"),none,.func (PySem.W.fnOf "__init__" "Free.__init__" (L2.C3 (L2.B9 (D4 p 20) 0)) (L2.C2 (L2.B9 (D4 p 20) 0)) (L2.B6 (L2.B9 (D4 p 20) 0)) .none .none .none (.str "wordswap.hands" 544) none (.ref 328) .none),#[]⟩:Option Obj),(true:Bool),(true:Bool),(some (some (.ref 353)):Option (Option Value)))
noncomputable abbrev ob4 (K:Frag):=(PySem.W.isFn K (.ref 353),K.lookup 353,PySem.W.codeIn K (.ref 352) "Keeper.__init__",PySem.W.keepIn K (.ref 353),PySem.W.nsIn K mainGlobals "_law_cell_at",K.lookup 475,PySem.W.codeIn K (.ref 474) "_law_cell_at",PySem.W.keepIn K (.ref 475),PySem.W.findIn K (.ref 290) "turn",PySem.W.isFn K (.ref 189),K.lookup 189,PySem.W.codeIn K (.ref 188) "Ledger.turn",PySem.W.keepIn K (.ref 189),PySem.W.findIn K (.ref 337) "deeds",PySem.W.isFn K (.ref 334),K.lookup 334)
noncomputable abbrev va4 (p:Program):=((true:Bool),(some ⟨(.type "function"),none,.func (PySem.W.fnOf "__init__" "Keeper.__init__" (L2.C3 (L2.B9 (D4 p 21) 0)) (L2.C2 (L2.B9 (D4 p 21) 0)) (L2.B6 (L2.B9 (D4 p 21) 0)) .none .none .none (.str "wordswap.hands" 544) none (.ref 352) .none),#[]⟩:Option Obj),(true:Bool),(true:Bool),(some (some (.ref 475)):Option (Option Value)),(some ⟨(.type "function"),none,.func (PySem.W.fnOf "_law_cell_at" "_law_cell_at" (L2.C3 (D4 p 28)) (L2.C2 (D4 p 28)) (L2.B6 (D4 p 28)) .none .none .none (.str "law_wordswap_k31_hands_and_rows" 779) none (.ref 474) .none),#[]⟩:Option Obj),(true:Bool),(true:Bool),(some (some (.ref 189)):Option (Option Value)),(true:Bool),(some ⟨(.type "function"),none,.func (PySem.W.fnOf "turn" "Ledger.turn" (L2.C3 (L2.B9 (D4 p 17) 1)) (L2.C2 (L2.B9 (D4 p 17) 1)) (L2.B6 (L2.B9 (D4 p 17) 1)) .none .none .none (.str "wordswap.ledgers" 385) none (.ref 188) .none),#[]⟩:Option Obj),(true:Bool),(true:Bool),(some (some (.ref 334)):Option (Option Value)),(true:Bool),(some ⟨(.type "function"),none,.func (PySem.W.fnOf "deeds" "Free.deeds" (L2.C3 (L2.B9 (D4 p 20) 1)) (L2.C2 (L2.B9 (D4 p 20) 1)) (L2.B6 (L2.B9 (D4 p 20) 1)) .none .none .none (.str "wordswap.hands" 544) none (.ref 333) .none),#[]⟩:Option Obj))
noncomputable abbrev ob5 (K:Frag):=(PySem.W.codeIn K (.ref 333) "Free.deeds",PySem.W.keepIn K (.ref 334),PySem.W.findIn K (.ref 311) "deeds",PySem.W.isFn K (.ref 308),K.lookup 308,PySem.W.codeIn K (.ref 307) "Hand.deeds",PySem.W.keepIn K (.ref 308),PySem.W.nsIn K mainGlobals "_law_alike",K.lookup 480,PySem.W.codeIn K (.ref 479) "_law_alike",PySem.W.keepIn K (.ref 480),PySem.W.findIn K (.ref 290) "laid",PySem.W.isFn K (.ref 266),K.lookup 266,PySem.W.codeIn K (.ref 265) "Ledger.laid",PySem.W.keepIn K (.ref 266))
noncomputable abbrev va5 (p:Program):=((true:Bool),(true:Bool),(some (some (.ref 308)):Option (Option Value)),(true:Bool),(some ⟨(.type "function"),none,.func (PySem.W.fnOf "deeds" "Hand.deeds" (L2.C3 (L2.B9 (D4 p 19) 0)) (L2.C2 (L2.B9 (D4 p 19) 0)) (L2.B6 (L2.B9 (D4 p 19) 0)) .none .none .none (.str "wordswap.hands" 544) none (.ref 307) .none),#[]⟩:Option Obj),(true:Bool),(true:Bool),(some (some (.ref 480)):Option (Option Value)),(some ⟨(.type "function"),none,.func (PySem.W.fnOf "_law_alike" "_law_alike" (L2.C3 (D4 p 29)) (L2.C2 (D4 p 29)) (L2.B6 (D4 p 29)) .none .none .none (.str "law_wordswap_k31_hands_and_rows" 779) none (.ref 479) .none),#[]⟩:Option Obj),(true:Bool),(true:Bool),(some (some (.ref 266)):Option (Option Value)),(true:Bool),(some ⟨(.type "function"),none,.func (PySem.W.fnOf "laid" "Ledger.laid" (L2.C3 (L2.B9 (D4 p 17) 12)) (L2.C2 (L2.B9 (D4 p 17) 12)) (L2.B6 (L2.B9 (D4 p 17) 12)) .none .none .none (.str "wordswap.ledgers" 385) none (.ref 265) .none),#[]⟩:Option Obj),(true:Bool),(true:Bool))
noncomputable abbrev ob6 (K:Frag):=(PySem.W.findIn K (.ref 290) "move",PySem.W.isFn K (.ref 196),K.lookup 196,PySem.W.codeIn K (.ref 195) "Ledger.move",PySem.W.keepIn K (.ref 196),PySem.W.nsIn K mainGlobals "law",K.lookup 492,PySem.W.codeIn K (.ref 491) "law",PySem.W.keepIn K (.ref 492),PySem.W.plainGet K 163 Str.empty,PySem.W.hasDictIn K 163,PySem.W.plainOver K 163,PySem.W.findIn K (.ref 163) "__setattr__",PySem.W.makesIn K 163,PySem.W.keepIn K (.ref 163),PySem.W.findIn K (.ref 163) "number")
noncomputable abbrev va6 (p:Program):=((some (some (.ref 196)):Option (Option Value)),(true:Bool),(some ⟨(.type "function"),none,.func (PySem.W.fnOf "move" "Ledger.move" (L2.C3 (L2.B9 (D4 p 17) 2)) (L2.C2 (L2.B9 (D4 p 17) 2)) (L2.B6 (L2.B9 (D4 p 17) 2)) .none .none .none (.str "wordswap.ledgers" 385) none (.ref 195) .none),#[]⟩:Option Obj),(true:Bool),(true:Bool),(some (some (.ref 492)):Option (Option Value)),(some ⟨(.type "function"),none,.func (PySem.W.fnOf "law" "law" (L2.C3 (D4 p 31)) (L2.C2 (D4 p 31)) (L2.B6 (D4 p 31)) .none .none .none (.str "law_wordswap_k31_hands_and_rows" 779) none (.ref 491) .none),#[]⟩:Option Obj),(true:Bool),(true:Bool),(true:Bool),(true:Bool),(true:Bool),(some (some (.builtin "object.__setattr__")):Option (Option Value)),(true:Bool),(true:Bool),(some none:Option (Option Value)))
noncomputable abbrev ob7 (K:Frag):=(PySem.W.findIn K (.ref 163) "passings",PySem.W.findIn K (.ref 163) "at",PySem.W.findIn K (.ref 163) "web",PySem.W.findIn K (.ref 163) "leaders",PySem.W.findIn K (.ref 163) "limits",PySem.W.findIn K (.ref 163) "plan",PySem.W.findIn K (.ref 163) "free",PySem.W.findIn K (.ref 163) "ledger",PySem.W.findIn K (.ref 163) "kept_leaders",PySem.W.findIn K (.ref 163) "kept_limits",PySem.W.findIn K (.ref 163) "kept_free",PySem.W.findIn K (.ref 163) "now",PySem.W.findIn K (.ref 163) "turns_of_lays",PySem.W.findIn K (.ref 163) "sayings",PySem.W.findIn K (.ref 163) "first_turns",PySem.W.findIn K (.ref 163) "does")
noncomputable abbrev va7 (p:Program):=((some none:Option (Option Value)),(some none:Option (Option Value)),(some none:Option (Option Value)),(some none:Option (Option Value)),(some none:Option (Option Value)),(some none:Option (Option Value)),(some none:Option (Option Value)),(some none:Option (Option Value)),(some none:Option (Option Value)),(some none:Option (Option Value)),(some none:Option (Option Value)),(some none:Option (Option Value)),(some none:Option (Option Value)),(some none:Option (Option Value)),(some none:Option (Option Value)),(some none:Option (Option Value)))
noncomputable abbrev ob8 (K:Frag):=(PySem.W.findIn K (.ref 163) "me",PySem.W.findIn K (.ref 163) "open_boxes",PySem.W.plainGet K 290 Str.empty,PySem.W.hasDictIn K 290,PySem.W.plainOver K 290,PySem.W.findIn K (.ref 290) "__setattr__",PySem.W.makesIn K 290,PySem.W.keepIn K (.ref 290),PySem.W.findIn K (.ref 290) "number",PySem.W.findIn K (.ref 290) "passings",PySem.W.findIn K (.ref 290) "at",PySem.W.findIn K (.ref 290) "web",PySem.W.findIn K (.ref 290) "leaders",PySem.W.findIn K (.ref 290) "limits",PySem.W.findIn K (.ref 290) "plan",PySem.W.findIn K (.ref 290) "free")
noncomputable abbrev va8 (p:Program):=((some none:Option (Option Value)),(some none:Option (Option Value)),(true:Bool),(true:Bool),(true:Bool),(some (some (.builtin "object.__setattr__")):Option (Option Value)),(true:Bool),(true:Bool),(some none:Option (Option Value)),(some none:Option (Option Value)),(some none:Option (Option Value)),(some none:Option (Option Value)),(some none:Option (Option Value)),(some none:Option (Option Value)),(some none:Option (Option Value)),(some none:Option (Option Value)))
noncomputable abbrev ob9 (K:Frag):=(PySem.W.findIn K (.ref 290) "ledger",PySem.W.findIn K (.ref 290) "kept_leaders",PySem.W.findIn K (.ref 290) "kept_limits",PySem.W.findIn K (.ref 290) "kept_free",PySem.W.findIn K (.ref 290) "now",PySem.W.findIn K (.ref 290) "turns_of_lays",PySem.W.findIn K (.ref 290) "sayings",PySem.W.findIn K (.ref 290) "first_turns",PySem.W.findIn K (.ref 290) "does",PySem.W.findIn K (.ref 290) "me",PySem.W.findIn K (.ref 290) "open_boxes",PySem.W.plainGet K 311 Str.empty,PySem.W.hasDictIn K 311,PySem.W.plainOver K 311,PySem.W.findIn K (.ref 311) "__setattr__",PySem.W.makesIn K 311)
noncomputable abbrev va9 (p:Program):=((some none:Option (Option Value)),(some none:Option (Option Value)),(some none:Option (Option Value)),(some none:Option (Option Value)),(some none:Option (Option Value)),(some none:Option (Option Value)),(some none:Option (Option Value)),(some none:Option (Option Value)),(some none:Option (Option Value)),(some none:Option (Option Value)),(some none:Option (Option Value)),(true:Bool),(true:Bool),(true:Bool),(some (some (.builtin "object.__setattr__")):Option (Option Value)),(true:Bool))
noncomputable abbrev a51 (K:Frag):=(PySem.W.keepIn K (.ref 311),PySem.W.findIn K (.ref 311) "number",PySem.W.findIn K (.ref 311) "passings",PySem.W.findIn K (.ref 311) "at",PySem.W.findIn K (.ref 311) "web",PySem.W.findIn K (.ref 311) "leaders",PySem.W.findIn K (.ref 311) "limits",PySem.W.findIn K (.ref 311) "plan",PySem.W.findIn K (.ref 311) "free",PySem.W.findIn K (.ref 311) "ledger",PySem.W.findIn K (.ref 311) "kept_leaders",PySem.W.findIn K (.ref 311) "kept_limits",PySem.W.findIn K (.ref 311) "kept_free",PySem.W.findIn K (.ref 311) "now",PySem.W.findIn K (.ref 311) "turns_of_lays",PySem.W.findIn K (.ref 311) "sayings")
noncomputable abbrev a52 (p:Program):=((true:Bool),(some none:Option (Option Value)),(some none:Option (Option Value)),(some none:Option (Option Value)),(some none:Option (Option Value)),(some none:Option (Option Value)),(some none:Option (Option Value)),(some none:Option (Option Value)),(some none:Option (Option Value)),(some none:Option (Option Value)),(some none:Option (Option Value)),(some none:Option (Option Value)),(some none:Option (Option Value)),(some none:Option (Option Value)),(some none:Option (Option Value)),(some none:Option (Option Value)))
noncomputable abbrev a53 (K:Frag):=(PySem.W.findIn K (.ref 311) "first_turns",PySem.W.findIn K (.ref 311) "does",PySem.W.findIn K (.ref 311) "me",PySem.W.findIn K (.ref 311) "open_boxes",PySem.W.plainGet K 337 Str.empty,PySem.W.hasDictIn K 337,PySem.W.plainOver K 337,PySem.W.findIn K (.ref 337) "__setattr__",PySem.W.makesIn K 337,PySem.W.keepIn K (.ref 337),PySem.W.findIn K (.ref 337) "number",PySem.W.findIn K (.ref 337) "passings",PySem.W.findIn K (.ref 337) "at",PySem.W.findIn K (.ref 337) "web",PySem.W.findIn K (.ref 337) "leaders",PySem.W.findIn K (.ref 337) "limits")
noncomputable abbrev a54 (p:Program):=((some none:Option (Option Value)),(some none:Option (Option Value)),(some none:Option (Option Value)),(some none:Option (Option Value)),(true:Bool),(true:Bool),(true:Bool),(some (some (.builtin "object.__setattr__")):Option (Option Value)),(true:Bool),(true:Bool),(some none:Option (Option Value)),(some none:Option (Option Value)),(some none:Option (Option Value)),(some none:Option (Option Value)),(some none:Option (Option Value)),(some none:Option (Option Value)))
noncomputable abbrev a55 (K:Frag):=(PySem.W.findIn K (.ref 337) "plan",PySem.W.findIn K (.ref 337) "free",PySem.W.findIn K (.ref 337) "ledger",PySem.W.findIn K (.ref 337) "kept_leaders",PySem.W.findIn K (.ref 337) "kept_limits",PySem.W.findIn K (.ref 337) "kept_free",PySem.W.findIn K (.ref 337) "now",PySem.W.findIn K (.ref 337) "turns_of_lays",PySem.W.findIn K (.ref 337) "sayings",PySem.W.findIn K (.ref 337) "first_turns",PySem.W.findIn K (.ref 337) "does",PySem.W.findIn K (.ref 337) "me",PySem.W.findIn K (.ref 337) "open_boxes",PySem.W.plainGet K 407 Str.empty,PySem.W.hasDictIn K 407,PySem.W.plainOver K 407)
noncomputable abbrev a56 (p:Program):=((some none:Option (Option Value)),(some none:Option (Option Value)),(some none:Option (Option Value)),(some none:Option (Option Value)),(some none:Option (Option Value)),(some none:Option (Option Value)),(some none:Option (Option Value)),(some none:Option (Option Value)),(some none:Option (Option Value)),(some none:Option (Option Value)),(some none:Option (Option Value)),(some none:Option (Option Value)),(some none:Option (Option Value)),(true:Bool),(true:Bool),(true:Bool))
noncomputable abbrev a57 (K:Frag):=(PySem.W.findIn K (.ref 407) "__setattr__",PySem.W.makesIn K 407,PySem.W.keepIn K (.ref 407),PySem.W.findIn K (.ref 407) "number",PySem.W.findIn K (.ref 407) "passings",PySem.W.findIn K (.ref 407) "at",PySem.W.findIn K (.ref 407) "web",PySem.W.findIn K (.ref 407) "leaders",PySem.W.findIn K (.ref 407) "limits",PySem.W.findIn K (.ref 407) "plan",PySem.W.findIn K (.ref 407) "free",PySem.W.findIn K (.ref 407) "ledger",PySem.W.findIn K (.ref 407) "kept_leaders",PySem.W.findIn K (.ref 407) "kept_limits",PySem.W.findIn K (.ref 407) "kept_free",PySem.W.findIn K (.ref 407) "now")
noncomputable abbrev a58 (p:Program):=((some (some (.builtin "object.__setattr__")):Option (Option Value)),(true:Bool),(true:Bool),(some none:Option (Option Value)),(some none:Option (Option Value)),(some none:Option (Option Value)),(some none:Option (Option Value)),(some none:Option (Option Value)),(some none:Option (Option Value)),(some none:Option (Option Value)),(some none:Option (Option Value)),(some none:Option (Option Value)),(some none:Option (Option Value)),(some none:Option (Option Value)),(some none:Option (Option Value)),(some none:Option (Option Value)))
noncomputable abbrev a59 (K:Frag):=(PySem.W.findIn K (.ref 407) "turns_of_lays",PySem.W.findIn K (.ref 407) "sayings",PySem.W.findIn K (.ref 407) "first_turns",PySem.W.findIn K (.ref 407) "does",PySem.W.findIn K (.ref 407) "me",PySem.W.findIn K (.ref 407) "open_boxes",PySem.W.plainGet K 464 Str.empty,PySem.W.hasDictIn K 464,PySem.W.plainOver K 464,PySem.W.findIn K (.ref 464) "__setattr__",PySem.W.makesIn K 464,PySem.W.keepIn K (.ref 464),PySem.W.findIn K (.ref 464) "number",PySem.W.findIn K (.ref 464) "passings",PySem.W.findIn K (.ref 464) "at",PySem.W.findIn K (.ref 464) "web")
noncomputable abbrev a60 (p:Program):=((some none:Option (Option Value)),(some none:Option (Option Value)),(some none:Option (Option Value)),(some none:Option (Option Value)),(some none:Option (Option Value)),(some none:Option (Option Value)),(true:Bool),(true:Bool),(true:Bool),(some (some (.builtin "object.__setattr__")):Option (Option Value)),(true:Bool),(true:Bool),(some none:Option (Option Value)),(some none:Option (Option Value)),(some none:Option (Option Value)),(some none:Option (Option Value)))
noncomputable abbrev a61 (K:Frag):=(PySem.W.findIn K (.ref 464) "leaders",PySem.W.findIn K (.ref 464) "limits",PySem.W.findIn K (.ref 464) "plan",PySem.W.findIn K (.ref 464) "free",PySem.W.findIn K (.ref 464) "ledger",PySem.W.findIn K (.ref 464) "kept_leaders",PySem.W.findIn K (.ref 464) "kept_limits",PySem.W.findIn K (.ref 464) "kept_free",PySem.W.findIn K (.ref 464) "now",PySem.W.findIn K (.ref 464) "turns_of_lays",PySem.W.findIn K (.ref 464) "sayings",PySem.W.findIn K (.ref 464) "first_turns",PySem.W.findIn K (.ref 464) "does",PySem.W.findIn K (.ref 464) "me",PySem.W.findIn K (.ref 464) "open_boxes",PySem.W.findIn K (.ref 311) "__init__")
noncomputable abbrev a62 (p:Program):=((some none:Option (Option Value)),(some none:Option (Option Value)),(some none:Option (Option Value)),(some none:Option (Option Value)),(some none:Option (Option Value)),(some none:Option (Option Value)),(some none:Option (Option Value)),(some none:Option (Option Value)),(some none:Option (Option Value)),(some none:Option (Option Value)),(some none:Option (Option Value)),(some none:Option (Option Value)),(some none:Option (Option Value)),(some none:Option (Option Value)),(some none:Option (Option Value)),(some (some (.builtin "object.__init__")):Option (Option Value)))
noncomputable abbrev a63 (K:Frag):=(PySem.W.specialIn K (.builtin "object.__class__") "__get__",PySem.W.takesIn K (.builtin "object.__class__"),PySem.W.findIn K (.ref 311) "__class__",PySem.W.mroIn K 311 (.type "object"),PySem.W.kitOne K (.ref 311) (.ref 311),PySem.W.kitOne K (.ref 311) (.ref 337),PySem.W.kitOne K (.ref 311) (.ref 407),PySem.W.findIn K (.ref 337) "__class__",PySem.W.mroIn K 337 (.type "object"),PySem.W.kitOne K (.ref 337) (.ref 311),PySem.W.kitOne K (.ref 337) (.ref 337),PySem.W.kitOne K (.ref 337) (.ref 407),PySem.W.findIn K (.ref 407) "__class__",PySem.W.mroIn K 407 (.type "object"),PySem.W.kitOne K (.ref 407) (.ref 311),PySem.W.kitOne K (.ref 407) (.ref 337))
noncomputable abbrev a64 (p:Program):=((some (some (.builtin "getset_descriptor.__get__")):Option (Option Value)),(some true:Option Bool),(some (some (.builtin "object.__class__")):Option (Option Value)),(some true:Option Bool),(some true:Option Bool),(some false:Option Bool),(some false:Option Bool),(some (some (.builtin "object.__class__")):Option (Option Value)),(some true:Option Bool),(some true:Option Bool),(some true:Option Bool),(some false:Option Bool),(some (some (.builtin "object.__class__")):Option (Option Value)),(some true:Option Bool),(some true:Option Bool),(some false:Option Bool))
noncomputable abbrev a65 (K:Frag):=(PySem.W.kitOne K (.ref 407) (.ref 407),PySem.W.nsIn K mainGlobals "FEWEST_HANDS",PySem.W.nsIn K mainGlobals "MOST_HANDS",PySem.W.nsIn K mainGlobals "str",PySem.W.nsIn K mainGlobals "len",PySem.W.nsIn K mainGlobals "range",PySem.W.nsIn K mainGlobals "list",PySem.W.nsIn K mainGlobals "sorted",PySem.W.nsIn K mainGlobals "isinstance",PySem.W.nsIn K mainGlobals "int",PySem.W.nsIn K mainGlobals "bool",PySem.W.nsIn K mainGlobals "tuple",PySem.W.nsIn K mainGlobals "enumerate",PySem.W.nsIn K mainGlobals "reversed",PySem.W.nsIn K mainGlobals "max",PySem.W.nsIn K mainGlobals "min")
noncomputable abbrev a66 (p:Program):=((some true:Option Bool),(some (some (.int 2 257)):Option (Option Value)),(some (some (.int 6 259)):Option (Option Value)),(some none:Option (Option Value)),(some none:Option (Option Value)),(some none:Option (Option Value)),(some none:Option (Option Value)),(some none:Option (Option Value)),(some none:Option (Option Value)),(some none:Option (Option Value)),(some none:Option (Option Value)),(some none:Option (Option Value)),(some none:Option (Option Value)),(some none:Option (Option Value)),(some none:Option (Option Value)),(some none:Option (Option Value)))
noncomputable abbrev a67 (K:Frag):=(PySem.W.nsIn K mainGlobals "all",PySem.W.nsIn K mainGlobals "any",PySem.W.nsIn K mainGlobals "set",PySem.W.nsIn K mainGlobals "zip",PySem.W.nsIn K mainGlobals "dict")
noncomputable abbrev a68 (p:Program):=((some none:Option (Option Value)),(some none:Option (Option Value)),(some none:Option (Option Value)),(some none:Option (Option Value)),(some none:Option (Option Value)))
noncomputable abbrev ob (K:Frag):=(ob0 K,ob1 K,ob2 K,ob3 K,ob4 K,ob5 K,ob6 K,ob7 K,ob8 K,ob9 K,a51 K,a53 K,a55 K,a57 K,a59 K,a61 K,a63 K,a65 K,a67 K)
noncomputable abbrev va (p:Program):=(va0 p,va1 p,va2 p,va3 p,va4 p,va5 p,va6 p,va7 p,va8 p,va9 p,a52 p,a54 p,a56 p,a58 p,a60 p,a62 p,a64 p,a66 p,a68 p)
theorem hop:∀w:World,(fencedOpening treeTable PySem.Challenge.pw_wordswap_k31_hands_and_rows w 7308).map (λs=>(s.heap,s.gens,s.drawn,s.toks))=some (boot_heap w.params,#[],boot_drawn,boot_toks):=boot_open (by kernel_rfl) (by kernel_rfl) (λs=>by kernel_rfl)
theorem hck:∀(w:World) (os:OsState),(aL1 (PySem.W.Fast.tw6613529449190102663 11 (some (.ref 6))) (PySem.W.Fast.tw10156331382660048174 (PySem.W.Fast.tw11892475500146522536 PySem.W.Fast.tw14364793385576792824) PySem.W.Fast.tw2655550563500233368 w) 7308 (aE4 w os) (topStub PySem.W.Fast.tw2655550563500233368)).map (λS=>(lk PySem.W.Fast.tw4187177175401517315 PySem.W.Fast.tw2655550563500233368 (view PySem.W.Fast.tw2655550563500233368 kps) lse (xt PySem.W.Fast.tw2655550563500233368) w S.abs,ob (at4 S)))=some ((true,openGood (view PySem.W.Fast.tw2655550563500233368 kps) lse),va PySem.W.Fast.tw2655550563500233368):=λw os=>by kernel_rfl
theorem hdl:LeftO PySem.Challenge.pw_wordswap_k31_hands_and_rows (view PySem.Challenge.pw_wordswap_k31_hands_and_rows kps) lse (xt PySem.Challenge.pw_wordswap_k31_hands_and_rows) (λs=>aj6 s.heap) (Kw PySem.Challenge.pw_wordswap_k31_hands_and_rows 7308) 7308/\∀w,ob (Kw PySem.Challenge.pw_wordswap_k31_hands_and_rows 7308 w)=va PySem.Challenge.pw_wordswap_k31_hands_and_rows:=aL5 (q:=λp=>view p kps) (Xt:=xt) (va:=va) PySem.W.Fast.te2655550563500233368 PySem.W.Fast.te6613529449190102663 PySem.W.Fast.te10156331382660048174 PySem.W.Fast.te11892475500146522536 PySem.W.Fast.te14364793385576792824 PySem.W.Fast.te4187177175401517315 hop hck
theorem a69 {w:World} {h:Heap} {mg:Str->Option Value} {fa:Addr} (X:(Kw PySem.Challenge.pw_wordswap_k31_hands_and_rows 7308 w).In h) (G:h.Ns mainGlobals mg) (hfa:mg "law" = some (.ref fa)):∃fd:FuncData,(∀(s:Shared) (v:Value),BindsTo s fd ⟨[v],[]⟩ [("_law_script",v)])/\∀base:Heap,(Kw PySem.Challenge.pw_wordswap_k31_hands_and_rows 7308 w).In base->base.Ns mainGlobals mg->L2.FnOk PySem.Challenge.rw_wordswap_k31_hands_and_rows.prog w (Kw PySem.Challenge.pw_wordswap_k31_hands_and_rows 7308 w) mg base L2.CX0 7 fa fd ["_law_script"] (at3 (Kw PySem.Challenge.pw_wordswap_k31_hands_and_rows 7308 w)):=
 have e:=hdl.2 w
 aW7 X G hfa (p1 (p1 e)) (p1 (p2 (p1 e))) (p1 (s2 (p1 e))) (p1 (p2 (s2 (p1 e)))) (p1 (s4 (p1 e))) (p1 (p2 (s4 (p1 e)))) (p1 (s2 (s4 (p1 e)))) (p1 (p2 (s2 (s4 (p1 e))))) (p1 (s4 (s4 (p1 e)))) (p1 (p2 (s4 (s4 (p1 e))))) (p1 (s2 (s4 (s4 (p1 e))))) (p1 (p2 (s2 (s4 (s4 (p1 e)))))) (p1 (s4 (s4 (s4 (p1 e))))) (p1 (p2 (s4 (s4 (s4 (p1 e)))))) (p1 (s2 (s4 (s4 (s4 (p1 e)))))) (p2 (s2 (s4 (s4 (s4 (p1 e)))))) (p1 (p1 (p2 e))) (p1 (p2 (p1 (p2 e)))) (p1 (s2 (p1 (p2 e)))) (p1 (p2 (s2 (p1 (p2 e))))) (p1 (s4 (p1 (p2 e)))) (p1 (p2 (s4 (p1 (p2 e))))) (p1 (s2 (s4 (p1 (p2 e))))) (p1 (p2 (s2 (s4 (p1 (p2 e)))))) (p1 (s4 (s4 (p1 (p2 e))))) (p1 (p2 (s4 (s4 (p1 (p2 e)))))) (p1 (s2 (s4 (s4 (p1 (p2 e)))))) (p1 (p2 (s2 (s4 (s4 (p1 (p2 e))))))) (p1 (s4 (s4 (s4 (p1 (p2 e)))))) (p1 (p2 (s4 (s4 (s4 (p1 (p2 e))))))) (p1 (s2 (s4 (s4 (s4 (p1 (p2 e))))))) (p2 (s2 (s4 (s4 (s4 (p1 (p2 e))))))) (p1 (p1 (s2 e))) (p1 (p2 (p1 (s2 e)))) (p1 (s2 (p1 (s2 e)))) (p1 (p2 (s2 (p1 (s2 e))))) (p1 (s4 (p1 (s2 e)))) (p1 (p2 (s4 (p1 (s2 e))))) (p1 (s2 (s4 (p1 (s2 e))))) (p1 (p2 (s2 (s4 (p1 (s2 e)))))) (p1 (s4 (s4 (p1 (s2 e))))) (p1 (p2 (s4 (s4 (p1 (s2 e)))))) (p1 (s2 (s4 (s4 (p1 (s2 e)))))) (p1 (p2 (s2 (s4 (s4 (p1 (s2 e))))))) (p1 (s4 (s4 (s4 (p1 (s2 e)))))) (p1 (p2 (s4 (s4 (s4 (p1 (s2 e))))))) (p1 (s2 (s4 (s4 (s4 (p1 (s2 e))))))) (p2 (s2 (s4 (s4 (s4 (p1 (s2 e))))))) (p1 (p1 (p2 (s2 e)))) (p1 (p2 (p1 (p2 (s2 e))))) (p1 (s2 (p1 (p2 (s2 e))))) (p1 (p2 (s2 (p1 (p2 (s2 e)))))) (p1 (s4 (p1 (p2 (s2 e))))) (p1 (p2 (s4 (p1 (p2 (s2 e)))))) (p1 (s2 (s4 (p1 (p2 (s2 e)))))) (p1 (p2 (s2 (s4 (p1 (p2 (s2 e))))))) (p1 (s4 (s4 (p1 (p2 (s2 e)))))) (p1 (p2 (s4 (s4 (p1 (p2 (s2 e))))))) (p1 (s2 (s4 (s4 (p1 (p2 (s2 e))))))) (p1 (p2 (s2 (s4 (s4 (p1 (p2 (s2 e)))))))) (p1 (s4 (s4 (s4 (p1 (p2 (s2 e))))))) (p1 (p2 (s4 (s4 (s4 (p1 (p2 (s2 e)))))))) (p1 (s2 (s4 (s4 (s4 (p1 (p2 (s2 e)))))))) (p2 (s2 (s4 (s4 (s4 (p1 (p2 (s2 e)))))))) (p1 (p1 (s4 e))) (p1 (p2 (p1 (s4 e)))) (p1 (s2 (p1 (s4 e)))) (p1 (p2 (s2 (p1 (s4 e))))) (p1 (s4 (p1 (s4 e)))) (p1 (p2 (s4 (p1 (s4 e))))) (p1 (s2 (s4 (p1 (s4 e))))) (p1 (p2 (s2 (s4 (p1 (s4 e)))))) (p1 (s4 (s4 (p1 (s4 e))))) (p1 (p2 (s4 (s4 (p1 (s4 e)))))) (p1 (s2 (s4 (s4 (p1 (s4 e)))))) (p1 (p2 (s2 (s4 (s4 (p1 (s4 e))))))) (p1 (s4 (s4 (s4 (p1 (s4 e)))))) (p1 (p2 (s4 (s4 (s4 (p1 (s4 e))))))) (p1 (s2 (s4 (s4 (s4 (p1 (s4 e))))))) (p2 (s2 (s4 (s4 (s4 (p1 (s4 e))))))) (p1 (p1 (p2 (s4 e)))) (p1 (p2 (p1 (p2 (s4 e))))) (p1 (s2 (p1 (p2 (s4 e))))) (p1 (p2 (s2 (p1 (p2 (s4 e)))))) (p1 (s4 (p1 (p2 (s4 e))))) (p1 (p2 (s4 (p1 (p2 (s4 e)))))) (p1 (s2 (s4 (p1 (p2 (s4 e)))))) (p1 (p2 (s2 (s4 (p1 (p2 (s4 e))))))) (p1 (s4 (s4 (p1 (p2 (s4 e)))))) (p1 (p2 (s4 (s4 (p1 (p2 (s4 e))))))) (p1 (s2 (s4 (s4 (p1 (p2 (s4 e))))))) (p1 (p2 (s2 (s4 (s4 (p1 (p2 (s4 e)))))))) (p1 (s4 (s4 (s4 (p1 (p2 (s4 e))))))) (p1 (p2 (s4 (s4 (s4 (p1 (p2 (s4 e)))))))) (p1 (s2 (s4 (s4 (s4 (p1 (p2 (s4 e)))))))) (p2 (s2 (s4 (s4 (s4 (p1 (p2 (s4 e)))))))) (p1 (p1 (s2 (s4 e)))) (p1 (p2 (p1 (s2 (s4 e))))) (p1 (s2 (p1 (s2 (s4 e))))) (p1 (p2 (s2 (p1 (s2 (s4 e)))))) (p1 (s4 (p1 (s2 (s4 e))))) (p1 (p2 (s4 (p1 (s2 (s4 e)))))) (p1 (s2 (s4 (p1 (s2 (s4 e)))))) (p1 (p2 (s2 (s4 (p1 (s2 (s4 e))))))) (p1 (s4 (s4 (p1 (s2 (s4 e)))))) (p1 (p2 (s4 (s4 (p1 (s2 (s4 e))))))) (p1 (s2 (s4 (s4 (p1 (s2 (s4 e))))))) (p1 (p2 (s2 (s4 (s4 (p1 (s2 (s4 e)))))))) (p1 (s4 (s4 (s4 (p1 (s2 (s4 e))))))) (p1 (p2 (s4 (s4 (s4 (p1 (s2 (s4 e)))))))) (p1 (s2 (s4 (s4 (s4 (p1 (s2 (s4 e)))))))) (p2 (s2 (s4 (s4 (s4 (p1 (s2 (s4 e)))))))) (p1 (p1 (p2 (s2 (s4 e))))) (p1 (p2 (p1 (p2 (s2 (s4 e)))))) (p1 (s2 (p1 (p2 (s2 (s4 e)))))) (p1 (p2 (s2 (p1 (p2 (s2 (s4 e))))))) (p1 (s4 (p1 (p2 (s2 (s4 e)))))) (p1 (p2 (s4 (p1 (p2 (s2 (s4 e))))))) (p1 (s2 (s4 (p1 (p2 (s2 (s4 e))))))) (p1 (p2 (s2 (s4 (p1 (p2 (s2 (s4 e)))))))) (p1 (s4 (s4 (p1 (p2 (s2 (s4 e))))))) (p1 (p2 (s4 (s4 (p1 (p2 (s2 (s4 e)))))))) (p1 (s2 (s4 (s4 (p1 (p2 (s2 (s4 e)))))))) (p1 (p2 (s2 (s4 (s4 (p1 (p2 (s2 (s4 e))))))))) (p1 (s4 (s4 (s4 (p1 (p2 (s2 (s4 e)))))))) (p1 (p2 (s4 (s4 (s4 (p1 (p2 (s2 (s4 e))))))))) (p1 (s2 (s4 (s4 (s4 (p1 (p2 (s2 (s4 e))))))))) (p2 (s2 (s4 (s4 (s4 (p1 (p2 (s2 (s4 e))))))))) (p1 (p1 (s4 (s4 e)))) (p1 (p2 (p1 (s4 (s4 e))))) (p1 (s2 (p1 (s4 (s4 e))))) (p1 (p2 (s2 (p1 (s4 (s4 e)))))) (p1 (s4 (p1 (s4 (s4 e))))) (p1 (p2 (s4 (p1 (s4 (s4 e)))))) (p1 (s2 (s4 (p1 (s4 (s4 e)))))) (p1 (p2 (s2 (s4 (p1 (s4 (s4 e))))))) (p1 (s4 (s4 (p1 (s4 (s4 e)))))) (p1 (p2 (s4 (s4 (p1 (s4 (s4 e))))))) (p1 (s2 (s4 (s4 (p1 (s4 (s4 e))))))) (p1 (p2 (s2 (s4 (s4 (p1 (s4 (s4 e)))))))) (p1 (s4 (s4 (s4 (p1 (s4 (s4 e))))))) (p1 (p2 (s4 (s4 (s4 (p1 (s4 (s4 e)))))))) (p1 (s2 (s4 (s4 (s4 (p1 (s4 (s4 e)))))))) (p2 (s2 (s4 (s4 (s4 (p1 (s4 (s4 e)))))))) (p1 (p1 (p2 (s4 (s4 e))))) (p1 (p2 (p1 (p2 (s4 (s4 e)))))) (p1 (s2 (p1 (p2 (s4 (s4 e)))))) (p1 (p2 (s2 (p1 (p2 (s4 (s4 e))))))) (p1 (s4 (p1 (p2 (s4 (s4 e)))))) (p1 (p2 (s4 (p1 (p2 (s4 (s4 e))))))) (p1 (s2 (s4 (p1 (p2 (s4 (s4 e))))))) (p1 (p2 (s2 (s4 (p1 (p2 (s4 (s4 e)))))))) (p1 (s4 (s4 (p1 (p2 (s4 (s4 e))))))) (p1 (p2 (s4 (s4 (p1 (p2 (s4 (s4 e)))))))) (p1 (s2 (s4 (s4 (p1 (p2 (s4 (s4 e)))))))) (p1 (p2 (s2 (s4 (s4 (p1 (p2 (s4 (s4 e))))))))) (p1 (s4 (s4 (s4 (p1 (p2 (s4 (s4 e)))))))) (p1 (p2 (s4 (s4 (s4 (p1 (p2 (s4 (s4 e))))))))) (p1 (s2 (s4 (s4 (s4 (p1 (p2 (s4 (s4 e))))))))) (p2 (s2 (s4 (s4 (s4 (p1 (p2 (s4 (s4 e))))))))) (p1 (p1 (s2 (s4 (s4 e))))) (p1 (p2 (p1 (s2 (s4 (s4 e)))))) (p1 (s2 (p1 (s2 (s4 (s4 e)))))) (p1 (p2 (s2 (p1 (s2 (s4 (s4 e))))))) (p1 (s4 (p1 (s2 (s4 (s4 e)))))) (p1 (p2 (s4 (p1 (s2 (s4 (s4 e))))))) (p1 (s2 (s4 (p1 (s2 (s4 (s4 e))))))) (p1 (p2 (s2 (s4 (p1 (s2 (s4 (s4 e)))))))) (p1 (s4 (s4 (p1 (s2 (s4 (s4 e))))))) (p1 (p2 (s4 (s4 (p1 (s2 (s4 (s4 e)))))))) (p1 (s2 (s4 (s4 (p1 (s2 (s4 (s4 e)))))))) (p1 (p2 (s2 (s4 (s4 (p1 (s2 (s4 (s4 e))))))))) (p1 (s4 (s4 (s4 (p1 (s2 (s4 (s4 e)))))))) (p1 (p2 (s4 (s4 (s4 (p1 (s2 (s4 (s4 e))))))))) (p1 (s2 (s4 (s4 (s4 (p1 (s2 (s4 (s4 e))))))))) (p2 (s2 (s4 (s4 (s4 (p1 (s2 (s4 (s4 e))))))))) (p1 (p1 (p2 (s2 (s4 (s4 e)))))) (p1 (p2 (p1 (p2 (s2 (s4 (s4 e))))))) (p1 (s2 (p1 (p2 (s2 (s4 (s4 e))))))) (p1 (p2 (s2 (p1 (p2 (s2 (s4 (s4 e)))))))) (p1 (s4 (p1 (p2 (s2 (s4 (s4 e))))))) (p1 (p2 (s4 (p1 (p2 (s2 (s4 (s4 e)))))))) (p1 (s2 (s4 (p1 (p2 (s2 (s4 (s4 e)))))))) (p1 (p2 (s2 (s4 (p1 (p2 (s2 (s4 (s4 e))))))))) (p1 (s4 (s4 (p1 (p2 (s2 (s4 (s4 e)))))))) (p1 (p2 (s4 (s4 (p1 (p2 (s2 (s4 (s4 e))))))))) (p1 (s2 (s4 (s4 (p1 (p2 (s2 (s4 (s4 e))))))))) (p1 (p2 (s2 (s4 (s4 (p1 (p2 (s2 (s4 (s4 e)))))))))) (p1 (s4 (s4 (s4 (p1 (p2 (s2 (s4 (s4 e))))))))) (p1 (p2 (s4 (s4 (s4 (p1 (p2 (s2 (s4 (s4 e)))))))))) (p1 (s2 (s4 (s4 (s4 (p1 (p2 (s2 (s4 (s4 e)))))))))) (p2 (s2 (s4 (s4 (s4 (p1 (p2 (s2 (s4 (s4 e)))))))))) (p1 (p1 (s4 (s4 (s4 e))))) (p1 (p2 (p1 (s4 (s4 (s4 e)))))) (p1 (s2 (p1 (s4 (s4 (s4 e)))))) (p1 (p2 (s2 (p1 (s4 (s4 (s4 e))))))) (p1 (s4 (p1 (s4 (s4 (s4 e)))))) (p1 (p2 (s4 (p1 (s4 (s4 (s4 e))))))) (p1 (s2 (s4 (p1 (s4 (s4 (s4 e))))))) (p1 (p2 (s2 (s4 (p1 (s4 (s4 (s4 e)))))))) (p1 (s4 (s4 (p1 (s4 (s4 (s4 e))))))) (p1 (p2 (s4 (s4 (p1 (s4 (s4 (s4 e)))))))) (p1 (s2 (s4 (s4 (p1 (s4 (s4 (s4 e)))))))) (p1 (p2 (s2 (s4 (s4 (p1 (s4 (s4 (s4 e))))))))) (p1 (s4 (s4 (s4 (p1 (s4 (s4 (s4 e)))))))) (p1 (p2 (s4 (s4 (s4 (p1 (s4 (s4 (s4 e))))))))) (p1 (s2 (s4 (s4 (s4 (p1 (s4 (s4 (s4 e))))))))) (p2 (s2 (s4 (s4 (s4 (p1 (s4 (s4 (s4 e))))))))) (p1 (p1 (p2 (s4 (s4 (s4 e)))))) (p1 (p2 (p1 (p2 (s4 (s4 (s4 e))))))) (p1 (s2 (p1 (p2 (s4 (s4 (s4 e))))))) (p1 (p2 (s2 (p1 (p2 (s4 (s4 (s4 e)))))))) (p1 (s4 (p1 (p2 (s4 (s4 (s4 e))))))) (p1 (p2 (s4 (p1 (p2 (s4 (s4 (s4 e)))))))) (p1 (s2 (s4 (p1 (p2 (s4 (s4 (s4 e)))))))) (p1 (p2 (s2 (s4 (p1 (p2 (s4 (s4 (s4 e))))))))) (p1 (s4 (s4 (p1 (p2 (s4 (s4 (s4 e)))))))) (p1 (p2 (s4 (s4 (p1 (p2 (s4 (s4 (s4 e))))))))) (p1 (s2 (s4 (s4 (p1 (p2 (s4 (s4 (s4 e))))))))) (p1 (p2 (s2 (s4 (s4 (p1 (p2 (s4 (s4 (s4 e)))))))))) (p1 (s4 (s4 (s4 (p1 (p2 (s4 (s4 (s4 e))))))))) (p1 (p2 (s4 (s4 (s4 (p1 (p2 (s4 (s4 (s4 e)))))))))) (p1 (s2 (s4 (s4 (s4 (p1 (p2 (s4 (s4 (s4 e)))))))))) (p2 (s2 (s4 (s4 (s4 (p1 (p2 (s4 (s4 (s4 e)))))))))) (p1 (p1 (s2 (s4 (s4 (s4 e)))))) (p1 (p2 (p1 (s2 (s4 (s4 (s4 e))))))) (p1 (s2 (p1 (s2 (s4 (s4 (s4 e))))))) (p1 (p2 (s2 (p1 (s2 (s4 (s4 (s4 e)))))))) (p1 (s4 (p1 (s2 (s4 (s4 (s4 e))))))) (p1 (p2 (s4 (p1 (s2 (s4 (s4 (s4 e)))))))) (p1 (s2 (s4 (p1 (s2 (s4 (s4 (s4 e)))))))) (p1 (p2 (s2 (s4 (p1 (s2 (s4 (s4 (s4 e))))))))) (p1 (s4 (s4 (p1 (s2 (s4 (s4 (s4 e)))))))) (p1 (p2 (s4 (s4 (p1 (s2 (s4 (s4 (s4 e))))))))) (p1 (s2 (s4 (s4 (p1 (s2 (s4 (s4 (s4 e))))))))) (p1 (p2 (s2 (s4 (s4 (p1 (s2 (s4 (s4 (s4 e)))))))))) (p1 (s4 (s4 (s4 (p1 (s2 (s4 (s4 (s4 e))))))))) (p1 (p2 (s4 (s4 (s4 (p1 (s2 (s4 (s4 (s4 e)))))))))) (p1 (s2 (s4 (s4 (s4 (p1 (s2 (s4 (s4 (s4 e)))))))))) (p2 (s2 (s4 (s4 (s4 (p1 (s2 (s4 (s4 (s4 e)))))))))) (p1 (p1 (p2 (s2 (s4 (s4 (s4 e))))))) (p1 (p2 (p1 (p2 (s2 (s4 (s4 (s4 e)))))))) (p1 (s2 (p1 (p2 (s2 (s4 (s4 (s4 e)))))))) (p1 (p2 (s2 (p1 (p2 (s2 (s4 (s4 (s4 e))))))))) (p1 (s4 (p1 (p2 (s2 (s4 (s4 (s4 e)))))))) (p1 (p2 (s4 (p1 (p2 (s2 (s4 (s4 (s4 e))))))))) (p1 (s2 (s4 (p1 (p2 (s2 (s4 (s4 (s4 e))))))))) (p1 (p2 (s2 (s4 (p1 (p2 (s2 (s4 (s4 (s4 e)))))))))) (p1 (s4 (s4 (p1 (p2 (s2 (s4 (s4 (s4 e))))))))) (p1 (p2 (s4 (s4 (p1 (p2 (s2 (s4 (s4 (s4 e)))))))))) (p1 (s2 (s4 (s4 (p1 (p2 (s2 (s4 (s4 (s4 e)))))))))) (p1 (p2 (s2 (s4 (s4 (p1 (p2 (s2 (s4 (s4 (s4 e))))))))))) (p1 (s4 (s4 (s4 (p1 (p2 (s2 (s4 (s4 (s4 e)))))))))) (p1 (p2 (s4 (s4 (s4 (p1 (p2 (s2 (s4 (s4 (s4 e))))))))))) (p1 (s2 (s4 (s4 (s4 (p1 (p2 (s2 (s4 (s4 (s4 e))))))))))) (p2 (s2 (s4 (s4 (s4 (p1 (p2 (s2 (s4 (s4 (s4 e))))))))))) (p1 (p1 (s4 (s4 (s4 (s4 e)))))) (p1 (p2 (p1 (s4 (s4 (s4 (s4 e))))))) (p1 (s2 (p1 (s4 (s4 (s4 (s4 e))))))) (p1 (p2 (s2 (p1 (s4 (s4 (s4 (s4 e)))))))) (p1 (s4 (p1 (s4 (s4 (s4 (s4 e))))))) (p1 (p2 (s4 (p1 (s4 (s4 (s4 (s4 e)))))))) (p1 (s2 (s4 (p1 (s4 (s4 (s4 (s4 e)))))))) (p1 (p2 (s2 (s4 (p1 (s4 (s4 (s4 (s4 e))))))))) (p1 (s4 (s4 (p1 (s4 (s4 (s4 (s4 e)))))))) (p1 (p2 (s4 (s4 (p1 (s4 (s4 (s4 (s4 e))))))))) (p1 (s2 (s4 (s4 (p1 (s4 (s4 (s4 (s4 e))))))))) (p1 (p2 (s2 (s4 (s4 (p1 (s4 (s4 (s4 (s4 e)))))))))) (p1 (s4 (s4 (s4 (p1 (s4 (s4 (s4 (s4 e))))))))) (p1 (p2 (s4 (s4 (s4 (p1 (s4 (s4 (s4 (s4 e)))))))))) (p1 (s2 (s4 (s4 (s4 (p1 (s4 (s4 (s4 (s4 e)))))))))) (p2 (s2 (s4 (s4 (s4 (p1 (s4 (s4 (s4 (s4 e)))))))))) (p1 (p1 (p2 (s4 (s4 (s4 (s4 e))))))) (p1 (p2 (p1 (p2 (s4 (s4 (s4 (s4 e)))))))) (p1 (s2 (p1 (p2 (s4 (s4 (s4 (s4 e)))))))) (p1 (p2 (s2 (p1 (p2 (s4 (s4 (s4 (s4 e))))))))) (p1 (s4 (p1 (p2 (s4 (s4 (s4 (s4 e)))))))) (p1 (p2 (s4 (p1 (p2 (s4 (s4 (s4 (s4 e))))))))) (p1 (s2 (s4 (p1 (p2 (s4 (s4 (s4 (s4 e))))))))) (p1 (p2 (s2 (s4 (p1 (p2 (s4 (s4 (s4 (s4 e)))))))))) (p1 (s4 (s4 (p1 (p2 (s4 (s4 (s4 (s4 e))))))))) (p1 (p2 (s4 (s4 (p1 (p2 (s4 (s4 (s4 (s4 e)))))))))) (p1 (s2 (s4 (s4 (p1 (p2 (s4 (s4 (s4 (s4 e)))))))))) (p1 (p2 (s2 (s4 (s4 (p1 (p2 (s4 (s4 (s4 (s4 e))))))))))) (p1 (s4 (s4 (s4 (p1 (p2 (s4 (s4 (s4 (s4 e)))))))))) (p1 (p2 (s4 (s4 (s4 (p1 (p2 (s4 (s4 (s4 (s4 e))))))))))) (p1 (s2 (s4 (s4 (s4 (p1 (p2 (s4 (s4 (s4 (s4 e))))))))))) (p2 (s2 (s4 (s4 (s4 (p1 (p2 (s4 (s4 (s4 (s4 e))))))))))) (p1 (s2 (s4 (s4 (s4 (s4 e)))))) (p1 (p2 (s2 (s4 (s4 (s4 (s4 e))))))) (p1 (s2 (s2 (s4 (s4 (s4 (s4 e))))))) (p1 (p2 (s2 (s2 (s4 (s4 (s4 (s4 e)))))))) (s4 (s2 (s4 (s4 (s4 (s4 e))))))
end Ws
open PySem PySem.W PyProof.Rows
set_option Elab.async false
set_option maxRecDepth 100000 in
set_option maxHeartbeats 0 in
theorem PySem.Challenge.cw_wordswap_k31_hands_and_rows_holds : PySem.Challenge.rw_wordswap_k31_hands_and_rows.Holds := by
 w_on;o_law
 refine Ws.aE7 (l:=PySem.Challenge.rw_wordswap_k31_hands_and_rows) (d:=⟨"law",L2.C3 (Ws.top 31),L2.C2 (Ws.top 31),L2.B6 (Ws.top 31),Ws.a06 (Ws.top 31)⟩) Ws.hdl.1 (by kernel_rfl) (by kernel_rfl) (by kernel_rfl) (by first | rfl | kernel_rfl) (by assumption) (by decide +kernel) ⟨rfl,rfl,rfl,rfl,rfl,by decide +kernel⟩ ?hw ?hc
 case hw=>w_witness2
 case hc=>exact Ws.ax1 (l:=PySem.Challenge.rw_wordswap_k31_hands_and_rows) (k:=7) (x:="_law_script") rfl (by kernel_rfl) ⟨rfl,by decide,by decide⟩ (λw h Y=>Y) λw mg fa h KX G hmg=>Ws.a69 KX G hmg
