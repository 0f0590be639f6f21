import PyProof.Rows.All
import Wide.All
import OpenK.AllK
import Wide.FinOn
import Lean
import PyProof.EqAt
import PyProof.EqKinds
import PyProof.TupleCall
import PySem.Challenge.RW_wordswap_k74_texts_of_no_deeds
import PyProof.ExcBaseAll.ValueError
import PyProof.NsDelKeeps
import PyProof.ExcArgs
import KE.KIntText
import PyProof.StrLawsChain
import PyProof.StrWalks
import PyProof.Draws
import PyProof.EnumMake
import PyProof.Rows.CallKwBuiltin
import PyProof.ToksMono
import PyProof.StrReplace2
import PyProof.MeetsStr3
import PyProof.AttrMissHeap
noncomputable section
set_option compiler.extract_closed false
set_option Elab.async false
set_option linter.all false
set_option maxRecDepth 100000
namespace L2
open PySem PySem.Spec PyProof.Rows
abbrev Key:=Sum Int Str
def aC2:Key->Value->Bool
 | .inl k,v=>Value.isInt k v
 | .inr x,v=>Value.isStrOf x v
def aS0 (w:World):Key->Int
 | .inl k=>hashInt k
 | .inr x=>hashStr w x
theorem keyIs_shape:∀{k:Key} {v:Value},aC2 k v=true->(∃i t,k=Sum.inl i/\v=Value.int i t)\/(∃x t,k=Sum.inr x/\v=Value.str x t)
 | .inl i,v,h=>by
   obtain⟨t,e⟩:=Value.isInt_shape (k:=i) (v:=v) h
   exact .inl ⟨i,t,rfl,e⟩
 | .inr x,v,h=>by
   obtain⟨t,e⟩:=Value.isStrOf_shape (x:=x) (v:=v) h
   exact .inr ⟨x,t,rfl,e⟩
theorem aE6 (a b:Int):decide ((Sum.inl a:Key)=Sum.inl b)=(a == b):=by
 by_cases e:a=b
 ·subst e;simp
 ·have h:¬(Sum.inl a:Key)=Sum.inl b:=λq=>e (Sum.inl.inj q)
  rw [decide_eq_false h]
  exact (beq_eq_false_iff_ne.mpr e).symm
theorem aE7 (a b:Str):decide ((Sum.inr a:Key)=Sum.inr b)=decide (a=b):=by
 by_cases e:a=b
 ·subst e;simp
 ·have h:¬(Sum.inr a:Key)=Sum.inr b:=λq=>e (Sum.inr.inj q)
  rw [decide_eq_false h,decide_eq_false e]
theorem aE8 (a:Int) (b:Str):decide ((Sum.inl a:Key)=Sum.inr b)=false:=decide_eq_false (λq=>nomatch q)
theorem aE9 (a:Str) (b:Int):decide ((Sum.inr a:Key)=Sum.inl b)=false:=decide_eq_false (λq=>nomatch q)
def af2 (prog:Program) (w:World):PySem.KeyKind prog w Key where
 is:=aC2
 hash:=aS0 w
 inj:=λv a b ha hb=>by
  rcases keyIs_shape ha with ⟨i,t,rfl,rfl⟩ | ⟨x,t,rfl,rfl⟩
  ·rcases keyIs_shape hb with ⟨j,u,rfl,e⟩ | ⟨y,u,rfl,e⟩
   ·injection e with e1 _;rw [e1]
   ·exact nomatch e
  ·rcases keyIs_shape hb with ⟨j,u,rfl,e⟩ | ⟨y,u,rfl,e⟩
   ·exact nomatch e
   ·injection e with e1 _;rw [e1]
 byValue:=λk v h=>by
  rcases keyIs_shape h with ⟨i,t,rfl,rfl⟩ | ⟨x,t,rfl,rfl⟩ <;> rfl
 pyHash:=λhv h=>by
  rcases keyIs_shape hv with ⟨i,t,rfl,rfl⟩ | ⟨x,t,rfl,rfl⟩
  ·exact wpAny_pyHash_int h
  ·exact wpAny_pyHash_str h
 eqBool:=λhu hv h=>by
  rcases keyIs_shape hu with ⟨i,t,rfl,rfl⟩ | ⟨x,t,rfl,rfl⟩
  ·rcases keyIs_shape hv with ⟨j,u,rfl,rfl⟩ | ⟨y,u,rfl,rfl⟩
   ·rw [aE6] at h;exact wpAny_eqBool_int h
   ·rw [aE8] at h;exact SeqAt.EqAt.int_str i t y u _ _ _ _ h
  ·rcases keyIs_shape hv with ⟨j,u,rfl,rfl⟩ | ⟨y,u,rfl,rfl⟩
   ·rw [aE9] at h;exact SeqAt.EqAt.str_int x t j u _ _ _ _ h
   ·rw [aE7] at h;exact wpAny_eqBool_str h
 «strs»:=λk x t v h=>by
  rcases keyIs_shape h with ⟨i,u,rfl,e⟩ | ⟨y,u,rfl,e⟩
  ·exact nomatch e
  ·injection e with e1 _
   subst e1
   cases v <;> rfl
inductive V where
 | non | bl (b:Bool) | int (i:Int) | str (x:Str) | byt (b:Array UInt8) | flt (b:UInt64) | ref (a:Addr) | ty (n:String)
 deriving DecidableEq
def RelV:V->Value->Prop
 | .non,u=>u=Value.none
 | .bl b,u=>u=Value.bool b
 | .int i,u=>∃t,u=Value.int i t
 | .str x,u=>∃t,u=Value.str x t
 | .byt b,u=>∃t,u=Value.bytes b t
 | .flt b,u=>∃t,u=Value.float b t
 | .ref a,u=>u=Value.ref a
 | .ty n,u=>u=Value.type n
abbrev Vals:List V->List Value->Prop:=Paired RelV
theorem Vals.length {xs:List V} {us:List Value} (r:Vals xs us):xs.length=us.length:=Paired.length r
theorem Vals.get:∀{xs:List V} {us:List Value} {i:Nat} {x:V},Vals xs us->xs[i]?=some x->∃u,us[i]?=some u/\RelV x u
 | _,_,_,_,.nil,e=>by simp at e
 | _,_,0,_,.cons r _,e=>by simp at e;subst e;exact⟨_,rfl,r⟩
 | _,_,i+1,x,.cons _ t,e=>by
   obtain⟨u,h1,h2⟩:=Vals.get (i:=i) (x:=x) t (by simpa using e)
   exact⟨u,by simpa using h1,h2⟩
theorem Vals.set {x:V} {u:Value} (r:RelV x u):∀{xs:List V} {us:List Value} (i:Nat),Vals xs us->Vals (xs.set i x) (us.set i u)
 | _,_,_,.nil=>.nil
 | _,_,0,.cons _ t=>.cons r t
 | _,_,i+1,.cons q t=>.cons q (Vals.set r i t)
theorem Vals.append:∀{xs ys:List V} {us ws:List Value},Vals xs us->Vals ys ws->Vals (xs++ys) (us++ws)
 | _,_,_,_,.nil,s=>s
 | _,_,_,_,.cons r t,s=>.cons r (Vals.append t s)
theorem Vals.take:∀{xs:List V} {us:List Value} (n:Nat),Vals xs us->Vals (xs.take n) (us.take n)
 | _,_,0,_=>.nil
 | _,_,_+1,.nil=>.nil
 | _,_,n+1,.cons r t=>.cons r (Vals.take n t)
theorem Vals.drop:∀{xs:List V} {us:List Value} (n:Nat),Vals xs us->Vals (xs.drop n) (us.drop n)
 | _,_,0,r=>r
 | _,_,_+1,.nil=>.nil
 | _,_,n+1,.cons _ t=>Vals.drop n t
def RelO:Option V->Option Value->Prop
 | some v,some u=>RelV v u
 | none,none=>True
 | _,_=>False
def KV {κ:Type}:List (κ×V)->List (κ×Value)->Prop:=Paired λ(p:κ×V) (q:κ×Value)=>p.1=q.1/\RelV p.2 q.2
def kV:Key->V
 | .inl i=>.int i
 | .inr x=>.str x
inductive HO where
 | lst (xs:List V)
 | tup (xs:List V)
 | dK (kvs:List (Key×V)) | dT (kvs:List (List Key×V))
 | set (S:Int->Bool) (n:Nat)
 | ins (C dx:Addr) (fs:List (Str×V))
 | own (x:Addr)
 | xd (fs:List (Str×V))
 | met (f x:Addr)
 | rng (lo hi:Int)
 | frz (o:Obj) (u:HO)
 | tbl (ps:Array Value)
 | ext (φ:Heap->Prop)
abbrev Hp:=Addr->Option HO
def upd (H:Hp) (a:Addr) (o:HO):Hp:=λb=>if b=a then some o else H b
theorem B9 {H:Hp} {a:Addr} {o:HO}:upd H a o a=some o:=by unfold upd;rw [if_pos rfl]
theorem B0 {H:Hp} {a b:Addr} {o:HO} (h:b≠a):upd H a o b=H b:=by unfold upd;rw [if_neg h]
theorem aw5 {H:Hp} {a:Addr} {o u:HO}:upd (upd H a o) a u=upd H a u:=by
 funext b;unfold upd;split <;> rfl
theorem C9 {H:Hp} {a b:Addr} {o:HO} (h:H a=some o) (h':H b=none):a≠b:=by
 intro e;subst e;rw [h] at h';cases h'
section
variable (P:Program) (w:World)
def ObjOk (H:Hp) (h:Heap) (a:Addr):HO->Prop
 | .lst xs=>xs.length<=sizeLine/\∃(its:List Value) (n:Nat),Vals xs its/\h.get? a=some { cls:=.type "list",data:=.seq its.toArray n }
 | .tup xs=>xs.length<=sizeLine/\∃its:List Value,Vals xs its/\IsTup h a its.toArray
 | .dK kvs=>kvs.length<=sizeLine/\(a == sysModules)=false/\∃vs,KV kvs vs/\h.DictOf (af2 P w) a vs
 | .dT kvs=>kvs.length<=sizeLine/\(a == sysModules)=false/\∃xs:List (List Key×Addr×Value),
  Paired (λ(p:List Key×V) (q:List Key×Addr×Value)=>p.1=q.1/\H q.2.1=some (.tup (p.1.map kV))/\RelV p.2 q.2.2) kvs xs/\
  ∃o es ep,h.get? a=some o/\o.ExactDict/\o.data=.dict es ep/\es.toList=xs.map (entryOfKey (tupleKind (af2 P w)))/\(xs.map (·.1)).Nodup
 | .set S n=>h.SetOf (intKind P w) a S n
 | .ins C dx fs=>H dx=some (.own a)/\fs.length<=1000/\dx≠a/\h.get? a=some (PySem.W.instObj C dx)/\
  ∃mA,h.Ns1 dx mA/\(∀f,RelO (fs.lookup f) (mA f))/\PySem.Within mA (fs.map (·.1))
 | .own _=>∃o,h.get? a=some o
 | .xd fs=>∃mA,h.Ns1 a mA/\∀f,RelO (fs.lookup f) (mA f)
 | .rng lo hi=>∃t u v,h.get? a=some { cls:=.type "range",data:=.fields #[.int lo t,.int hi u,.int 1 v] }
 | .frz o u=>h.get? a=some o/\ObjOk H h a u
 | .tbl ps=>h.get? a=some { cls:=.none,data:=.fields ps }
 | .met f x=>h.get? a=some (PySem.W.methodObj (.ref f) (.ref x))
 | .ext φ=>φ h/\(∃o,h.get? a=some o)/\∀h1 h2:Heap,φ h1->(∀o,h1.get? a=some o->h2.get? a=some o)->φ h2
def HOk (H:Hp) (h:Heap):Prop:=∀a o,H a=some o->ObjOk P w H h a o
end
section
variable {P:Program} {w:World} {H H':Hp} {h h':Heap} {a:Addr} {o:HO}
theorem ObjOk.lt (x:ObjOk P w H h a o):a<h.objs.size:=by
 cases o with
 | lst xs=>obtain⟨_,_,_,_,e⟩:=x;exact Heap.lt_size e
 | tup xs=>obtain⟨_,_,_,p⟩:=x;exact p.lt
 | dK kvs=>obtain⟨_,_,_,_,o,_,_,e,_⟩:=x;exact Heap.lt_size e
 | dT kvs=>obtain⟨_,_,_,_,o,_,_,e,_⟩:=x;exact Heap.lt_size e
 | set S n=>obtain⟨o,_,_,_,e,_⟩:=x;exact Heap.lt_size e
 | ins C dx fs=>obtain⟨_,_,_,e,_⟩:=x;exact Heap.lt_size e
 | own y=>obtain⟨_,e⟩:=x;exact Heap.lt_size e
 | xd fs=>obtain⟨_,⟨_,_,_,e,_⟩,_⟩:=x;exact Heap.lt_size e
 | rng lo hi=>obtain⟨_,_,_,e⟩:=x;exact Heap.lt_size e
 | frz ob u=>obtain⟨e,_⟩:=x;exact Heap.lt_size e
 | tbl ps=>exact Heap.lt_size (show h.get? a=some _ from x)
 | met f y=>exact Heap.lt_size (show h.get? a=some _ from x)
 | ext φ=>obtain⟨_,⟨_,e⟩,_⟩:=x;exact Heap.lt_size e
theorem Paired.mapP {α β:Type} {F G:α->β->Prop}:∀{l₁:List α} {l₂:List β},Paired F l₁ l₂->(∀a b,F a b->G a b)->Paired G l₁ l₂
 | _,_,.nil,_=>.nil
 | _,_,.cons r t,f=>.cons (f _ _ r) (Paired.mapP t f)
theorem ObjOk.stay (x:ObjOk P w H h a o) (k:∀b u,(b=a\/H b=some (.own a))->h.get? b=some u->h'.get? b=some u)
 (ho:∀b,H b=some (.own a)->H' b=some (.own a)) (ht:∀b xs,H b=some (.tup xs)->H' b=some (.tup xs)):ObjOk P w H' h' a o:=by
 induction o with
 | lst xs=>obtain⟨z,its,n,r,e⟩:=x;exact⟨z,its,n,r,k _ _ (.inl rfl) e⟩
 | tup xs=>obtain⟨z,its,r,ob,e,c⟩:=x;exact⟨z,its,r,ob,k _ _ (.inl rfl) e,c⟩
 | dK kvs=>obtain⟨z,y,vs,r,ob,es,ep,e,c⟩:=x;exact⟨z,y,vs,r,ob,es,ep,k _ _ (.inl rfl) e,c⟩
 | dT kvs=>
   obtain⟨z,y,xs,r,ob,es,ep,e,c⟩:=x
   exact⟨z,y,xs,Paired.mapP r λp q z=>⟨z.1,ht _ _ z.2.1,z.2.2⟩,ob,es,ep,k _ _ (.inl rfl) e,c⟩
 | set S n=>obtain⟨ob,es,ep,t,e,c⟩:=x;exact⟨ob,es,ep,t,k _ _ (.inl rfl) e,c⟩
 | ins C dx fs=>
   obtain⟨d,z,ne,e,mA,⟨od,es,ep,e2,c⟩,r⟩:=x
   exact⟨ho _ d,z,ne,k _ _ (.inl rfl) e,mA,⟨od,es,ep,k _ _ (.inr d) e2,c⟩,r⟩
 | own y=>obtain⟨ob,e⟩:=x;exact⟨ob,k _ _ (.inl rfl) e⟩
 | xd fs=>obtain⟨mA,⟨od,es,ep,e,c⟩,r⟩:=x;exact⟨mA,⟨od,es,ep,k _ _ (.inl rfl) e,c⟩,r⟩
 | rng lo hi=>obtain⟨t,u,v,e⟩:=x;exact⟨t,u,v,k _ _ (.inl rfl) e⟩
 | frz ob u ih=>obtain⟨e,q⟩:=x;exact⟨k _ _ (.inl rfl) e,ih q⟩
 | tbl ps=>
   have e:h.get? a=some { cls:=.none,data:=.fields ps }:=x
   show h'.get? a=some { cls:=.none,data:=.fields ps }
   exact k a _ (.inl rfl) e
 | met f y=>
   have e:h.get? a=some (PySem.W.methodObj (.ref f) (.ref y)):=x
   show h'.get? a=some (PySem.W.methodObj (.ref f) (.ref y))
   exact k a _ (.inl rfl) e
 | ext φ=>obtain⟨p,⟨o,e⟩,st⟩:=x;exact⟨st _ _ p λo q=>k _ _ (.inl rfl) q,⟨o,k _ _ (.inl rfl) e⟩,st⟩
theorem HOk.lt (x:HOk P w H h) (e:H a=some o):a<h.objs.size:=(x a o e).lt
theorem HOk.fresh (x:HOk P w H h) (e:h.objs.size<=a):H a=none:=by
 cases q:H a with
 | none=>rfl
 | some u=>exact absurd (Nat.lt_of_lt_of_le (x.lt q) e) (Nat.lt_irrefl _)
theorem HOk.kept (x:HOk P w H h) (k:∀b u,h.get? b=some u->h'.get? b=some u):HOk P w H h':=λa o e=>
 (x a o e).stay (λb u _ q=>k b u q) (λ_ q=>q) λ_ _ q=>q
theorem HOk.laid (x:HOk P w H h) (k:∀b u,h.get? b=some u->h'.get? b=some u) (hp:h.objs.size<=a) (new:ObjOk P w (upd H a o) h' a o):HOk P w (upd H a o) h':=λb u e=>by
 have hn:=x.fresh hp
 by_cases hb:b=a
 ·subst hb;rw [B9] at e;cases e;exact new
 ·rw [B0 hb] at e
  exact (x b u e).stay (λc v _ q=>k c v q) (λc q=>by rw [B0 (C9 q hn)];exact q) λc xs q=>by rw [B0 (C9 q hn)];exact q
end
def Rd (H:Hp) (a:Addr) (u:HO):Prop:=H a=some u\/∃o,H a=some (.frz o u)
theorem Rd.ok {P:Program} {w:World} {H:Hp} {h:Heap} {a:Addr} {u:HO} (r:Rd H a u) (x:HOk P w H h):ObjOk P w H h a u:=by
 rcases r with r | ⟨o,r⟩
 ·exact x a u r
 ·obtain⟨_,q⟩:=x a _ r
  exact q
def Mut:Option HO->Prop
 | some (.lst _)=>True
 | some (.dK _)=>True
 | some (.dT _)=>True
 | some (.set _ _)=>True
 | some (.ins _ _ _)=>True
 | some (.ext _)=>True
 | _=>False
section
variable {P:Program} {w:World} {H:Hp} {h h':Heap} {x e:Addr} {o':HO}
theorem HOk.write (ok:HOk P w H h) (mu:Mut (H x)) (he:e=x\/H e=some (.own x)) (k:∀b u,b≠e->h.get? b=some u->h'.get? b=some u) (heo:∃u,h'.get? e=some u)
 (new:ObjOk P w (upd H x o') h' x o'):HOk P w (upd H x o') h':=λb u q=>by
 have nown:∀c y,H c=some (.own y)->c≠x:=λc y r z=>by subst z;rw [r] at mu;exact mu
 have ntup:∀c xs,H c=some (.tup xs)->c≠x:=λc xs r z=>by subst z;rw [r] at mu;exact mu
 by_cases hb:b=x
 ·subst hb;rw [B9] at q;cases q;exact new
 ·rw [B0 hb] at q
  by_cases hbe:b=e
  ·have q':H b=some (.own x):=by
    rcases he with z | z
    ·exact absurd (hbe.trans z) hb
    ·rw [hbe];exact z
   rw [q] at q';cases q'
   obtain⟨v,hv⟩:=heo
   exact⟨v,by rw [hbe];exact hv⟩
  ·refine (ok b u q).stay (λc v hc r=>k c v ?_ r) (λc r=>by rw [B0 (nown c b r)];exact r) λc xs r=>by rw [B0 (ntup c xs r)];exact r
   rcases hc with rfl | hc
   ·exact hbe
   ·rintro rfl
    rcases he with z | z
    ·exact nown c b hc z
    ·rw [hc] at z;cases z;exact hb rfl
end
structure Un (fs ex:List Addr) (H H':Hp) (h h':Heap):Prop where
 keep:∀b o,h.get? b=some o->H b=none->b∉fs->b∉ex->h'.get? b=some o
 slot:∀b o,h.get? b=some o->H b=none->b∈fs->b∉ex->∃sl,h'.get? b=some { o with slots:=sl }
 free:∀b o,h.get? b=some o->H b=none->b∉ex->H' b=none
 there:∀b o,h.get? b=some o->b∉ex->∃o',h'.get? b=some o'
 tups:∀b xs,H b=some (.tup xs)->H' b=some (.tup xs)
 frzs:∀b o u,H b=some (.frz o u)->H' b=some (.frz o u)
 tbls:∀b ps,H b=some (.tbl ps)->∃more,H' b=some (.tbl (ps++more))
section
variable {fs fs' ex ex':List Addr} {H H1 H2:Hp} {h h1 h2 h':Heap} {a x e:Addr} {o:HO}
theorem Un.any (u:Un fs ex H H1 h h1) {b:Addr} {ob:Obj} (q:h.get? b=some ob) (n:H b=none) (hx:b∉ex):∃sl,h1.get? b=some { ob with slots:=sl }:=by
 by_cases hb:b∈fs
 ·exact u.slot b ob q n hb hx
 ·exact⟨ob.slots,u.keep b ob q n hb hx⟩
theorem Un.trans (a:Un fs ex H H1 h h1) (b:Un fs ex H1 H2 h1 h2):Un fs ex H H2 h h2 where
 keep:=λc ob q n hc hx=>b.keep c ob (a.keep c ob q n hc hx) (a.free c ob q n hx) hc hx
 slot:=λc ob q n hc hx=>by
  obtain⟨sl,e1⟩:=a.slot c ob q n hc hx
  obtain⟨sl',e2⟩:=b.slot c _ e1 (a.free c ob q n hx) hc hx
  exact⟨sl',e2⟩
 free:=λc ob q n hx=>by
  obtain⟨o',e1⟩:=a.there c ob q hx
  exact b.free c o' e1 (a.free c ob q n hx) hx
 there:=λc ob q hx=>by
  obtain⟨o',e1⟩:=a.there c ob q hx
  exact b.there c o' e1 hx
 tups:=λc xs q=>b.tups c xs (a.tups c xs q)
 frzs:=λc ob xs q=>b.frzs c ob xs (a.frzs c ob xs q)
 tbls:=λc ps q=>by
  obtain⟨m1,e1⟩:=a.tbls c ps q
  obtain⟨m2,e2⟩:=b.tbls c _ e1
  exact⟨m1++m2,by rw [e2,Array.append_assoc]⟩
theorem Un.kept (k:∀b u,h.get? b=some u->h'.get? b=some u):Un fs ex H H h h':=
 ⟨λb ob q _ _ _=>k b ob q,λb ob q _ _ _=>⟨ob.slots,k b ob q⟩,λ_ _ _ n _=>n,λb ob q _=>⟨ob,k b ob q⟩,λ_ _ q=>q,λ_ _ _ q=>q,λ_ ps q=>⟨#[],by rw [q];simp⟩⟩
theorem Un.refl:Un fs ex H H h h:=Un.kept λ_ _ q=>q
theorem Un.laid (k:∀b u,h.get? b=some u->h'.get? b=some u) (hp:h.objs.size<=a) (hn:H a=none):Un fs ex H (upd H a o) h h' where
 keep:=λb u q _ _ _=>k b u q
 slot:=λb u q _ _ _=>⟨u.slots,k b u q⟩
 free:=λb u q n _=>by rw [B0 (Nat.ne_of_lt (Nat.lt_of_lt_of_le (Heap.lt_size q) hp))];exact n
 there:=λb u q _=>⟨u,k b u q⟩
 tups:=λb xs q=>by rw [B0 (C9 q hn)];exact q
 frzs:=λb u xs q=>by rw [B0 (C9 q hn)];exact q
 tbls:=λb ps q=>⟨#[],by rw [B0 (C9 q hn),q];simp⟩
theorem Un.write (mu:Mut (H x)) (he:e=x\/H e=some (.own x)) (k:∀b u,b≠e->h.get? b=some u->h'.get? b=some u) (heo:∃u,h'.get? e=some u):Un fs ex H (upd H x o) h h':=by
 have hx:∀b,H b=none->b≠x:=λb n z=>by subst z;rw [n] at mu;exact mu
 have hb:∀b,H b=none->b≠e:=λb n z=>by
  subst z
  rcases he with r | r
  ·exact hx b n r
  ·rw [n] at r;cases r
 have hm:∀b u,H b=some u->¬Mut (some u)->b≠x:=λb u q nm z=>by subst z;rw [q] at mu;exact nm mu
 refine⟨λb u q n _ _=>k b u (hb b n) q,λb u q n _ _=>⟨u.slots,k b u (hb b n) q⟩,λb u q n _=>by rw [B0 (hx b n)];exact n,λb u q _=>?_,
  λb xs q=>by rw [B0 (hm b _ q λz=>z)];exact q,λb u xs q=>by rw [B0 (hm b _ q λz=>z)];exact q,λb ps q=>⟨#[],by rw [B0 (hm b _ q λz=>z),q];simp⟩⟩
 by_cases hbe:b=e
 ·subst hbe;exact heo
 ·exact⟨u,k b u hbe q⟩
theorem Un.mono (u:Un fs ex H H1 h h1) (hs:∀b∈fs,b∈fs') (hx:∀b∈ex,b∈ex'):Un fs' ex' H H1 h h1:=
 ⟨λb ob q n hb he=>u.keep b ob q n (λz=>hb (hs b z)) λz=>he (hx b z),λ_ _ q n _ he=>u.any q n λz=>he (hx _ z),λb ob q n he=>u.free b ob q n λz=>he (hx b z),λb ob q he=>u.there b ob q λz=>he (hx b z),u.tups,u.frzs,u.tbls⟩
end
def trk (h:Heap) (H:Hp):List Addr:=(List.range h.objs.size).filter λa=>(H a).isSome
def o9 (h:Heap) (H:Hp):Heap:=PySem.W.hideAll h (trk h H)
theorem ai8 (h:Heap) (H:Hp):(o9 h H).objs.size=h.objs.size:=PySem.W.hideAll_size _ _
theorem am4 {h:Heap} {H:Hp} {b:Addr} {o:Obj} (e:h.get? b=some o) (n:H b=none):(o9 h H).get? b=some o:=
 PySem.W.hideAll_get _ e λhm=>by
  have q:(H b).isSome=true:=(List.mem_filter.mp hm).2
  rw [n] at q;simp at q
theorem aw6 {h:Heap} {H:Hp} {b:Addr} {o:Obj} (e:(o9 h H).get? b=some o):h.get? b=some o/\H b=none:=by
 have e':h.get? b=some o:=PySem.W.of_hideAll (trk h H) e
 refine⟨e',?_⟩
 cases q:H b with
 | none=>rfl
 | some x=>
   have hm:b∈trk h H:=List.mem_filter.mpr ⟨List.mem_range.mpr (Heap.lt_size e'),by simp [q]⟩
   have z:(o9 h H).get? b=none:=PySem.W.hideAll_none (trk h H) hm
   rw [z] at e;cases e
structure Mod (K:PySem.W.Frag) (mg:Str->Option Value) (base:Heap):Prop where
 kin:K.In base
 glob:base.Ns mainGlobals mg
 blt:∃mb,base.Ns builtinsNs mb/\∀x:Str,x≠"__name__"->mb x=bootBuiltins x
 nolimit:base.NoLimit
structure Cx where
 prog:Program
 w:World
 K:PySem.W.Frag
 mg:Str->Option Value
 base:Heap
 A:Around
 N:List Str
 s₀:Shared
 H₀:Hp
 env:Env
 outer:List Env
 stack:List Env
 ex:List Addr
 fn:Str->Bool
 calm:Bool
 pn:List (Addr×Obj)
 xe:Value->Shared->Prop
def frs (l:List Env):List Addr:=l.filterMap (·.frame)
abbrev Cx.fs (X:Cx):List Addr:=frs X.outer
def Vis (sc:Scope) (x:Str):Prop:=sc.names.lookup x=some .local\/sc.names.lookup x=some .cell\/sc.names.lookup x=some .free
def Loc (sc:Scope) (x:Str):Prop:=sc.names.lookup x=some .local\/sc.names.lookup x=some .cell
def aN1 (env:Env) (h:Heap) (m:Str->Option Value) (x:Str) (u:Value):Prop:=
 (env.kindOf x=some .local/\m x=some u)\/((env.kindOf x=some .cell\/env.kindOf x=some .free)/\∃c,env.cells.lookup x=some c/\h.IsCell c (some u))
structure Cx.Ok (X:Cx):Prop where
 mod:Mod X.K X.mg X.base
 kind:X.env.scope.kind=.function
 glob:X.env.globals=mainGlobals
 blt:X.env.builtins=builtinsNs
 above:X.s₀.heap.objs.size<=X.env.locals
 inj:∀x y c,X.env.cells.lookup x=some c->X.env.cells.lookup y=some c->x=y
 has:∀x,(X.env.kindOf x=some .cell\/X.env.kindOf x=some .free)->∃c,X.env.cells.lookup x=some c
 cab:∀x c,X.fn x=true->X.env.cells.lookup x=some c->X.s₀.heap.objs.size<=c
 hd:X.calm=true->X.A.handled=none
 frames:X.A.frames=some X.stack
 stk:X.stack=X.outer\/(X.stack=X.env::X.outer/\X.env.frame=some X.env.locals)
 exf:∀b∈X.ex,b≠X.env.locals/\∀x c,X.env.cells.lookup x=some c->c≠b
 bs:∀b o,X.base.get? b=some o->X.s₀.heap.get? b=some o/\X.H₀ b=none
 bsz:X.base.objs.size<=X.s₀.heap.objs.size
 noex:∀b o,X.base.get? b=some o->b∉X.ex
 exfs:∀b∈X.ex,b∉X.fs
 funs:X.s₀.heap.FunFrames X.base X.outer
 frf:∀b∈X.fs,X.H₀ b=none
structure Inv (X:Cx) (pins:List (Addr×Obj)) (σ:List (Option V)) (H:Hp) (s:Shared):Prop where
 ok:X.Ok
 os:s.os=X.s₀.os
 bare:AllBare s.gens
 base:Un X.fs X.ex X.H₀ H X.s₀.heap s.heap
 loc:∃m,s.heap.Ns X.env.locals m/\∀(i:Nat) (x:Str) (v:V),X.N[i]?=some x->σ[i]?=some (some v)->Vis X.env.scope x->∃u,RelV v u/\aN1 X.env s.heap m x u
 cell:∀x c,X.env.cells.lookup x=some c->∃v,s.heap.IsCell c v
 free:H X.env.locals=none
 freeC:∀x c,X.env.cells.lookup x=some c->H c=none
 pin:∀p∈X.pn++pins,s.heap.get? p.1=some p.2/\H p.1=none/\p.1≠X.env.locals/\p.1∉X.fs/\∀v,p.2.data≠.cell v
 hok:HOk X.prog X.w H s.heap
 len:σ.length=X.N.length
section
variable {X:Cx} {pins:List (Addr×Obj)} {σ:List (Option V)} {H H':Hp} {s:Shared} {h':Heap}
theorem Cx.Ok.nofr (ok:X.Ok) {b:Addr} {o:Obj} (e:X.base.get? b=some o):b∉X.fs:=λhb=>by
 have:=(ok.funs.mem hb).1
 rw [e] at this;cases this
theorem Inv.bs (I:Inv X pins σ H s):∀b o,X.base.get? b=some o->s.heap.get? b=some o/\H b=none:=λb o e=>
 ⟨I.base.keep b o (I.ok.bs b o e).1 (I.ok.bs b o e).2 (I.ok.nofr e) (I.ok.noex b o e),I.base.free b o (I.ok.bs b o e).1 (I.ok.bs b o e).2 (I.ok.noex b o e)⟩
theorem Inv.bk (I:Inv X pins σ H s):∀b o,X.base.get? b=some o->s.heap.get? b=some o:=λb o e=>(I.bs b o e).1
theorem Inv.mod (I:Inv X pins σ H s):Mod X.K X.mg X.base:=I.ok.mod
theorem Inv.kIn (I:Inv X pins σ H s):X.K.In s.heap:=I.ok.mod.kin.keeps I.bk
theorem Inv.lt (I:Inv X pins σ H s):X.env.locals<s.heap.objs.size:=let ⟨_,hn,_⟩:=I.loc;hn.lt
theorem Inv.sz (I:Inv X pins σ H s):X.s₀.heap.objs.size<=s.heap.objs.size:=Nat.le_trans I.ok.above (Nat.le_of_lt I.lt)
theorem Inv.nofs (I:Inv X pins σ H s) {a:Addr} (h:s.heap.objs.size<=a):a∉X.fs:=λhb=>by
 obtain⟨_,o,ho,_⟩:=I.ok.funs.mem hb
 exact absurd (Nat.lt_of_lt_of_le (Heap.lt_size ho) (Nat.le_trans I.sz h)) (Nat.lt_irrefl _)
theorem Inv.cne (I:Inv X pins σ H s):∀x c,X.env.cells.lookup x=some c->c≠X.env.locals:=λx c e z=>by
 obtain⟨v,o,ho,hd⟩:=I.cell x c e
 obtain⟨m,⟨o',es,ep,ho',hd',_⟩,_⟩:=I.loc
 rw [z,ho'] at ho;cases ho;rw [hd'] at hd;cases hd
theorem Inv.funs (I:Inv X pins σ H s):s.heap.FunFrames X.base X.outer:=by
 have all:∀(l:List Env),(∀b∈frs l,b∈X.fs)->X.s₀.heap.FunFrames X.base l->s.heap.FunFrames X.base l:=by
  intro l
  induction l with
  | nil=>intro _ _;trivial
  | cons env r ih=>
    intro hs hl
    obtain⟨hk,⟨L,o,hf,hn,ho,hd⟩,hr⟩:=hl
    have hL:L∈X.fs:=hs L (by unfold frs;rw [List.filterMap_cons,hf];exact List.mem_cons_self)
    obtain⟨sl,e⟩:=I.base.slot L o ho (I.ok.frf L hL) hL λz=>I.ok.exfs L z hL
    exact⟨hk,⟨L,_,hf,hn,e,hd⟩,ih (λb hb=>hs b (by unfold frs;rw [List.filterMap_cons,hf];exact List.mem_cons_of_mem _ hb)) hr⟩
 exact all X.outer (λ_ hb=>hb) I.ok.funs
theorem Inv.stack (I:Inv X pins σ H s):s.heap.FunFrames X.base X.stack:=by
 rcases I.ok.stk with e | ⟨e,hf⟩
 ·rw [e];exact I.funs
 ·rw [e]
  obtain⟨m,hn,_⟩:=I.loc
  refine .cons (by rw [I.ok.kind];decide) hf hn ?_ I.funs
  exact Heap.get?_none_of_le (Nat.le_trans I.ok.bsz I.ok.above)
theorem Inv.stkSub (I:Inv X pins σ H s):∀b∈frs X.stack,b∈X.env.locals::X.fs:=λb hb=>by
 rcases I.ok.stk with e | ⟨e,hf⟩
 ·rw [e] at hb;exact List.mem_cons_of_mem _ hb
 ·rw [e] at hb
  unfold frs at hb
  rw [List.filterMap_cons,hf] at hb
  exact hb
theorem Inv.stkFree (I:Inv X pins σ H s):∀b∈frs X.stack,H b=none:=λb hb=>by
 rcases List.mem_cons.mp (I.stkSub b hb) with e | hb
 ·rw [e];exact I.free
 ·obtain⟨_,o,ho,_⟩:=I.ok.funs.mem hb
  exact I.base.free b o ho (I.ok.frf b hb) λz=>I.ok.exfs b z hb
theorem Inv.step {g':Array GenState} {t':Nat} {d':Drawn} {ch:List Addr} (I:Inv X pins σ H s)
 (hch:∀b∈ch,(b∈X.ex\/X.s₀.heap.objs.size<=b)/\b≠X.env.locals/\(∀x c,X.env.cells.lookup x=some c->c≠b)/\∀p∈X.pn++pins,p.1≠b)
 (keep:∀b o,b≠X.env.locals->b∉X.fs->b∉ch->s.heap.get? b=some o->H b=none->h'.get? b=some o)
 (slot:∀b o,b≠X.env.locals->b∈X.fs->b∉ch->s.heap.get? b=some o->H b=none->∃sl,h'.get? b=some { o with slots:=sl }) (free:∀b o,b∉ch->s.heap.get? b=some o->H b=none->H' b=none)
 (there:∀b o,b∉ch->s.heap.get? b=some o->∃o',h'.get? b=some o')
 (tups:∀b xs,H b=some (.tup xs)->H' b=some (.tup xs)) (frzs:∀b o u,H b=some (.frz o u)->H' b=some (.frz o u)) (tbls:∀b ps,H b=some (.tbl ps)->∃more,H' b=some (.tbl (ps++more)))
 (ns:∀m,s.heap.Ns X.env.locals m->h'.Ns X.env.locals m) (hok:HOk X.prog X.w H' h') (hg:AllBare g') :
 Inv X pins σ H' { s with heap:=h',gens:=g',drawn:=d',toks:=t' }:=by
 have neL:∀b o,X.s₀.heap.get? b=some o->b≠X.env.locals:=λb o e=>Nat.ne_of_lt (Nat.lt_of_lt_of_le (Heap.lt_size e) I.ok.above)
 have neC:∀b o,X.s₀.heap.get? b=some o->b∉X.ex->b∉ch:=λb o e hx hb=>by
  rcases (hch b hb).1 with z | z
  ·exact hx z
  ·exact absurd (Nat.lt_of_lt_of_le (Heap.lt_size e) z) (Nat.lt_irrefl _)
 have cellK:∀x c,X.env.cells.lookup x=some c->∀v,s.heap.IsCell c v->h'.IsCell c v:=λx c e v ⟨o,ho,hd⟩=>by
  have nch:c∉ch:=λz=>(hch c z).2.2.1 x c e rfl
  by_cases hc:c∈X.fs
  ·obtain⟨sl,q⟩:=slot c o (I.cne x c e) hc nch ho (I.freeC x c e)
   exact⟨_,q,hd⟩
  ·exact⟨o,keep c o (I.cne x c e) hc nch ho (I.freeC x c e),hd⟩
 refine⟨I.ok,I.os,hg,⟨λb o e n hb hx=>?_,λb o e n hb hx=>?_,λb o e n hx=>?_,λb o e hx=>?_,λb xs e=>tups b xs (I.base.tups b xs e),λb o xs e=>frzs b o xs (I.base.frzs b o xs e),λb ps e=>?_⟩,?_,λx c e=>?_,?_,λx c e=>?_,λp hp=>?_,hok,I.len⟩
 ·exact keep b o (neL b o e) hb (neC b o e hx) (I.base.keep b o e n hb hx) (I.base.free b o e n hx)
 ·obtain⟨sl,e1⟩:=I.base.slot b o e n hb hx
  obtain⟨sl',e2⟩:=slot b _ (neL b o e) hb (neC b o e hx) e1 (I.base.free b o e n hx)
  exact⟨sl',e2⟩
 ·obtain⟨o',e1⟩:=I.base.there b o e hx
  exact free b o' (neC b o e hx) e1 (I.base.free b o e n hx)
 ·obtain⟨o',e1⟩:=I.base.there b o e hx
  exact there b o' (neC b o e hx) e1
 ·obtain⟨m1,e1⟩:=I.base.tbls b ps e
  obtain⟨m2,e2⟩:=tbls b _ e1
  exact⟨m1++m2,by rw [e2,Array.append_assoc]⟩
 ·obtain⟨m,hn,hl⟩:=I.loc
  refine⟨m,ns m hn,λi x v e1 e2 e3=>?_⟩
  obtain⟨u,r,l⟩:=hl i x v e1 e2 e3
  refine⟨u,r,?_⟩
  rcases l with l | ⟨k,c,e,z⟩
  ·exact .inl l
  ·exact .inr ⟨k,c,e,cellK x c e _ z⟩
 ·obtain⟨v,z⟩:=I.cell x c e
  exact⟨v,cellK x c e v z⟩
 ·obtain⟨m,⟨o,_,_,ho,_⟩,_⟩:=I.loc
  exact free _ o (λz=>(hch _ z).2.1 rfl) ho I.free
 ·obtain⟨v,o,ho,hd⟩:=I.cell x c e
  exact free c o (λz=>(hch c z).2.2.1 x c e rfl) ho (I.freeC x c e)
 ·obtain⟨e,n,ne,nf,d⟩:=I.pin p hp
  have nch:p.1∉ch:=λz=>(hch p.1 z).2.2.2 p hp rfl
  exact⟨keep p.1 p.2 ne nf nch e n,free p.1 p.2 nch e n,ne,nf,d⟩
theorem Inv.un {t':Nat} (I:Inv X pins σ H s) (u:Un X.fs [] H H' s.heap h') (hok:HOk X.prog X.w H' h'):Inv X pins σ H' { s with heap:=h',toks:=t' }:=by
 obtain⟨m,⟨o,es,ep,ho,r⟩,_⟩:=id I.loc
 obtain⟨sl,hL⟩:=u.any ho I.free (by simp)
 exact I.step (g':=s.gens) (d':=s.drawn) (ch:=[]) (λ_ z=>nomatch z) (λb o _ hb _ e n=>u.keep b o e n hb (by simp)) (λb o _ hb _ e n=>u.slot b o e n hb (by simp)) (λb o _ e n=>u.free b o e n (by simp)) (λb o _ e=>u.there b o e (by simp)) u.tups u.frzs u.tbls (λm' hm=>by
  obtain⟨o',es',ep',ho',r'⟩:=hm
  rw [ho] at ho';cases ho'
  exact⟨_,es',ep',hL,r'⟩) hok I.bare
theorem Inv.call {g':Array GenState} {t':Nat} {d':Drawn} {ch:List Addr} (I:Inv X pins σ H s) (u:Un (frs X.stack) ch H H' s.heap h') (hok:HOk X.prog X.w H' h') (hg:AllBare g')
 (hch:∀b∈ch,(b∈X.ex\/X.s₀.heap.objs.size<=b)/\b≠X.env.locals/\(∀x c,X.env.cells.lookup x=some c->c≠b)/\∀p∈X.pn++pins,p.1≠b) :
 Inv X pins σ H' { s with heap:=h',gens:=g',drawn:=d',toks:=t' }:=by
 obtain⟨m,⟨o,es,ep,ho,r⟩,_⟩:=id I.loc
 obtain⟨sl,hL⟩:=u.any ho I.free λz=>(hch _ z).2.1 rfl
 exact I.step (ch:=ch) hch (λb o hL hb hc e n=>u.keep b o e n (λz=>(List.mem_cons.mp (I.stkSub b z)).elim hL hb) hc) (λb o _ _ hc e n=>u.any e n hc) (λb o hc e n=>u.free b o e n hc) (λb o hc e=>u.there b o e hc) u.tups u.frzs u.tbls (λm' hm=>by
  obtain⟨o',es',ep',ho',r'⟩:=hm
  rw [ho] at ho';cases ho'
  exact⟨_,es',ep',hL,r'⟩) hok hg
theorem Inv.turned {t':Nat} {it:Addr} (I:Inv X pins σ H s) (k:∀b o,b≠it->s.heap.get? b=some o->h'.get? b=some o) (hn:H it=none) (hL:it≠X.env.locals)
 (h1:it∈X.ex\/X.s₀.heap.objs.size<=it) (h2:∀x c,X.env.cells.lookup x=some c->c≠it) (h3:∀p∈X.pn++pins,p.1≠it):Inv X pins σ H { s with heap:=h',toks:=t' }:=by
 have nit:∀b u,H b=some u->b≠it:=λb u e z=>by rw [z,hn] at e;cases e
 refine I.step (g':=s.gens) (d':=s.drawn) (ch:=[it]) (λb hb=>?_) (λb o _ _ hc e _=>k b o (λz=>hc (by simp [z])) e) (λb o _ _ hc e _=>⟨o.slots,k b o (λz=>hc (by simp [z])) e⟩) (λ_ _ _ _ n=>n)
  (λb o hc e=>⟨o,k b o (λz=>hc (by simp [z])) e⟩) (λ_ _ e=>e) (λ_ _ _ e=>e) (λb ps e=>⟨#[],by rw [e];simp⟩) (λm hm=>?_) (λb u e=>?_) I.bare
 ·have e:b=it:=by simpa using hb
  subst e
  exact⟨h1,hL,h2,h3⟩
 ·obtain⟨o,es,ep,ho,r⟩:=hm
  exact⟨o,es,ep,k _ o (Ne.symm hL) ho,r⟩
 ·refine (I.hok b u e).stay (λc v hc q=>k c v ?_ q) (λ_ q=>q) λ_ _ q=>q
  rcases hc with z | z
  ·rw [z];exact nit b u e
  ·exact nit c _ z
theorem Inv.tok (I:Inv X pins σ H s) (t:Nat):Inv X pins σ H { s with toks:=t }:=I.un (h':=s.heap) (t':=t) Un.refl I.hok
theorem Inv.kept {t':Nat} (I:Inv X pins σ H s) (k:∀b u,s.heap.get? b=some u->h'.get? b=some u):Inv X pins σ H { s with heap:=h',toks:=t' }:=I.un (Un.kept k) (I.hok.kept k)
theorem Inv.laid {a:Addr} {o:HO} {t':Nat} (I:Inv X pins σ H s) (k:∀b u,s.heap.get? b=some u->h'.get? b=some u) (hp:s.heap.objs.size<=a) (new:ObjOk X.prog X.w (upd H a o) h' a o) :
 Inv X pins σ (upd H a o) { s with heap:=h',toks:=t' }:=I.un (Un.laid k hp (I.hok.fresh hp)) (I.hok.laid k hp new)
theorem Inv.write {x e:Addr} {o:HO} {t':Nat} (I:Inv X pins σ H s) (mu:Mut (H x)) (he:e=x\/H e=some (.own x)) (k:∀b u,b≠e->s.heap.get? b=some u->h'.get? b=some u) (heo:∃u,h'.get? e=some u)
 (new:ObjOk X.prog X.w (upd H x o) h' x o):Inv X pins σ (upd H x o) { s with heap:=h',toks:=t' }:=I.un (Un.write mu he k heo) (I.hok.write mu he k heo new)
theorem Inv.pins_of {pins':List (Addr×Obj)} (I:Inv X pins σ H s) (h:∀p∈pins',s.heap.get? p.1=some p.2/\H p.1=none/\p.1≠X.env.locals/\p.1∉X.fs/\∀v,p.2.data≠.cell v):Inv X pins' σ H s:=
 ⟨I.ok,I.os,I.bare,I.base,I.loc,I.cell,I.free,I.freeC,λp hp=>(List.mem_append.mp hp).elim (λz=>I.pin p (List.mem_append_left _ z)) (h p),I.hok,I.len⟩
theorem Y5 {N:List Str} (hN:N.Nodup) {i j:Nat} {x:Str} (a:N[i]?=some x) (b:N[j]?=some x):i=j:=by
 obtain⟨h1,e1⟩:=List.getElem?_eq_some_iff.mp a
 obtain⟨h2,e2⟩:=List.getElem?_eq_some_iff.mp b
 exact (List.getElem_inj hN).mp (e1.trans e2.symm)
theorem ai9 {M:Model} {A:Around} {E:Value->Shared->Prop} {i:Nat} {x:Str} {v:V} {u:Value} {Q:Unit->Shared->Prop} (I:Inv X pins σ H s) (hN:X.N.Nodup) (hi:X.N[i]?=some x) (hx:Loc X.env.scope x) (r:RelV v u)
 (h:∀s',Inv X pins (σ.set i (some v)) H s'->(∃a,Heap.SameBut a s.heap s'.heap/\(a=X.env.locals\/X.env.cells.lookup x=some a))->Q () s') (hf:X.fn x=true\/X.env.scope.names.lookup x=some .local:=by first | exact .inl rfl | exact .inr rfl | assumption):wpAny M A (storeName X.env x u) Q E s:=by
 obtain⟨m,hn,hl⟩:=id I.loc
 have hcls:(X.env.scope.kind == .class||(X.env.scope.kind == .module&&X.env.locals != X.env.globals))=false:=by rw [I.ok.kind];rfl
 have hiσ:i<σ.length:=by rw [I.len];exact (List.getElem?_eq_some_iff.mp hi).1
 have cne:=I.cne
 have tracked:∀{a:Addr} {h':Heap},(∃o,s.heap.get? a=some o/\H a=none)->Heap.SameBut a s.heap h'->HOk X.prog X.w H h':=λ{a h'} ha hs b ob e=>by
  obtain⟨_,_,hfree⟩:=ha
  refine (I.hok b ob e).stay (λc w' hc q=>(hs.2 c ?_).trans q) (λ_ q=>q) λ_ _ q=>q
  rintro rfl
  rcases hc with rfl | hc
  ·rw [hfree] at e;cases e
  ·rw [hfree] at hc;cases hc
 rcases hx with hk | hk
 ·refine wpAny_storeName_local hk hn (λh' hn' hs=>?_) hcls
  obtain⟨oL,_,_,hoL,_⟩:=id hn
  refine h _ ⟨I.ok,I.os,I.bare,⟨λb o e n hb hx=>?_,λb o e n hb hx=>?_,I.base.free,λb o e hx=>?_,I.base.tups,I.base.frzs,I.base.tbls⟩,⟨_,hn',λj y v' e1 e2 e3=>?_⟩,λy c e=>?_,I.free,I.freeC,λp hp=>?_,tracked ⟨oL,hoL,I.free⟩ hs,by simpa using I.len⟩ ⟨_,hs,.inl rfl⟩
  ·exact (hs.2 b (Nat.ne_of_lt (Nat.lt_of_lt_of_le (Heap.lt_size e) I.ok.above))).trans (I.base.keep b o e n hb hx)
  ·obtain⟨sl,e1⟩:=I.base.slot b o e n hb hx
   exact⟨sl,(hs.2 b (Nat.ne_of_lt (Nat.lt_of_lt_of_le (Heap.lt_size e) I.ok.above))).trans e1⟩
  ·obtain⟨o',e1⟩:=I.base.there b o e hx
   exact⟨o',(hs.2 b (Nat.ne_of_lt (Nat.lt_of_lt_of_le (Heap.lt_size e) I.ok.above))).trans e1⟩
  ·by_cases hj:j=i
   ·subst hj
    rw [hi] at e1;cases e1
    rw [List.getElem?_set_self hiσ] at e2
    cases e2
    exact⟨u,r,.inl ⟨hk,by simp⟩⟩
   ·rw [List.getElem?_set_ne (Ne.symm hj)] at e2
    obtain⟨u',r',q⟩:=hl j y v' e1 e2 e3
    refine⟨u',r',?_⟩
    rcases q with ⟨k,e⟩ | ⟨k,c,e,z⟩
    ·refine .inl ⟨k,?_⟩
     have:y≠x:=λe=>hj (Y5 hN e1 (e ▸ hi))
     simp [this,e]
    ·exact .inr ⟨k,c,e,z.sameBut hs (cne y c e)⟩
  ·obtain⟨w',z⟩:=I.cell y c e
   exact⟨w',z.sameBut hs (cne y c e)⟩
  ·obtain⟨e,n,ne,nf,d⟩:=I.pin p hp
   exact⟨(hs.2 p.1 ne).trans e,n,ne,nf,d⟩
 ·have hfn:X.fn x=true:=by
   rcases hf with z | z
   ·exact z
   ·rw [z] at hk;cases hk
  obtain⟨c,hc⟩:=I.ok.has x (.inl hk)
  obtain⟨w',z⟩:=I.cell x c hc
  refine wpAny_storeName_cell I.ok.kind hk hc z (λh' hc' hs=>?_)
  obtain⟨oc,hoc,hocd⟩:=id z
  refine h { s with heap:=h' } ⟨I.ok,I.os,I.bare,⟨λb o e n hb hx=>?_,λb o e n hb hx=>?_,I.base.free,λb o e hx=>?_,I.base.tups,I.base.frzs,I.base.tbls⟩,⟨m,hn.sameBut hs (Ne.symm (cne x c hc)),λj y v' e1 e2 e3=>?_⟩,λy c' e=>?_,I.free,I.freeC,λp hp=>?_,tracked ⟨oc,hoc,I.freeC x c hc⟩ hs,by simpa using I.len⟩ ⟨c,hs,.inr hc⟩
  ·exact (hs.2 b (Nat.ne_of_lt (Nat.lt_of_lt_of_le (Heap.lt_size e) (I.ok.cab x c hfn hc)))).trans (I.base.keep b o e n hb hx)
  ·obtain⟨sl,e1⟩:=I.base.slot b o e n hb hx
   exact⟨sl,(hs.2 b (Nat.ne_of_lt (Nat.lt_of_lt_of_le (Heap.lt_size e) (I.ok.cab x c hfn hc)))).trans e1⟩
  ·obtain⟨o',e1⟩:=I.base.there b o e hx
   exact⟨o',(hs.2 b (Nat.ne_of_lt (Nat.lt_of_lt_of_le (Heap.lt_size e) (I.ok.cab x c hfn hc)))).trans e1⟩
  ·by_cases hj:j=i
   ·subst hj
    rw [hi] at e1;cases e1
    rw [List.getElem?_set_self hiσ] at e2
    cases e2
    exact⟨u,r,.inr ⟨.inl hk,c,hc,hc'⟩⟩
   ·rw [List.getElem?_set_ne (Ne.symm hj)] at e2
    obtain⟨u',r',q⟩:=hl j y v' e1 e2 e3
    refine⟨u',r',?_⟩
    rcases q with q | ⟨k,c',e,z'⟩
    ·exact .inl q
    ·refine .inr ⟨k,c',e,z'.sameBut hs ?_⟩
     rintro rfl
     exact hj (Y5 hN e1 (I.ok.inj _ _ _ e hc ▸ hi))
  ·by_cases hcc:c'=c
   ·subst hcc;exact⟨_,hc'⟩
   ·obtain⟨w2,z2⟩:=I.cell y c' e
    exact⟨w2,z2.sameBut hs hcc⟩
  ·obtain⟨e,n,ne,nf,d⟩:=I.pin p hp
   refine⟨(hs.2 p.1 ?_).trans e,n,ne,nf,d⟩
   intro q
   rw [q,hoc] at e
   have q':oc=p.2:=Option.some.inj e
   exact d w' (by rw [←q'];exact hocd)
theorem Y6 {M:Model} {A:Around} {E:Value->Shared->Prop} {i:Nat} {x:Str} {v:V} {u:Value} {Q:Unit->Shared->Prop} (I:Inv X pins σ H s) (hN:X.N.Nodup) (hi:X.N[i]?=some x) (hx:Loc X.env.scope x) (r:RelV v u)
 (h:∀s',Inv X pins (σ.set i (some v)) H s'->Q () s') (hf:X.fn x=true\/X.env.scope.names.lookup x=some .local:=by first | exact .inl rfl | exact .inr rfl | assumption):wpAny M A (storeName X.env x u) Q E s:=
 ai9 I hN hi hx r (λs' I' _=>h s' I') hf
theorem Inv.call' {s':Shared} {ch:List Addr} (I:Inv X pins σ H s) (ho:s'.os=s.os) (u:Un (frs X.stack) ch H H' s.heap s'.heap) (hok:HOk X.prog X.w H' s'.heap) (hg:AllBare s'.gens)
 (hch:∀b∈ch,(b∈X.ex\/X.s₀.heap.objs.size<=b)/\b≠X.env.locals/\(∀x c,X.env.cells.lookup x=some c->c≠b)/\∀p∈X.pn++pins,p.1≠b):Inv X pins σ H' s':=by
 obtain⟨h',g',d',t',o'⟩:=s'
 have e:o'=s.os:=ho
 subst e
 exact I.call (g':=g') (t':=t') (d':=d') u hok hg hch
end
abbrev XK:=Value->Option Addr->Hp->Prop
abbrev St:=List (Option V)
abbrev VK:=V->Hp->Prop
abbrev TE:=St->Hp->VK->Prop
abbrev TT:=St->Hp->(Bool->Hp->Prop)->Prop
abbrev TA:=St->Hp->(List V->Hp->Prop)->Prop
structure Y7 where
 nx:St->Hp->Prop
 rt:VK
 bk:St->Hp->Prop:=λ_ _=>False
 ct:St->Hp->Prop:=λ_ _=>False
abbrev TS:=Y7->St->Hp->Prop
def EP (X:Cx) (pins:List (Addr×Obj)) (σ:St) (Q:VK) (u:Value) (s':Shared):Prop:=∃v H',Inv X pins σ H' s'/\RelV v u/\Q v H'
def TP (X:Cx) (pins:List (Addr×Obj)) (σ:St) (Q:Bool->Hp->Prop) (b:Bool) (s':Shared):Prop:=∃H',Inv X pins σ H' s'/\Q b H'
def AP (X:Cx) (pins:List (Addr×Obj)) (σ:St) (Q:List V->Hp->Prop) (us:List Value) (s':Shared):Prop:=∃vs H',Inv X pins σ H' s'/\Vals vs us/\Q vs H'
def SP (X:Cx) (pins:List (Addr×Obj)) (D:Y7) (f:Flow) (s':Shared):Prop:=
 match f with
 | .next=>∃σ' H',Inv X pins σ' H' s'/\D.nx σ' H'
 | .brk=>∃σ' H',Inv X pins σ' H' s'/\D.bk σ' H'
 | .cont=>∃σ' H',Inv X pins σ' H' s'/\D.ct σ' H'
 | .ret u=>∃v σ' H',Inv X pins σ' H' s'/\RelV v u/\D.rt v H'
def PE (X:Cx) (e:Expr) (t:TE):Prop:=
 ∀(pins:List (Addr×Obj)) (s:Shared) (σ:St) (H:Hp) (Q:VK),Inv X pins σ H s->t σ H Q->wpAny (model X.prog X.w) X.A (eval e X.env) (EP X pins σ Q) X.xe s
def PT (X:Cx) (e:Expr) (t:TT):Prop:=
 ∀(pins:List (Addr×Obj)) (s:Shared) (σ:St) (H:Hp) (Q:Bool->Hp->Prop),Inv X pins σ H s->t σ H Q->wpAny (model X.prog X.w) X.A (isTrue e X.env (eval e X.env)) (TP X pins σ Q) X.xe s
def PW (X:Cx) (e:Expr) (t:TT):Prop:=
 ∀(whole:Sem Value) (pins:List (Addr×Obj)) (s:Shared) (σ:St) (H:Hp) (Q:Bool->Hp->Prop),Inv X pins σ H s->t σ H Q->wpAny (model X.prog X.w) X.A (isTrue e X.env whole) (TP X pins σ Q) X.xe s
theorem PW.pt {X:Cx} {e:Expr} {t:TT} (h:PW X e t):PT X e t:=h _
def PA (X:Cx) (es:List Expr) (t:TA):Prop:=
 ∀(pos:Pos) (pins:List (Addr×Obj)) (s:Shared) (σ:St) (H:Hp) (Q:List V->Hp->Prop),Inv X pins σ H s->t σ H Q->wpAny (model X.prog X.w) X.A (spliced (backTo pos (starEach es X.env))) (AP X pins σ Q) X.xe s
def PS (X:Cx) (st:Stmt) (t:TS):Prop:=
 ∀(pins:List (Addr×Obj)) (s:Shared) (σ:St) (H:Hp) (D:Y7),Inv X pins σ H s->t D σ H->wpAny (model X.prog X.w) X.A (exec st X.env) (SP X pins D) X.xe s
def PSs (X:Cx) (st:List Stmt) (t:TS):Prop:=
 ∀(pins:List (Addr×Obj)) (s:Shared) (σ:St) (H:Hp) (D:Y7),Inv X pins σ H s->t D σ H->wpAny (model X.prog X.w) X.A (execs st X.env) (SP X pins D) X.xe s
theorem thn {α:Type} {t:Sem α} {Q Q':α->Shared->Prop} {M:Model} {A:Around} {E:Value->Shared->Prop} {s:Shared} (h:wpAny M A t Q E s) (hQ:∀a s,Q a s->Q' a s):wpAny M A t Q' E s:=wpAny_mono h hQ λ_ _ x=>x
section
variable {X:Cx}
def tVar (i:Nat):TE:=λσ H Q=>∃v,σ[i]?=some (some v)/\Q v H
def tC (v:V):TE:=λ_ H Q=>Q v H
theorem aF0 {i:Nat} {x:Str} {pos:Pos} (hN:X.N[i]?=some x) (hv:Vis X.env.scope x) (hd:(x == ("__debug__" : Str))=false:=by decide) (hcd:(x == ("__classdict__" : Str))=false:=by decide):PE X (.Name x pos) (tVar i):=by
 intro pins s σ H Q I h
 obtain⟨v,e,h⟩:=h
 obtain⟨m,hn,hl⟩:=I.loc
 obtain⟨u,r,l⟩:=hl i x v hN e hv
 have fin:EP X pins σ Q u s:=⟨v,H,I,r,h⟩
 rcases l with ⟨hk,hm⟩ | ⟨hk,c,hc,hcell⟩
 ·exact wpAny_Name (wpAny_loadName_local I.ok.kind hk hn hm fin) hd
 ·rcases hk with hk | hk
  ·exact wpAny_Name (wpAny_loadName_cell I.ok.kind hk hc hcell fin) hd
  ·exact wpAny_Name (wpAny_loadName_free I.ok.kind hk hc hcell fin hcd) hd
theorem am5 {i j pos}:PE X (.Constant (.int i) j pos) (tC (.int i)):=λ_ _ _ H _ I h=>wpAny_Constant_int ⟨.int i,H,I.tok _,⟨_,rfl⟩,h⟩
theorem aN2 {b j pos}:PE X (.Constant (.bool b) j pos) (tC (.bl b)):=λ_ _ _ H _ I h=>Constant_bool ⟨.bl b,H,I,rfl,h⟩
theorem aF1 {j pos}:PE X (.Constant .none j pos) (tC .non):=λ_ _ _ H _ I h=>Constant_none ⟨.non,H,I,rfl,h⟩
theorem aF2 {x j pos}:PE X (.Constant (.str x) j pos) (tC (.str x)):=λ_ _ _ H _ I h=>Calls.Constant_str ⟨.str x,H,I.tok _,⟨_,rfl⟩,h⟩
def Gl (X:Cx) (x:Str):Prop:=X.env.kindOf x=some .globalImplicit
theorem T7 {E:Value->Shared->Prop} {pins:List (Addr×Obj)} {s:Shared} {σ:St} {H:Hp} {x:Str} {u:Value} {pos:Pos} {Q:Value->Shared->Prop} (I:Inv X pins σ H s) (hg:Gl X x) (hm:X.mg x=some u) (h:Q u s)
 (hd:(x == ("__debug__" : Str))=false:=by decide):wpAny (model X.prog X.w) X.A (eval (.Name x pos) X.env) Q E s:=
 Calls.Name_function_global I.ok.kind hg (Calls.loadGlobal_global (by rw [I.ok.glob];exact I.mod.glob.keeps I.bk) hm h) hd
theorem p8 {E:Value->Shared->Prop} {pins:List (Addr×Obj)} {s:Shared} {σ:St} {H:Hp} {x:Str} {u:Value} {pos:Pos} {Q:Value->Shared->Prop} (I:Inv X pins σ H s) (hg:Gl X x) (hm:X.mg x=none) (hv:bootBuiltins x=some u) (h:Q u s)
 (hn:x≠"__name__":=by decide) (hd:(x == ("__debug__" : Str))=false:=by decide):wpAny (model X.prog X.w) X.A (eval (.Name x pos) X.env) Q E s:=by
 obtain⟨mb,h1,h2⟩:=I.mod.blt
 exact Calls.Name_function_global I.ok.kind hg (Calls.loadGlobal_builtin (by rw [I.ok.glob];exact I.mod.glob.keeps I.bk) hm (by rw [I.ok.blt];exact h1.keeps I.bk) ((h2 x hn).trans hv) h) hd
theorem p9 {x:Str} {v:V} {u:Value} {pos:Pos} (hg:Gl X x) (hm:X.mg x=some u) (r:RelV v u) (hd:(x == ("__debug__" : Str))=false:=by decide):PE X (.Name x pos) (tC v):=
 λ_ _ _ H _ I h=>T7 I hg hm ⟨v,H,I,r,h⟩ hd
variable {a b:Expr} {ta tb:TE} {pos:Pos}
def PC (X:Cx) (op:CmpOp) (a b:Expr) (t:TE):Prop:=
 ∀(pins:List (Addr×Obj)) (s:Shared) (σ:St) (H:Hp) (Q:VK),Inv X pins σ H s->t σ H Q->
  wpAny (model X.prog X.w) X.A (eval a X.env) (λv s₁=>wpAny (model X.prog X.w) X.A (eval b X.env) (λu s₂=>wpAny (model X.prog X.w) X.A (compareOp op v u) (EP X pins σ Q) X.xe s₂) X.xe s₁) X.xe s
def aN3 (ta:TE):TE:=λσ H Q=>ta σ H λx H1=>Q (.bl (decide (x=.non))) H1
theorem RelV.none_iff {x:V} {v:Value} (r:RelV x v):(v == Value.none)=decide (x=.non):=by
 cases x with
 | non=>cases r;rfl
 | bl _=>cases r;rfl
 | int _=>obtain⟨t,rfl⟩:=r;rfl
 | str _=>obtain⟨t,rfl⟩:=r;rfl
 | byt _=>obtain⟨t,rfl⟩:=r;rfl
 | flt _=>obtain⟨t,rfl⟩:=r;rfl
 | ref _=>cases r;rfl
 | ty _=>cases r;rfl
theorem aF3 {j pos'} (ha:PE X a ta):PC X .Is a (.Constant .none j pos') (aN3 ta):=by
 intro pins s σ H Q I h
 refine thn (ha pins s σ H _ I h) λv s1 ⟨x,H1,I1,r1,q1⟩=>?_
 exact Constant_none (is_none_gen ⟨.bl _,H1,I1,by rw [r1.none_iff];rfl,q1⟩)
def tB (t:TE):TT:=λσ H Q=>t σ H λx H1=>∃c,x=.bl c/\Q c H1
theorem aF4 {op:CmpOp} {t:TE} (h:PC X op a b t) (h1:behindInMarks op b=false:=by first | exact nobehind _ (by decide) (by decide) | rfl):PT X (.Compare a [op] [b] pos) (tB t):=by
 intro pins s σ H Q I hw
 refine wpAny_isTrue_Compare1 (thn (h pins s σ H _ I hw) λv s1 h1=>thn h1 λu s2 h2=>thn h2 λc s3 ⟨x,H1,I1,r1,q1⟩=>?_) h1
 obtain⟨d,rfl,q⟩:=q1
 cases r1
 exact wpAny_truthy_bool ⟨H1,I1,q⟩
theorem aF5 {e:Expr} {t:TE} (h:PE X e t) (he:∀whole,isTrue e X.env whole=(do let v ←whole;standAt e.pos;holding [v] (truthy v)):=by intro _;rfl):PT X e (tB t):=by
 intro pins s σ H Q I hw
 refine isTrue_plain (thn (h pins s σ H _ I hw) λv s1 ⟨x,H1,I1,r1,q1⟩=>?_) (he _)
 obtain⟨d,rfl,q⟩:=q1
 cases r1
 exact wpAny_truthy_bool ⟨H1,I1,q⟩
variable {tA tB':TT} {rest:List Expr}
def tAnd (t u:TT):TT:=λσ H Q=>t σ H λc H1=>if c=true then u σ H1 Q else Q false H1
def tOr (t u:TT):TT:=λσ H Q=>t σ H λc H1=>if c=true then Q true H1 else u σ H1 Q
def tNot (t:TT):TT:=λσ H Q=>t σ H λc H1=>Q (!c) H1
theorem aw7 (ha:PT X a tA):PW X (.BoolOp .And [a] pos) tA:=by
 intro wh pins s σ H Q I h
 refine isTrue_and (thn (ha pins s σ H Q I h) λc s1 e=>?_)
 cases c with
 | true=>exact isTrue_and_nil e
 | false=>exact e
theorem aF6 (ha:PT X a tA):PW X (.BoolOp .Or [a] pos) tA:=by
 intro wh pins s σ H Q I h
 refine isTrue_or (thn (ha pins s σ H Q I h) λc s1 e=>?_)
 cases c with
 | false=>exact isTrue_or_nil e
 | true=>exact e
theorem aF7 (ha:PT X a tA) (hb:PW X (.BoolOp .And (b::rest) pos) tB'):PW X (.BoolOp .And (a::b::rest) pos) (tAnd tA tB'):=by
 intro wh pins s σ H Q I h
 refine isTrue_and (thn (ha pins s σ H _ I h) λc s1 ⟨H1,I1,q1⟩=>?_)
 cases c with
 | true=>exact hb wh pins s1 σ H1 Q I1 q1
 | false=>exact⟨H1,I1,q1⟩
theorem aN4 (ha:PT X a tA) (hb:PW X (.BoolOp .Or (b::rest) pos) tB'):PW X (.BoolOp .Or (a::b::rest) pos) (tOr tA tB'):=by
 intro wh pins s σ H Q I h
 refine isTrue_or (thn (ha pins s σ H _ I h) λc s1 ⟨H1,I1,q1⟩=>?_)
 cases c with
 | true=>exact⟨H1,I1,q1⟩
 | false=>exact hb wh pins s1 σ H1 Q I1 q1
theorem aF8 (ha:PT X a tA):PT X (.UnaryOp .Not a pos) (tNot tA):=by
 intro pins s σ H Q I h
 exact isTrue_not (ha pins s σ H (λc H1=>Q (!c) H1) I h)
def aS1 (ta tb:TE):TE:=λσ H Q=>ta σ H λx H1=>∃c,x=.bl c/\if c=true then Q (.bl true) H1 else tb σ H1 Q
theorem aF9 {op} {t:TE} (h:PE X a t):PE X (.BoolOp op [a] pos) t:=λpins s σ H Q I hw=>BoolOp_one (h pins s σ H Q I hw)
theorem aN5 (ha:PE X a ta) (hb:PE X (.BoolOp .Or (b::rest) pos) tb):PE X (.BoolOp .Or (a::b::rest) pos) (aS1 ta tb):=by
 intro pins s σ H Q I h
 refine BoolOp_or (thn (ha pins s σ H _ I h) λv s1 ⟨x,H1,I1,r1,q1⟩=>?_)
 obtain⟨c,rfl,q1⟩:=q1
 cases r1
 refine wpAny_truthy_bool ?_
 cases c with
 | false=>exact hb pins s1 σ H1 Q I1 q1
 | true=>exact⟨.bl true,H1,I1,rfl,q1⟩
end
def SqL (K:PySem.W.Frag) (H:Hp) (a:Addr) (xs:List V):Prop:=
 Rd H a (.lst xs)\/
  ∃(o:Obj) (its:Array Value) (n:Nat),K.lookup a=some o/\o.cls=.type "list"/\o.dict=none/\o.data=.seq its n/\its.size<=sizeLine/\Vals xs its.toList
def SqT (K:PySem.W.Frag) (H:Hp) (a:Addr) (xs:List V):Prop:=
 Rd H a (.tup xs)\/
  ∃(o:Obj) (its:Array Value) (n:Nat),K.lookup a=some o/\o.cls=.type "tuple"/\o.data=.seq its n/\its.size<=sizeLine/\Vals xs its.toList
def aS2:Value->Option V
 | .none=>some .non
 | .bool b=>some (.bl b)
 | .int i _=>some (.int i)
 | .str x _=>some (.str x)
 | .bytes b _=>some (.byt b)
 | .float b _=>some (.flt b)
 | .ref a=>some (.ref a)
 | .type n=>some (.ty n)
 | _=>none
theorem RelV.abs {x:V} {u:Value} (r:RelV x u):aS2 u=some x:=by
 cases x with
 | non=>cases r;rfl
 | bl _=>cases r;rfl
 | int _=>obtain⟨t,rfl⟩:=r;rfl
 | str _=>obtain⟨t,rfl⟩:=r;rfl
 | byt _=>obtain⟨t,rfl⟩:=r;rfl
 | flt _=>obtain⟨t,rfl⟩:=r;rfl
 | ref _=>cases r;rfl
 | ty _=>cases r;rfl
theorem RelV.inj {x y:V} {u:Value} (r:RelV x u) (q:RelV y u):x=y:=Option.some.inj (r.abs.symm.trans q.abs)
theorem Vals.inj:∀{xs ys:List V} {us:List Value},Vals xs us->Vals ys us->xs=ys
 | _,_,_,.nil,.nil=>rfl
 | _,_,_,.cons r t,.cons r' t'=>by rw [r.inj r',Vals.inj t t']
section
variable {X:Cx} {pins:List (Addr×Obj)} {σ:St} {H:Hp} {s:Shared} {a:Addr} {xs ys:List V}
theorem SqL.of {K:PySem.W.Frag} (h:H a=some (.lst xs)):SqL K H a xs:=.inl (.inl h)
theorem SqT.of {K:PySem.W.Frag} (h:H a=some (.tup xs)):SqT K H a xs:=.inl (.inl h)
theorem Inv.list (I:Inv X pins σ H s) (h:SqL X.K H a xs):∃its:List Value,Vals xs its/\PlainL s.heap a its.toArray/\xs.length<=sizeLine:=by
 rcases h with h | ⟨o,its,n,hk,hc,hd,hs,hz,r⟩
 ·obtain⟨z,its,n,r,e⟩:=h.ok I.hok
  exact⟨its,r,⟨_,n,e,rfl,rfl,rfl⟩,z⟩
 ·refine⟨its.toList,r,⟨o,n,I.kIn a o hk,hc,hd,by simpa using hs⟩,?_⟩
  have e:=r.length
  simp only [Array.length_toList] at e
  omega
theorem Inv.tuple (I:Inv X pins σ H s) (h:SqT X.K H a xs):∃its:List Value,Vals xs its/\IsTup s.heap a its.toArray/\xs.length<=sizeLine:=by
 rcases h with h | ⟨o,its,n,hk,hc,hs,hz,r⟩
 ·obtain⟨z,its,r,p⟩:=h.ok I.hok
  exact⟨its,r,p,z⟩
 ·refine⟨its.toList,r,⟨o,I.kIn a o hk,hc,n,by simpa using hs⟩,?_⟩
  have e:=r.length
  simp only [Array.length_toList] at e
  omega
theorem Inv.list_inj (I:Inv X pins σ H s) (h:SqL X.K H a xs) (h':SqL X.K H a ys):xs=ys:=by
 obtain⟨its,r,⟨o,n,e,_,_,d⟩,_⟩:=I.list h
 obtain⟨its',r',⟨o',n',e',_,_,d'⟩,_⟩:=I.list h'
 rw [e] at e';cases e'
 rw [d] at d'
 injection d' with d1 _
 have:its=its':=by simpa using congrArg Array.toList d1
 subst this
 exact r.inj r'
theorem Inv.tuple_inj (I:Inv X pins σ H s) (h:SqT X.K H a xs) (h':SqT X.K H a ys):xs=ys:=by
 obtain⟨its,r,⟨o,e,_,n,d⟩,_⟩:=I.tuple h
 obtain⟨its',r',⟨o',e',_,n',d'⟩,_⟩:=I.tuple h'
 rw [e] at e';cases e'
 rw [d] at d'
 injection d' with d1 _
 have:its=its':=by simpa using congrArg Array.toList d1
 subst this
 exact r.inj r'
end
abbrev Cx.wish (X:Cx) (E:Value->Shared->Prop):Cx:={ X with xe:=E }
abbrev Cx.nox (X:Cx):Cx:=X.wish λ_ _=>False
theorem Cx.Ok.wish {X:Cx} (ok:X.Ok) (E:Value->Shared->Prop):(X.wish E).Ok:=
 ⟨ok.mod,ok.kind,ok.glob,ok.blt,ok.above,ok.inj,ok.has,ok.cab,ok.hd,ok.frames,ok.stk,ok.exf,ok.bs,ok.bsz,ok.noex,ok.exfs,ok.funs,ok.frf⟩
theorem Cx.Ok.unwish {X:Cx} {E:Value->Shared->Prop} (ok:(X.wish E).Ok):X.Ok:=
 ⟨ok.mod,ok.kind,ok.glob,ok.blt,ok.above,ok.inj,ok.has,ok.cab,ok.hd,ok.frames,ok.stk,ok.exf,ok.bs,ok.bsz,ok.noex,ok.exfs,ok.funs,ok.frf⟩
section
variable {X:Cx} {pins:List (Addr×Obj)} {σ:St} {H:Hp} {s:Shared} {E:Value->Shared->Prop}
theorem Inv.wish (I:Inv X pins σ H s) (E:Value->Shared->Prop):Inv (X.wish E) pins σ H s:=⟨I.ok.wish E,I.os,I.bare,I.base,I.loc,I.cell,I.free,I.freeC,I.pin,I.hok,I.len⟩
theorem Inv.unwish (I:Inv (X.wish E) pins σ H s):Inv X pins σ H s:=⟨I.ok.unwish,I.os,I.bare,I.base,I.loc,I.cell,I.free,I.freeC,I.pin,I.hok,I.len⟩
theorem SP.unwish {D:Y7} {f:Flow} {s':Shared} (h:SP (X.wish E) pins D f s'):SP X pins D f s':=by
 cases f with
 | next=>obtain⟨σ',H',I,q⟩:=h;exact⟨σ',H',I.unwish,q⟩
 | brk=>obtain⟨σ',H',I,q⟩:=h;exact⟨σ',H',I.unwish,q⟩
 | cont=>obtain⟨σ',H',I,q⟩:=h;exact⟨σ',H',I.unwish,q⟩
 | ret u=>obtain⟨v,σ',H',I,r,q⟩:=h;exact⟨v,σ',H',I.unwish,r,q⟩
theorem PT.nox {e:Expr} {t:TT} (h:PT X.nox e t):PT X e t:=λpins s σ H Q I hw=>
 wpAny_mono (h pins s σ H Q (I.wish _) hw) (λ_ _ ⟨H',I',q⟩=>⟨H',I'.unwish,q⟩) λ_ _ z=>False.elim z
theorem PSs.nox {st:List Stmt} {t:TS} (h:PSs X.nox st t):PSs X st t:=λpins s σ H D I hw=>
 wpAny_mono (h pins s σ H D (I.wish _) hw) (λ_ _ q=>q.unwish) λ_ _ z=>False.elim z
end
section
variable {X:Cx} {st:Stmt} {rest:List Stmt} {t u:TS} {e:Expr} {te:TE} {pos:Pos}
def tNext:TS:=λD σ H=>D.nx σ H
def aS3 (t u:TS):TS:=λD σ H=>t { D with nx:=u D } σ H
theorem aw8:PSs X [] tNext:=λ_ _ σ H _ I h=>wpAny_execs_nil ⟨σ,H,I,h⟩
theorem y7 (h1:PS X st t) (h2:PSs X rest u):PSs X (st::rest) (aS3 t u):=by
 intro pins s σ H D I h
 refine wpAny_execs_cons (thn (h1 pins s σ H { D with nx:=u D } I h) λf s1 q=>?_)
 cases f with
 | next=>
   obtain⟨σ',H',I',q⟩:=q
   exact h2 pins s1 σ' H' D I' q
 | ret v=>exact q
 | brk=>exact q
 | cont=>exact q
theorem q8 (h1:PS X st t):PSs X [st] t:=by
 intro pins s σ H D I h
 refine wpAny_execs_cons (thn (h1 pins s σ H D I h) λf s1 q=>?_)
 cases f with
 | next=>exact wpAny_execs_nil q
 | ret v=>exact q
 | brk=>exact q
 | cont=>exact q
theorem Inv.quiet {pins:List (Addr×Obj)} {σ:St} {H:Hp} {s:Shared} (I:Inv X pins σ H s):interactive X.env=false:=by simp [interactive,I.ok.kind]
def aN6 (te:TE):TS:=λD σ H=>te σ H λ_ H1=>D.nx σ H1
theorem aw9 (he:PE X e te) (hs:swapsWith e none pos.line X.env=pure false:=by rfl):PS X (.Expr e pos) (aN6 te):=by
 intro pins s σ H D I h
 exact wpAny_Expr_any (thn (he pins s σ H _ I h) λv s1 ⟨x,H1,I1,r1,q1⟩=>⟨σ,H1,I1,q1⟩) I.quiet hs
def aS4 (te:TE):TS:=λD σ H=>te σ H D.rt
theorem aG0 (he:PE X e te):PS X (.Return (some e) pos) (aS4 te):=by
 intro pins s σ H D I h
 exact wpAny_Return_some (thn (he pins s σ H _ I h) λv s1 ⟨x,H1,I1,r1,q1⟩=>⟨x,σ,H1,I1,r1,q1⟩)
def aS5 (c:TT) (t u:TS):TS:=λD σ H=>c σ H λb H1=>if b=true then t D σ H1 else u D σ H1
theorem aC3 {c:Expr} {a b:List Stmt} {tc:TT} (hc:PT X c tc) (ha:PSs X a t) (hb:PSs X b u):PS X (.If c a b pos) (aS5 tc t u):=by
 intro pins s σ H D I h
 refine wpAny_If (thn (hc pins s σ H _ I h) λd s1 ⟨H1,I1,q1⟩=>?_)
 cases d with
 | true=>exact ha pins s1 σ H1 D I1 q1
 | false=>exact hb pins s1 σ H1 D I1 q1
def tNever:TS:=λ_ _ _=>False
theorem am6:PS X st tNever:=λ_ _ _ _ _ _ h=>h.elim
end
abbrev TG:=V->St->Hp->(St->Hp->Prop)->Prop
abbrev TGs:=List V->St->Hp->(St->Hp->Prop)->Prop
def PG (X:Cx) (target:Expr) (t:TG):Prop:=
 ∀(pins:List (Addr×Obj)) (s:Shared) (σ:St) (H:Hp) (v:V) (u:Value) (Q:St->Hp->Prop),Inv X pins σ H s->RelV v u->t v σ H Q->
  wpAny (model X.prog X.w) X.A (assign target X.env u) (λ_ s'=>∃σ' H',Inv X pins σ' H' s'/\Q σ' H') X.xe s
def PGs (X:Cx) (ts:List Expr) (t:TGs):Prop:=
 ∀(pins:List (Addr×Obj)) (s:Shared) (σ:St) (H:Hp) (vs:List V) (us:List Value) (Q:St->Hp->Prop),Inv X pins σ H s->Vals vs us->t vs σ H Q->
  wpAny (model X.prog X.w) X.A (assignInOrder ((assignEach ts X.env).map (·.2)) us) (λ_ s'=>∃σ' H',Inv X pins σ' H' s'/\Q σ' H') X.xe s
abbrev TSet:=V->V->V->Hp->(Hp->Prop)->Prop
def aN7 (X:Cx) (t:TSet):Prop:=
 ∀(pins:List (Addr×Obj)) (s:Shared) (σ:St) (H:Hp) (o i v:V) (ov iv u:Value) (Q:Hp->Prop),Inv X pins σ H s->RelV o ov->RelV i iv->RelV v u->t o i v H Q->
  wpAny (model X.prog X.w) X.A (setItem ov iv u) (λ_ s'=>∃H',Inv X pins σ H' s'/\Q H') X.xe s
section
variable {X:Cx} {pos:Pos}
def gName (i:Nat):TG:=λv σ H Q=>Q (σ.set i (some v)) H
theorem pg_name {i:Nat} {x:Str} (hN:X.N.Nodup) (hi:X.N[i]?=some x) (hx:Loc X.env.scope x) (hf:X.fn x=true\/X.env.scope.names.lookup x=some .local:=by first | exact .inl rfl | exact .inr rfl | assumption):PG X (.Name x pos) (gName i):=by
 intro pins s σ H v u Q I r h
 exact wpAny_assign_Name (Y6 I hN hi hx r (λs' I'=>⟨_,H,I',h⟩) hf)
def gNil:TGs:=λvs σ H Q=>vs=[]/\Q σ H
def gCons (t:TG) (u:TGs):TGs:=λvs σ H Q=>∃v r,vs=v::r/\t v σ H λσ' H'=>u r σ' H' Q
theorem ax0:PGs X [] gNil:=by
 intro pins s σ H vs us Q I r h
 obtain⟨e,h⟩:=h
 subst e
 cases r
 exact assignInOrder_nil ⟨σ,H,I,h⟩
theorem am7 {e:Expr} {es:List Expr} {t:TG} {u:TGs} (h1:PG X e t) (h2:PGs X es u)
 (hs:(assignEach (e::es) X.env).map (·.2)=assign e X.env::(assignEach es X.env).map (·.2):=by rfl):PGs X (e::es) (gCons t u):=by
 intro pins s σ H vs us Q I r h
 obtain⟨v,vr,e1,h⟩:=h
 subst e1
 cases r with
 | cons r rr=>
   rw [hs]
   refine assignInOrder_cons (thn (h1 pins s σ H _ _ _ I r h) λ_ s1 ⟨σ1,H1,I1,q1⟩=>?_)
   exact h2 pins s1 σ1 H1 _ _ Q I1 rr q1
def gTup (K:PySem.W.Frag) (n:Nat) (t:TGs):TG:=λv σ H Q=>∃a xs,v=.ref a/\SqT K H a xs/\xs.length=n/\t xs σ H Q
theorem aG1 {es:List Expr} {k:Nat} {t:TGs} {n:Nat} (hc:X.calm=true) (h:PGs X es t)
 (hn:(assignEach es X.env).length=n:=by rfl) (hst:(assignEach es X.env).findIdx? (·.1)=none:=by rfl):PG X (.Tuple es k pos) (gTup X.K n t):=by
 intro pins s σ H v u Q I r hw
 obtain⟨a,xs,e1,hq,hl,hw⟩:=hw
 subst e1
 cases r
 obtain⟨its,rv,ht,hz⟩:=I.tuple hq
 refine assign_Tuple_tuple (I.ok.hd hc) ht (by simp [hn,←hl,rv.length]) hst λh' hx=>?_
 have I1:Inv X pins σ H { s with heap:=h' }:=I.kept (t':=s.toks) λb o e=>hx b o (Nat.ne_of_lt (Heap.lt_size e)) e
 exact h pins _ σ H xs _ Q I1 (by simpa using rv) hw
def aS6 (to ti:TE) (t:TSet):TG:=λv σ H Q=>to σ H λo H1=>ti σ H1 λi H2=>t o i v H2 λH3=>Q σ H3
theorem aG2 {o i:Expr} {to ti:TE} {t:TSet} (ho:PE X o to) (hi:PE X i ti) (hs:aN7 X t)
 (ha:∀v,assign (.Subscript o i pos) X.env v=(do
  let ov ←holding [v] (eval o X.env)
  let iv ←holding [v,ov] (eval i X.env)
  standAt pos
  holding [v,ov,iv] (setItem ov iv v)
  release [v,ov,iv] []):=by intro _;rfl):PG X (.Subscript o i pos) (aS6 to ti t):=by
 intro pins s σ H v u Q I r h
 rw [ha]
 refine wpAny_bind (wpAny_holding (thn (ho pins s σ H _ I h) λov s1 ⟨x,H1,I1,r1,q1⟩=>?_))
 refine wpAny_bind (wpAny_holding (thn (hi pins s1 σ H1 _ I1 q1) λiv s2 ⟨y,H2,I2,r2,q2⟩=>?_))
 refine wpAny_bind (wpAny_standAt (wpAny_bind (wpAny_holding (thn (hs pins s2 σ H2 x y v ov iv u _ I2 r1 r2 r q2) λ_ s3 ⟨H3,I3,q3⟩=>?_))))
 exact wpAny_release ⟨σ,H3,I3,q3⟩
def aG3 (te:TE) (g:TG):TS:=λD σ H=>te σ H λx H1=>g x σ H1 D.nx
theorem aG4 {tg e:Expr} {te:TE} {g:TG} (he:PE X e te) (hg:PG X tg g) (hs:swapsWithSole [tg] e pos.line X.env=pure false:=by rfl) (hw:swappedStores [tg] e X.env=pure none:=by rfl)
 (h1:(assignEach [tg] X.env).map (·.2)=[assign tg X.env]:=by rfl):PS X (.Assign [tg] e pos) (aG3 te g):=by
 intro pins s σ H D I h
 refine wpAny_Assign_stores (thn (he pins s σ H _ I h) λv s1 ⟨x,H1,I1,r1,q1⟩=>?_) hs hw
 rw [h1]
 exact thn (hg pins s1 σ H1 x v _ I1 r1 q1) λ_ s2 q=>q
theorem aG5 {i:Nat} {x:Str} {e:Expr} {te:TE} {pos':Pos} (hN:X.N.Nodup) (hi:X.N[i]?=some x) (hx:Loc X.env.scope x) (he:PE X e te) (hs:swapsWith e (some (.Name x pos')) pos.line X.env=pure false:=by rfl) (hf:X.fn x=true\/X.env.scope.names.lookup x=some .local:=by first | exact .inl rfl | exact .inr rfl | assumption) :
 PS X (.Assign [.Name x pos'] e pos) (aG3 te (gName i)):=by
 intro pins s σ H D I h
 refine wpAny_Assign_Name (thn (he pins s σ H _ I h) λv s1 ⟨y,H1,I1,r1,q1⟩=>?_) hs
 exact Y6 I1 hN hi hx r1 (λs2 I2=>⟨_,H1,I2,q1⟩) hf
end
structure It where
 go:Nat->Hp->Prop
 yld:Nat->Hp->V->Hp->Prop
 stop:Nat->Hp->Prop
def T8 (X:Cx) (pins:List (Addr×Obj)) (H:Hp) (b:Addr):Prop:=
 H b=none/\b≠X.env.locals/\b∉X.fs/\(b∈X.ex\/X.s₀.heap.objs.size<=b)/\(∀x c,X.env.cells.lookup x=some c->c≠b)/\∀p∈X.pn++pins,p.1≠b
theorem Inv.fpOk {X:Cx} {pins:List (Addr×Obj)} {σ:St} {H H':Hp} {s:Shared} {b:Addr} (I:Inv X pins σ H s) (hb:s.heap.objs.size<=b) (hn:H' b=none):T8 X pins H' b:=by
 refine⟨hn,Nat.ne_of_gt (Nat.lt_of_lt_of_le I.lt hb),I.nofs hb,.inr (Nat.le_trans I.sz hb),λx c e z=>?_,λp hp z=>?_⟩
 ·obtain⟨v,q⟩:=I.cell x c e
  exact absurd (Nat.lt_of_lt_of_le q.lt (by rw [z];exact hb)) (Nat.lt_irrefl _)
 ·exact absurd (Nat.lt_of_lt_of_le (Heap.lt_size (I.pin p hp).1) (by rw [z];exact hb)) (Nat.lt_irrefl _)
structure ac1 (P:Program) (w:World) (K:PySem.W.Frag) (tg:Expr) (J:It) (fp:List Addr) (it:Addr) (tn:Nat->Heap->Prop):Prop where
 mem:it∈fp
 obj:∀i h,tn i h->∀b∈fp,∃o,h.get? b=some o/\∀v,o.data≠.cell v
 keep:∀i h h',tn i h->(∀b∈fp,∀o,h.get? b=some o->h'.get? b=some o)->tn i h'
 item:∀(X:Cx),X.prog=P->X.w=w->X.K=K->X.calm=true->∀(i:Nat) (pins:List (Addr×Obj)) (s:Shared) (σ:St) (H:Hp) (E:Value->Shared->Prop),Inv X pins σ H s->(∀b∈fp,T8 X pins H b)->tn i s.heap->J.go i H->
  wpAny (model P w) X.A (pyNext (.ref it)) (λr s1=>∃u,r=some u/\
   wpAny (model P w) X.A (letOwnedTupleGo tg (.ref it) u) (λ_ s2=>∃x H',Inv X pins σ H' s2/\RelV x u/\J.yld i H x H'/\tn (i+1) s2.heap/\∀b∈fp,H' b=none) E s1) E s
 done:∀(X:Cx),X.prog=P->X.w=w->X.K=K->X.calm=true->∀(i:Nat) (pins:List (Addr×Obj)) (s:Shared) (σ:St) (H:Hp) (E:Value->Shared->Prop),Inv X pins σ H s->(∀b∈fp,T8 X pins H b)->tn i s.heap->J.stop i H->
  wpAny (model P w) X.A (pyNext (.ref it)) (λr s1=>r=none/\Inv X pins σ H s1) E s
 self:∀(A:Around) (i:Nat) (s:Shared) (Q:Value->Shared->Prop) (E:Value->Shared->Prop),tn i s.heap->Q (.ref it) s->wpAny (model P w) A (pyIter (.ref it)) Q E s
abbrev TI:=St->Hp->(It->Hp->Prop)->Prop
def PIE (X:Cx) (pins:List (Addr×Obj)) (σ:St) (tg:Expr) (R:It->Hp->Prop) (itv:Value) (s2:Shared):Prop:=
 ∃(it:Addr) (fp:List Addr) (tn:Nat->Heap->Prop) (J:It) (H':Hp),itv=.ref it/\Inv X pins σ H' s2/\ac1 X.prog X.w X.K tg J fp it tn/\tn 0 s2.heap/\(∀b∈fp,T8 X pins H' b)/\R J H'
def PI (X:Cx) (tg iter:Expr) (wi:TI):Prop:=
 ∀(pins:List (Addr×Obj)) (s:Shared) (σ:St) (H:Hp) (R:It->Hp->Prop),Inv X pins σ H s->wi σ H R->
  wpAny (model X.prog X.w) X.A (eval iter X.env) (λv s1=>wpAny (model X.prog X.w) X.A (pyIter v) (PIE X pins σ tg R) X.xe s1) X.xe s
theorem af3 {M:Model} {A:Around} {E:Value->Shared->Prop} {s:Shared} {tg:Expr} {it:Addr} {u:Value} {o:Obj} {n:String} {vs:Array Value} {Q:Unit->Shared->Prop} (ho:s.heap.get? it=some o) (hc:o.cls=.type n) (hd:o.data=.fields vs)
 (hn:["enumerate","zip","dict_itemiterator","dict_reverseitemiterator","odict_iterator","itertools.zip_longest","itertools.pairwise"].contains n=false) (hQ:Q () s):wpAny M A (letOwnedTupleGo tg (.ref it) u) Q E s:=by
 unfold letOwnedTupleGo
 cases tg <;> first
  | exact wpAny_pure hQ
  | (cases u <;> first
   | exact wpAny_pure hQ
   | (refine wpAny_bind (wpAny_load ho ?_)
      rw [hc,hd]
      show wpAny M A (if (["enumerate","zip","dict_itemiterator","dict_reverseitemiterator","odict_iterator","itertools.zip_longest","itertools.pairwise"].contains n&&vs[0]? == some (rawInt _))=true then _ else _) Q E s
      rw [if_neg (by intro h;rw [hn,Bool.false_and] at h;cases h)]
      exact wpAny_pure hQ))
def Itl (K:PySem.W.Frag) (a:Addr):It:=
 ⟨λi H=>∃xs x,SqL K H a xs/\xs[i]?=some x,λi H x H'=>H'=H/\∀xs,SqL K H a xs->xs[i]?=some x,λi H=>∃xs,SqL K H a xs/\xs.length<=i⟩
def Itt (K:PySem.W.Frag) (a:Addr):It:=
 ⟨λi H=>∃xs x,SqT K H a xs/\xs[i]?=some x,λi H x H'=>H'=H/\∀xs,SqT K H a xs->xs[i]?=some x,λi H=>∃xs,SqT K H a xs/\xs.length<=i⟩
def Itr (lo:Int) (n:Nat):It:=⟨λi _=>i<n,λi H x H'=>H'=H/\x=.int (lo+i),λi _=>n<=i⟩
theorem m5 {P:Program} {w:World} {K:PySem.W.Frag} {tg:Expr} (a it:Addr):ac1 P w K tg (Itl K a) [it] it (λi h=>h.IsListIter it a i) where
 mem:=by simp
 obj:=λi h st b hb=>by
  have e:b=it:=by simpa using hb
  subst e
  obtain⟨o,e,c,d⟩:=st
  exact⟨o,e,λv z=>by rw [d] at z;cases z⟩
 keep:=λi h h' st k=>st.at λo e=>k it (by simp) o e
 item:=by
  intro X hP hw hK hc i pins s σ H E I hf st hg
  subst hP hw hK
  obtain⟨xs,x,hq,hx⟩:=hg
  obtain⟨its,rv,p,hz⟩:=I.list hq
  obtain⟨u,hu,ru⟩:=rv.get hx
  obtain⟨f0,f1,f2,f3,f4,f5⟩:=hf it (by simp)
  refine wpAny_pyNext_list_item st p.isList (x:=u) (by simpa using hu) λh' st' sb=>?_
  have I1:Inv X pins σ H { s with heap:=h' }:=I.turned (t':=s.toks) (λb o hb e=>(sb.2 b hb).trans e) f0 f1 f3 f4 f5
  obtain⟨o,e,c,d⟩:=id st'
  exact⟨u,rfl,af3 (s:={ s with heap:=h' }) e c d (by decide) ⟨x,H,I1,ru,⟨rfl,λys hy=>by rw [I.list_inj hy hq];exact hx⟩,st',λb hb=>(hf b hb).1⟩⟩
 done:=by
  intro X hP hw hK hc i pins s σ H E I hf st hg
  subst hP hw hK
  obtain⟨xs,hq,hx⟩:=hg
  obtain⟨its,rv,p,hz⟩:=I.list hq
  obtain⟨f0,f1,f2,f3,f4,f5⟩:=hf it (by simp)
  have hl:=rv.length
  exact wpAny_pyNext_list_end (I.ok.hd hc) st p.isList (by simp;omega) λh' eb=>⟨rfl,I.turned (t':=s.toks) (λb o hb e=>eb b o hb e) f0 f1 f3 f4 f5⟩
 self:=λ_ _ _ _ _ st h=>wpAny_pyIter_listiter st h
theorem Y8 {P:Program} {w:World} {K:PySem.W.Frag} {tg:Expr} (a it:Addr):ac1 P w K tg (Itt K a) [it] it (λi h=>h.IsTupleIter it a i) where
 mem:=by simp
 obj:=λi h st b hb=>by
  have e:b=it:=by simpa using hb
  subst e
  obtain⟨o,e,c,d⟩:=st
  exact⟨o,e,λv z=>by rw [d] at z;cases z⟩
 keep:=λi h h' st k=>st.at λo e=>k it (by simp) o e
 item:=by
  intro X hP hw hK hc i pins s σ H E I hf st hg
  subst hP hw hK
  obtain⟨xs,x,hq,hx⟩:=hg
  obtain⟨its,rv,p,hz⟩:=I.tuple hq
  obtain⟨u,hu,ru⟩:=rv.get hx
  obtain⟨f0,f1,f2,f3,f4,f5⟩:=hf it (by simp)
  refine wpAny_pyNext_tuple_item st (show s.heap.IsTuple a its.toArray from p) (x:=u) (by simpa using hu) λh' st' sb=>?_
  have I1:Inv X pins σ H { s with heap:=h' }:=I.turned (t':=s.toks) (λb o hb e=>(sb.2 b hb).trans e) f0 f1 f3 f4 f5
  obtain⟨o,e,c,d⟩:=id st'
  exact⟨u,rfl,af3 (s:={ s with heap:=h' }) e c d (by decide) ⟨x,H,I1,ru,⟨rfl,λys hy=>by rw [I.tuple_inj hy hq];exact hx⟩,st',λb hb=>(hf b hb).1⟩⟩
 done:=by
  intro X hP hw hK hc i pins s σ H E I hf st hg
  subst hP hw hK
  obtain⟨xs,hq,hx⟩:=hg
  obtain⟨its,rv,p,hz⟩:=I.tuple hq
  obtain⟨f0,f1,f2,f3,f4,f5⟩:=hf it (by simp)
  have hl:=rv.length
  exact wpAny_pyNext_tuple_end (I.ok.hd hc) st (show s.heap.IsTuple a its.toArray from p) (by simp;omega) λh' eb=>⟨rfl,I.turned (t':=s.toks) (λb o hb e=>eb b o hb e) f0 f1 f3 f4 f5⟩
 self:=λ_ _ _ _ _ st h=>wpAny_pyIter_tupleiter st h
theorem ac2 {P:Program} {w:World} {K:PySem.W.Frag} {tg:Expr} (it:Addr) (lo:Int) (n:Nat):ac1 P w K tg (Itr lo n) [it] it (λi h=>IsRangeIter h it (lo+(i:Nat)*1) ((n:Int) - (i:Nat)) 1) where
 mem:=by simp
 obj:=λi h st b hb=>by
  have e:b=it:=by simpa using hb
  subst e
  exact⟨_,st,λv z=>by
   have z':Data.fields _=Data.cell v:=z
   cases z'⟩
 keep:=λi h h' st k=>k it (by simp) _ st
 item:=by
  intro X hP hw hK hc i pins s σ H E I hf st hg
  subst hP hw hK
  obtain⟨f0,f1,f2,f3,f4,f5⟩:=hf it (by simp)
  have W:=Walks.range (prog:=X.prog) (w:=X.w) (I.ok.hd hc) it lo 1 n
  refine W.item i s _ _ hg st λv h' tk hv st' kk=>?_
  obtain⟨t,rfl⟩:=hv
  have I1:Inv X pins σ H { s with heap:=h',toks:=tk }:=I.turned (λb o hb e=>kk b o (by simpa using hb) e) f0 f1 f3 f4 f5
  refine⟨_,rfl,af3 (s:={ s with heap:=h',toks:=tk }) (n:="range_iterator") st' rfl rfl (by decide) ⟨.int (lo+i),H,I1,⟨t,?_⟩,⟨rfl,rfl⟩,st',λb hb=>(hf b hb).1⟩⟩
  rw [Int.mul_one]
 done:=by
  intro X hP hw hK hc i pins s σ H E I hf st hg
  subst hP hw hK
  obtain⟨f0,f1,f2,f3,f4,f5⟩:=hf it (by simp)
  exact wpAny_pyNext_range_end (I.ok.hd hc) st (by have:n<=i:=hg;omega) λh' eb=>⟨rfl,I.turned (t':=s.toks) (λb o hb e=>eb b o hb e) f0 f1 f3 f4 f5⟩
 self:=λ_ _ _ _ _ st h=>wpAny_pyIter_rangeiter st h
section
variable {X:Cx} {tg:Expr}
def aN8 (K:PySem.W.Frag) (tl:TE):TI:=λσ H R=>tl σ H λx H1=>∃a,x=.ref a/\(∃xs,SqL K H1 a xs)/\R (Itl K a) H1
def aS7 (K:PySem.W.Frag) (tl:TE):TI:=λσ H R=>tl σ H λx H1=>∃a,x=.ref a/\(∃xs,SqT K H1 a xs)/\R (Itt K a) H1
theorem ax1 {l:Expr} {tl:TE} (hl:PE X l tl):PI X tg l (aN8 X.K tl):=by
 intro pins s σ H R I h
 refine thn (hl pins s σ H _ I h) λv s1 ⟨x,H1,I1,r1,q1⟩=>?_
 obtain⟨a,e,⟨xs,hq⟩,q⟩:=q1
 subst e
 cases r1
 obtain⟨its,rv,p,hz⟩:=I1.list hq
 refine wpAny_pyIter_list p.isList ?_
 refine⟨s1.heap.objs.size,[s1.heap.objs.size],_,_,H1,rfl,I1.kept (t':=s1.toks) λb o e=>Heap.get?_push_of_some _ e,m5 a _,⟨_,Heap.get?_push_size _ rfl,rfl,rfl⟩,λb hb=>?_,q⟩
 have e:b=s1.heap.objs.size:=by simpa using hb
 subst e
 exact I1.fpOk (Nat.le_refl _) (I1.hok.fresh (Nat.le_refl _))
theorem aG6 {l:Expr} {tl:TE} (hl:PE X l tl):PI X tg l (aS7 X.K tl):=by
 intro pins s σ H R I h
 refine thn (hl pins s σ H _ I h) λv s1 ⟨x,H1,I1,r1,q1⟩=>?_
 obtain⟨a,e,⟨xs,hq⟩,q⟩:=q1
 subst e
 cases r1
 obtain⟨its,rv,p,hz⟩:=I1.tuple hq
 refine wpAny_pyIter_tuple (show s1.heap.IsTuple a its.toArray from p) ?_
 refine⟨s1.heap.objs.size,[s1.heap.objs.size],_,_,H1,rfl,I1.kept (t':=s1.toks) λb o e=>Heap.get?_push_of_some _ e,Y8 a _,⟨_,Heap.get?_push_size _ rfl,rfl,rfl⟩,λb hb=>?_,q⟩
 have e:b=s1.heap.objs.size:=by simpa using hb
 subst e
 exact I1.fpOk (Nat.le_refl _) (I1.hok.fresh (Nat.le_refl _))
theorem am8 {pins:List (Addr×Obj)} {σ:St} {H:Hp} {s:Shared} {R:It->Hp->Prop} {E:Value->Shared->Prop} {lo hi:Int} {t u v:Tok} {tk:Nat} (I:Inv X pins σ H s) (h1 : -(2 ^ 62)<=lo) (h2:lo<2 ^ 62) (h3 : -(2 ^ 62)<=hi) (h4:hi<2 ^ 62)
 (q:R (Itr lo (hi - lo).toNat) H):wpAny (model X.prog X.w) X.A (pyIter (.ref s.heap.objs.size)) (PIE X pins σ tg R) E { s with heap:=s.heap.push { cls:=.type "range",data:=.fields #[.int lo t,.int hi u,.int 1 v] },toks:=tk }:=by
 refine wpAny_pyIter_range (IsRange.new ..) (small_one h1 h2 h3 h4) ?_
 have I1:Inv X pins σ H { s with heap:=s.heap.push { cls:=.type "range",data:=.fields #[.int lo t,.int hi u,.int 1 v] },toks:=tk }:=I.kept λb o e=>Heap.get?_push_of_some _ e
 refine⟨(s.heap.push { cls:=.type "range",data:=.fields #[.int lo t,.int hi u,.int 1 v] }).objs.size,[(s.heap.push { cls:=.type "range",data:=.fields #[.int lo t,.int hi u,.int 1 v] }).objs.size],_,_,H,rfl,
  I1.kept (t':=tk) λb o e=>Heap.get?_push_of_some _ e,ac2 _ lo (hi - lo).toNat,?_,λb hb=>?_,q⟩
 ·have e1:lo+((0:Nat):Int)*1=lo:=by simp
  have e2:(((hi - lo).toNat:Nat):Int) - ((0:Nat):Int)=Builtin.Range.rangeSize lo hi 1:=by rw [rangeSize_one];split <;> omega
  show IsRangeIter _ _ (lo+((0:Nat):Int)*1) ((((hi - lo).toNat:Nat):Int) - ((0:Nat):Int)) 1
  rw [e1,e2]
  exact Heap.get?_push_size _ rfl
 ·have e:b=(s.heap.push { cls:=.type "range",data:=.fields #[.int lo t,.int hi u,.int 1 v] }).objs.size:=by simpa using hb
  subst e
  exact I1.fpOk (Nat.le_refl _) (I1.hok.fresh (Nat.le_refl _))
def iRng1 (ta:TA):TI:=λσ H R=>ta σ H λvs H1=>∃j:Int,vs=[.int j]/\-(2 ^ 62)<=j/\j<2 ^ 62/\R (Itr 0 j.toNat) H1
theorem aj0 {a:Expr} {ta:TA} {p pos:Pos} (hg:Gl X "range") (hm:X.mg "range" = none) (ha:PA X [a] ta) (hs:starEach [a] X.env=[(false,eval a X.env)]:=by rfl):PI X tg (.Call (.Name "range" p) [a] [] pos) (iRng1 ta):=by
 intro pins s σ H R I h
 refine Call_ (p8 I hg hm boot_range (PyProof.Rows.callWith_type1 (thn (ha pos pins s σ H _ I h) λus s1 ⟨vs,H1,I1,r1,q1⟩=>?_) hs rfl))
 obtain⟨j,e,q1,q2,q⟩:=q1
 subst e
 cases r1 with
 | cons r rr=>
   cases rr
   obtain⟨t,rfl⟩:=r
   exact call_range_1 (am8 I1 (by omega) (by omega) q1 q2 (by simpa using q))
def aS8 (wi:TI) (g:TG) (tb:TS):TS:=λD σ H=>wi σ H λJ H1=>∃W:Nat->Nat->St->Hp->Prop,(∃m,W 0 m σ H1)/\∀i m σ H,W i m σ H->
 (J.stop i H/\D.nx σ H)\/(J.go i H/\∃N:St->Hp->Prop,(∀σ' H',N σ' H'->∃m',m'<m/\W (i+1) m' σ' H')/\∀x H',J.yld i H x H'->g x σ H' λσ2 H2=>tb { D with nx:=N,ct:=N,bk:=D.nx } σ2 H2)
def Y9 (fp:List Addr) (h:Heap):List (Addr×Obj):=fp.filterMap λb=>(h.get? b).map λo=>(b,o)
theorem P1 {fp:List Addr} {h:Heap} {b:Addr} {o:Obj} (hb:b∈fp) (e:h.get? b=some o):(b,o)∈Y9 fp h:=List.mem_filterMap.mpr ⟨b,hb,by rw [e];rfl⟩
theorem aj1 {fp:List Addr} {h:Heap} {p:Addr×Obj} (hp:p∈Y9 fp h):p.1∈fp/\h.get? p.1=some p.2:=by
 obtain⟨b,hb,e⟩:=List.mem_filterMap.mp hp
 cases q:h.get? b with
 | none=>rw [q] at e;cases e
 | some o=>
   rw [q] at e
   have e':(b,o)=p:=Option.some.inj e
   subst e'
   exact⟨hb,q⟩
theorem Inv.pinned {pins:List (Addr×Obj)} {σ:St} {H:Hp} {s:Shared} {fp:List Addr} (I:Inv X pins σ H s) (hf:∀b∈fp,T8 X pins H b) (ho:∀b∈fp,∃o,s.heap.get? b=some o/\∀v,o.data≠.cell v):Inv X (pins++Y9 fp s.heap) σ H s:=
 I.pins_of λp hp=>(List.mem_append.mp hp).elim (λz=>I.pin p (List.mem_append_right _ z)) λz=>by
  obtain⟨hb,e⟩:=aj1 z
  obtain⟨f0,f1,f2,_⟩:=hf p.1 hb
  obtain⟨o,e',d⟩:=ho p.1 hb
  rw [e] at e';cases e'
  exact⟨e,f0,f1,f2,d⟩
theorem Inv.unpinned {pins pl:List (Addr×Obj)} {σ:St} {H:Hp} {s:Shared} (I:Inv X (pins++pl) σ H s):Inv X pins σ H s:=I.pins_of λp hp=>I.pin p (List.mem_append_right _ (List.mem_append_left _ hp))
theorem am9 {iter:Expr} {body:List Stmt} {wi:TI} {g:TG} {tb:TS} {pos:Pos} (hp:PassesOwn (model X.prog X.w) X.A X.env X.xe) (hc:X.calm=true) (hi:PI X tg iter wi) (hg:PG X tg g) (hb:PSs X body tb)
 (hs:∀x,foldedSetIterable iter X.env x=pure x:=by intro _;rfl):PS X (.For tg iter body [] pos) (aS8 wi g tb):=by
 intro pins s σ H D I h
 refine wpAny_For (thn (hi pins s σ H _ I h) λv s1 h1=>thn h1 λitv s2 h2=>?_) hs
 obtain⟨it,fp,tn,J,H2,e,I2,T,st2,f2,W,⟨m0,w0⟩,turn⟩:=h2
 subst e
 have stat:∀{H':Hp},(∀b∈fp,H' b=none)->∀b∈fp,T8 X pins H' b:=λhn b hb=>⟨hn b hb,(f2 b hb).2⟩
 refine codeAny_forLoop_any (λn s'=>∃i σ' H',Inv X pins σ' H' s'/\tn i s'.heap/\(∀b∈fp,H' b=none)/\W i n σ' H') ?_ m0 ⟨0,σ,H2,I2,st2,λb hb=>(f2 b hb).1,w0⟩
 rintro n s3 ⟨i,σ3,H3,I3,st3,fr3,w3⟩
 rcases turn i n σ3 H3 w3 with ⟨stop,qn⟩ | ⟨go,N,hN,step⟩
 ·refine wpAny_passesOwn hp (thn (T.done X rfl rfl rfl hc i pins s3 σ3 H3 X.xe I3 (stat fr3) st3 stop) λr s4 ⟨hr,I4⟩=>?_)
  subst hr
  exact wpAny_execs_nil ⟨σ3,H3,I4,qn⟩
 ·refine wpAny_passesOwn hp (thn (T.item X rfl rfl rfl hc i pins s3 σ3 H3 X.xe I3 (stat fr3) st3 go) λr s4 ⟨u,hr,h4⟩=>?_)
  subst hr
  refine wpAny_passesOwn hp (thn h4 λ_ s5 ⟨x,H5,I5,r5,y5,st5,fr5⟩=>?_)
  have I5':=I5.pinned (stat fr5) (T.obj _ _ st5)
  refine wpAny_passesOwn hp (thn (hg _ s5 σ3 H5 x u _ I5' r5 (step x H5 y5)) λ_ s6 ⟨σ6,H6,I6,q6⟩=>?_)
  refine wpAny_passesOwn hp (thn (hb _ s6 σ6 H6 _ I6 q6) λf s7 q7=>?_)
  have again:∀{σ7:St} {H7:Hp},Inv X (pins++Y9 fp s5.heap) σ7 H7 s7->N σ7 H7->∃m,m<n/\∃i σ' H',Inv X pins σ' H' s7/\tn i s7.heap/\(∀b∈fp,H' b=none)/\W i m σ' H':=λ{σ7 H7} I7 n7=>by
   obtain⟨m',hm,w7⟩:=hN σ7 H7 n7
   refine⟨m',hm,i+1,σ7,H7,I7.unpinned,T.keep _ _ _ st5 λb hb o e=>(I7.pin (b,o) (List.mem_append_right _ (List.mem_append_right _ (P1 hb e)))).1,λb hb=>?_,w7⟩
   obtain⟨o,e,d⟩:=T.obj _ _ st5 b hb
   exact (I7.pin (b,o) (List.mem_append_right _ (List.mem_append_right _ (P1 hb e)))).2.1
  cases f with
  | next=>obtain⟨σ7,H7,I7,n7⟩:=q7;exact again I7 n7
  | cont=>obtain⟨σ7,H7,I7,n7⟩:=q7;exact again I7 n7
  | brk=>obtain⟨σ7,H7,I7,q7⟩:=q7;exact⟨σ7,H7,I7.unpinned,q7⟩
  | ret v=>obtain⟨x7,σ7,H7,I7,r7,q7⟩:=q7;exact⟨x7,σ7,H7,I7.unpinned,r7,q7⟩
end
abbrev R2:=V->V->Hp->VK->Prop
def OpR (X:Cx) (f:Value->Value->Sem Value) (r:R2):Prop:=
 ∀(pins:List (Addr×Obj)) (s:Shared) (σ:St) (H:Hp) (x y:V) (v u:Value) (Q:VK),Inv X pins σ H s->RelV x v->RelV y u->r x y H Q->
  wpAny (model X.prog X.w) X.A (f v u) (EP X pins σ Q) X.xe s
def UnR (X:Cx) (f:Value->Sem Value) (r:V->Hp->VK->Prop):Prop:=
 ∀(pins:List (Addr×Obj)) (s:Shared) (σ:St) (H:Hp) (x:V) (v:Value) (Q:VK),Inv X pins σ H s->RelV x v->r x H Q->
  wpAny (model X.prog X.w) X.A (f v) (EP X pins σ Q) X.xe s
def S4 (X:Cx) (f:Value) (r:List V->Hp->VK->Prop):Prop:=
 ∀(pins:List (Addr×Obj)) (s:Shared) (σ:St) (H:Hp) (xs:List V) (us:List Value) (Q:VK),Inv X pins σ H s->Vals xs us->r xs H Q->
  wpAny (model X.prog X.w) X.A (call f us) (EP X pins σ Q) X.xe s
def tOp (r:R2) (ta tb:TE):TE:=λσ H Q=>ta σ H λx H1=>tb σ H1 λy H2=>r x y H2 Q
def tUn (r:V->Hp->VK->Prop) (ta:TE):TE:=λσ H Q=>ta σ H λx H1=>r x H1 Q
def rI (C:Int->Int->Prop) (g:Int->Int->V):R2:=λx y H Q=>∃i j,x=.int i/\y=.int j/\C i j/\Q (g i j) H
def rI0 (g:Int->Int->V):R2:=λx y H Q=>∃i j,x=.int i/\y=.int j/\Q (g i j) H
def rU (g:Int->V):V->Hp->VK->Prop:=λx H Q=>∃i,x=.int i/\Q (g i) H
section
variable {X:Cx} {a b c:Expr} {ta tb tc:TE} {pos:Pos}
theorem aG7 (ha:PE X a ta) (hb:PE X b tb) {pins:List (Addr×Obj)} {s:Shared} {σ:St} {H:Hp} {R:V->V->Hp->Prop} (I:Inv X pins σ H s)
 (h:ta σ H λx H1=>tb σ H1 λy H2=>R x y H2) {Q:Value->Shared->Prop} {f:Value->Value->Sem Value}
 (hf:∀v u s2 x y H2,Inv X pins σ H2 s2->RelV x v->RelV y u->R x y H2->wpAny (model X.prog X.w) X.A (f v u) Q X.xe s2) :
 wpAny (model X.prog X.w) X.A (eval a X.env) (λv s₁=>wpAny (model X.prog X.w) X.A (eval b X.env) (λu s₂=>wpAny (model X.prog X.w) X.A (f v u) Q X.xe s₂) X.xe s₁) X.xe s:=by
 refine thn (ha pins s σ H _ I h) λv s1 ⟨x,H1,I1,r1,q1⟩=>?_
 refine thn (hb pins s1 σ H1 _ I1 q1) λu s2 ⟨y,H2,I2,r2,q2⟩=>?_
 exact hf v u s2 x y H2 I2 r1 r2 q2
theorem aN9 {op:Operator} {r:R2} (ho:OpR X (binaryOp op) r) (ha:PE X a ta) (hb:PE X b tb):PE X (.BinOp a op b pos) (tOp r ta tb):=by
 intro pins s σ H Q I h
 exact wpAny_BinOp (aG7 ha hb I h λv u s2 x y H2 I2 rx ry q=>ho pins s2 σ H2 x y v u Q I2 rx ry q)
theorem aO0 {op:UnaryOp} {r:V->Hp->VK->Prop} (ho:UnR X (unaryOp op) r) (ha:PE X a ta):PE X (.UnaryOp op a pos) (tUn r ta):=by
 intro pins s σ H Q I h
 exact UnaryOp_ (thn (ha pins s σ H _ I h) λv s1 ⟨x,H1,I1,r1,q1⟩=>ho pins s1 σ H1 x v Q I1 r1 q1)
theorem opI {f:Value->Value->Sem Value} {C:Int->Int->Prop} {g:Int->Int->Int}
 (rule:∀(i j:Int) (t u:Tok) (s:Shared) (Q:Value->Shared->Prop) (E:Value->Shared->Prop),C i j->Q (.int (g i j) s.toks) { s with toks:=s.toks+1 }->wpAny (model X.prog X.w) X.A (f (.int i t) (.int j u)) Q E s) :
 OpR X f (rI C λi j=>.int (g i j)):=by
 intro pins s σ H x y v u Q I rx ry h
 obtain⟨i,j,rfl,rfl,hc,q⟩:=h
 obtain⟨t,rfl⟩:=rx
 obtain⟨t',rfl⟩:=ry
 exact rule i j t t' s _ _ hc ⟨.int (g i j),H,I.tok _,⟨_,rfl⟩,q⟩
theorem aO1 {f:Value->Value->Sem Value} {g:Int->Int->Int}
 (rule:∀(i j:Int) (t u:Tok) (s:Shared) (Q:Value->Shared->Prop) (E:Value->Shared->Prop),Q (.int (g i j) s.toks) { s with toks:=s.toks+1 }->wpAny (model X.prog X.w) X.A (f (.int i t) (.int j u)) Q E s) :
 OpR X f (rI0 λi j=>.int (g i j)):=by
 intro pins s σ H x y v u Q I rx ry h
 obtain⟨i,j,rfl,rfl,q⟩:=h
 obtain⟨t,rfl⟩:=rx
 obtain⟨t',rfl⟩:=ry
 exact rule i j t t' s _ _ ⟨.int (g i j),H,I.tok _,⟨_,rfl⟩,q⟩
theorem aG8 {f:Value->Value->Sem Value} {g:Int->Int->Bool}
 (rule:∀(i j:Int) (t u:Tok) (s:Shared) (Q:Value->Shared->Prop) (E:Value->Shared->Prop),Q (.bool (g i j)) s->wpAny (model X.prog X.w) X.A (f (.int i t) (.int j u)) Q E s) :
 OpR X f (rI0 λi j=>.bl (g i j)):=by
 intro pins s σ H x y v u Q I rx ry h
 obtain⟨i,j,rfl,rfl,q⟩:=h
 obtain⟨t,rfl⟩:=rx
 obtain⟨t',rfl⟩:=ry
 exact rule i j t t' s _ _ ⟨.bl (g i j),H,I,rfl,q⟩
def aO2 (i j:Int):Prop:=0<j/\j<1073741824
def CMul (i j:Int):Prop:=(-(2 ^ 64)<i/\i<2 ^ 64)\/(-(2 ^ 64)<j/\j<2 ^ 64)
theorem CMul.ok {i j:Int} (h:CMul i j):IntMulOk i j:=by
 rcases h with ⟨h1,h2⟩ | ⟨h1,h2⟩
 ·exact .of_left (intBits_le_64 h1 h2)
 ·exact .of_right (intBits_le_64 h1 h2)
theorem op_add:OpR X (binaryOp .Add) (rI0 λi j=>.int (i+j)):=aO1 λ_ _ _ _ _ _ _ q=>add_int q
theorem aG9:OpR X (binaryOp .Sub) (rI0 λi j=>.int (i - j)):=aO1 λ_ _ _ _ _ _ _ q=>sub_int q
theorem ao0:OpR X (binaryOp .Mult) (rI CMul λi j=>.int (i*j)):=opI λ_ _ _ _ _ _ _ hc q=>mul_int q hc.ok
theorem op_fdiv:OpR X (binaryOp .FloorDiv) (rI aO2 λi j=>.int (i / j)):=opI λi j _ _ _ _ _ hc q=>by
 have h1:(0:Int)<j:=hc.1
 have h2:j<1073741824:=hc.2
 exact floordiv_int (by omega) (by rw [Int.fdiv_eq_ediv_of_nonneg i (by omega)];exact q) (.inl (PyProof.noPylong_small (by omega)))
theorem op_mod:OpR X (binaryOp .Mod) (rI (λ_ j=>0<j) λi j=>.int (i%j)):=opI λi j _ _ _ _ _ hc q=>by
 have h1:(0:Int)<j:=hc
 exact mod_int' (by omega) (by rw [Int.fmod_eq_emod_of_nonneg i (by omega)];exact q)
theorem unI {f:Value->Sem Value} {g:Int->Int}
 (rule:∀(i:Int) (t:Tok) (s:Shared) (Q:Value->Shared->Prop) (E:Value->Shared->Prop),Q (.int (g i) s.toks) { s with toks:=s.toks+1 }->wpAny (model X.prog X.w) X.A (f (.int i t)) Q E s) :
 UnR X f (rU λi=>.int (g i)):=by
 intro pins s σ H x v Q I rx h
 obtain⟨i,rfl,q⟩:=h
 obtain⟨t,rfl⟩:=rx
 exact rule i t s _ _ ⟨.int (g i),H,I.tok _,⟨_,rfl⟩,q⟩
theorem aH0:UnR X (unaryOp .USub) (rU λi=>.int (-i)):=unI λ_ _ _ _ _ q=>neg_int q
theorem aH1 {pins:List (Addr×Obj)} {σ:St} {H:Hp} {s:Shared} {Q:VK} {k k':Bool} (I:Inv X pins σ H s) (q:Q (.bl k) H) (e:k=k'):EP X pins σ Q (.bool k') s:=by
 subst e
 exact⟨.bl k,H,I,rfl,q⟩
theorem af4:OpR X (compareOp .Lt) (rI0 λi j=>.bl (decide (i<j))):=aG8 λ_ _ _ _ _ _ _ q=>lt_int q
theorem aC4:OpR X (compareOp .LtE) (rI0 λi j=>.bl (decide (i<=j))):=aG8 λ_ _ _ _ _ _ _ q=>le_int q
theorem aO3:OpR X (compareOp .Gt) (rI0 λi j=>.bl (decide (j<i))):=aG8 λ_ _ _ _ _ _ _ q=>gt_int q
theorem aj2:OpR X (compareOp .In) (λx y H Q=>∃i j,x=.str i/\y=.str j/\Q (.bl (!(Builtin.Str.occurrences j i 0 j.length 1).isEmpty)) H):=by
 intro pins s σ H x y v u Q I rx ry h
 obtain⟨i,j,rfl,rfl,q⟩:=h
 obtain⟨t,rfl⟩:=rx
 obtain⟨t',rfl⟩:=ry
 exact in_str (aH1 I q rfl)
theorem OpR.or {f:Value->Value->Sem Value} {r r':R2} (h:OpR X f r) (h':OpR X f r'):OpR X f (λx y H Q=>r x y H Q\/r' x y H Q):=by
 intro pins s σ H x y v u Q I rx ry q
 rcases q with q | q
 ·exact h pins s σ H x y v u Q I rx ry q
 ·exact h' pins s σ H x y v u Q I rx ry q
theorem D1 (b:Expr) {op:CmpOp} (h:op≠.In:=by decide) (h2:op≠.NotIn:=by decide):behindInMarks op b=false:=by
 have e1:(op == CmpOp.In)=false:=by cases op <;> first | rfl | exact absurd rfl h
 have e2:(op == CmpOp.NotIn)=false:=by cases op <;> first | rfl | exact absurd rfl h2
 cases b <;> simp [behindInMarks,e1,e2]
theorem ax2 {op:CmpOp} {r:R2} (ho:OpR X (compareOp op) r) (ha:PE X a ta) (hb:PE X b tb) (hm:behindInMarks op b=false):PE X (.Compare a [op] [b] pos) (tOp r ta tb):=by
 intro pins s σ H Q I h
 exact wpAny_Compare1 (aG7 ha hb I h λv u s2 x y H2 I2 rx ry q=>ho pins s2 σ H2 x y v u Q I2 rx ry q) hm
def y8 (t:TE):TT:=λσ H Q=>t σ H λx H'=>∃k,x=.bl k/\Q k H'
theorem ax3 {op:CmpOp} {r:R2} (ho:OpR X (compareOp op) r) (ha:PE X a ta) (hb:PE X b tb) (hm:behindInMarks op b=false):PT X (.Compare a [op] [b] pos) (y8 (tOp r ta tb)):=by
 intro pins s σ H Q I h
 refine wpAny_isTrue_Compare1 (thn (ha pins s σ H _ I h) λv s1 ⟨x,H1,I1,r1,q1⟩=>thn (hb pins s1 σ H1 _ I1 q1) λu s2 ⟨y,H2,I2,r2,q2⟩=>
  thn (ho pins s2 σ H2 x y v u _ I2 r1 r2 q2) λc s3 ⟨z,H3,I3,r3,k,e,q3⟩=>?_) hm
 subst e
 cases r3
 exact wpAny_truthy_bool ⟨H3,I3,q3⟩
def ao1 (r r':R2) (ta tb tc:TE):TE:=λσ H Q=>ta σ H λx H1=>tb σ H1 λy H2=>r x y H2 λz H3=>∃k,z=.bl k/\
 (if k=true then tc σ H3 λw' H4=>r' y w' H4 Q else Q (.bl false) H3)
theorem ao2 {op op':CmpOp} {r r':R2} (ho:OpR X (compareOp op) r) (ho':OpR X (compareOp op') r') (ha:PE X a ta) (hb:PE X b tb) (hc:PE X c tc)
 (hm:lastMarks [op,op'] [b,c]=false:=by with_unfolding_all rfl):PT X (.Compare a [op,op'] [b,c] pos) (y8 (ao1 r r' ta tb tc)):=by
 intro pins s σ H Q I h
 refine isTrue_chain (thn (ha pins s σ H _ I h) λv s1 ⟨x,H1,I1,r1,q1⟩=>test_link (thn (hb pins s1 σ H1 _ I1 q1) λu s2 ⟨y,H2,I2,r2,q2⟩=>
  thn (ho pins s2 σ H2 x y v u _ I2 r1 r2 q2) λd s3 ⟨z,H3,I3,r3,k,e,q3⟩=>?_)) hm
 subst e
 cases r3
 refine wpAny_truthy_bool ?_
 cases k with
 | false=>
   obtain⟨k',e',q'⟩:=q3
   cases e'
   exact ite_ff ⟨H3,I3,q'⟩
 | true=>
   refine ite_tt (test_last (thn (hc pins s3 σ H3 _ I3 q3) λw' s4 ⟨z',H4,I4,r4,q4⟩=>thn (ho' pins s4 σ H4 y z' u w' _ I4 r2 r4 q4) λd' s5 ⟨z2,H5,I5,r5,k2,e2,q5⟩=>?_))
   subst e2
   cases r5
   exact wpAny_truthy_bool ⟨H5,I5,q5⟩
theorem V5:(sizeLine:Nat)<2 ^ 63:=by rw [sizeLine_eq];decide
theorem op_add_str:OpR X (binaryOp .Add) (λx y H Q=>∃i j,x=.str i/\y=.str j/\i.length+j.length<=sizeLine/\Q (.str (i++j)) H):=by
 intro pins s σ H x y v u Q I rx ry h
 obtain⟨i,j,rfl,rfl,hz,q⟩:=h
 obtain⟨t,rfl⟩:=rx
 obtain⟨t',rfl⟩:=ry
 exact add_str (λt' tk=>⟨.str (i++j),H,I.tok _,⟨_,rfl⟩,q⟩) hz
theorem Q5 {x:V} {us:List Value} (r:Vals [x] us):∃u,us=[u]/\RelV x u:=by
 cases r with
 | cons r1 r2=>cases r2;exact⟨_,rfl,r1⟩
theorem aO4 {x y:V} {us:List Value} (r:Vals [x,y] us):∃u w',us=[u,w']/\RelV x u/\RelV y w':=by
 cases r with
 | cons r1 r2=>
   cases r2 with
   | cons r3 r4=>cases r4;exact⟨_,_,rfl,r1,r3⟩
theorem q9:S4 X (.type "str") (λxs H Q=>∃i,xs=[.int i]/\i.natAbs.log2<1920/\Q (.str (toString i)) H):=by
 intro pins s σ H xs us Q I r h
 obtain⟨i,rfl,hz,q⟩:=h
 obtain⟨u,rfl,t,rfl⟩:=Q5 r
 exact PySem.P.str_of_int hz ⟨.str _,H,I.tok _,⟨_,rfl⟩,q⟩
end
theorem aj3 {h:Heap} {dx:Addr} {mA:Str->Option Value} (n:h.Ns1 dx mA):∃od,h.get? dx=some od/\∀name,PySem.W.lookIn name od=some (mA name):=by
 obtain⟨o,es,ep,ho,hd,hk,_,hm⟩:=n
 refine⟨o,ho,λname=>?_⟩
 have e:=hm name
 unfold nsFind findBy at e
 rw [←Array.find?_toList] at e
 unfold PySem.W.lookIn
 rw [hd]
 dsimp only
 split
 ·rename_i y q
  rw [q] at e
  exact congrArg some e
 ·rename_i q
  rw [q] at e
  have a:es.toList.any (·.refKey)=false:=by
   rw [List.any_eq_false]
   intro y hy
   obtain⟨z,t,hkey⟩:=hk y (Array.mem_toList_iff.mp hy)
   simp [DictEntry.refKey,hkey]
  have a':¬es.toList.any (·.refKey)=true:=by rw [a];exact Bool.false_ne_true
  rw [if_neg a']
  exact congrArg some e
theorem RelO.some_of {v:V} {o:Option Value} (r:RelO (some v) o):∃u,o=some u/\RelV v u:=by
 cases o with
 | none=>exact (show False from r).elim
 | some u=>exact⟨u,rfl,r⟩
theorem handed_of {v:V} {u:Value} (r:RelV v u):PySem.W.handedIn u=true:=by
 cases v with
 | non=>cases (show u=Value.none from r);rfl
 | bl b=>cases (show u=Value.bool b from r);rfl
 | int i=>obtain⟨t,e⟩:=(show ∃t,u=Value.int i t from r);cases e;rfl
 | str x=>obtain⟨t,e⟩:=(show ∃t,u=Value.str x t from r);cases e;rfl
 | byt b=>obtain⟨t,e⟩:=(show ∃t,u=Value.bytes b t from r);cases e;rfl
 | flt b=>obtain⟨t,e⟩:=(show ∃t,u=Value.float b t from r);cases e;rfl
 | ref a=>cases (show u=Value.ref a from r);rfl
 | ty n=>cases (show u=Value.type n from r);rfl
section
variable {X:Cx} {pins:List (Addr×Obj)} {σ:St} {H:Hp} {s:Shared} {a C dx:Addr} {fs:List (Str×V)} {f:Str} {v:V} {A:Around} {E:Value->Shared->Prop}
theorem ax4 {prog:Program} {w:World} {env:Env} {e:Expr} {f:Str} {pos:Pos} {s:Shared} {Q:Value->Shared->Prop} (hb:attributeBase e f env (eval e env)=eval e env)
 (h:wpAny (model prog w) A (eval e env) (λo s₁=>wpAny (model prog w) A (getAttr o f true) Q E s₁) E s):wpAny (model prog w) A (eval (.Attribute e f pos) env) Q E s:=
 Attribute_any_ h (by rw [arm_eval_Attribute,hb])
end
structure Room (k:Nat) (A:Around):Prop where
 hd:A.handled=none
 dp:A.depth+3*k+5<recursionLimit
 un:A.units+16*k+200<cLine
theorem Room.mono {j k:Nat} {A:Around} (r:Room k A) (h:j<=k):Room j A:=⟨r.hd,by have:=r.dp;omega,by have:=r.un;omega⟩
theorem Room.deeper {k:Nat} {A:Around} (r:Room (k+1) A) (env:Env):Room k (A.deeper env):=
 ⟨r.hd,by have:=r.dp;show A.depth+1+3*k+5<_;omega,by have:=r.un;show A.units+3+16*k+200<_;omega⟩
theorem ac3 {A:Around} {C:Addr} {us:List Value} {kw:List (Str×Value)}:(A.under (.builtin "type.__call__" ⟨.ref C::us,kw⟩)).depth=A.depth+1:=by
 first | rfl | simp [Around.under,Code.weight,Code.isCreation,Code.isGuard,Code.isCaller,Code.frames,Code.isFrame,guardIds]
theorem ac4 {A:Around} {C:Addr} {us:List Value} {kw:List (Str×Value)}:(A.under (.builtin "type.__call__" ⟨.ref C::us,kw⟩)).units=A.units+1:=by
 first | rfl | simp [Around.under,Code.cUnits,Code.frames,Code.isFrame]
theorem Room.make {k:Nat} {A:Around} (r:Room (k+1) A) (C:Addr) (us:List Value) (kw:List (Str×Value)):Room k (A.under (.builtin "type.__call__" ⟨.ref C::us,kw⟩)):=
 ⟨r.hd,by have:=r.dp;rw [ac3];omega,by have:=r.un;rw [ac4];omega⟩
theorem Room.depth {k:Nat} {A:Around} (r:Room k A):A.depth<recursionLimit:=by have:=r.dp;omega
theorem Room.units {k:Nat} {A:Around} (r:Room k A):A.units+64<cLine:=by have:=r.un;omega
def tNil:TA:=λ_ H Q=>Q [] H
def aC5 (ta:TE) (tr:TA):TA:=λσ H Q=>ta σ H λx H1=>tr σ H1 λxs H2=>Q (x::xs) H2
section
variable {X:Cx} {e:Expr} {es:List Expr} {te:TE} {t:TA} {pos:Pos}
theorem ao3:PA X [] tNil:=λ_ _ _ _ H Q I h=>Calls.spliced_nil ⟨[],H,I,.nil,h⟩
theorem r6 (ha:PE X e te) (hr:PA X es t) (hs:starEach (e::es) X.env=(false,eval e X.env)::starEach es X.env:=by rfl):PA X (e::es) (aC5 te t):=by
 intro pos pins s σ H Q I h
 rw [hs]
 show wpAny _ _ (spliced ((false,eval e X.env)::backTo pos (starEach es X.env))) _ _ s
 refine Calls.spliced_cons (thn (ha pins s σ H _ I h) λu s1 ⟨x,H1,I1,r1,q1⟩=>?_)
 exact thn (hr pos pins s1 σ H1 _ I1 q1) λus s2 ⟨xs,H2,I2,r2,q2⟩=>⟨x::xs,H2,I2,.cons r1 r2,q2⟩
def aS9 (t:TA):TE:=λσ H Q=>t σ H λxs H1=>xs.length<=sizeLine/\∀p,H1 p=none->Q (.ref p) (upd H1 p (.tup xs))
def aT0 (t:TA):TE:=λσ H Q=>t σ H λxs H1=>xs.length<=sizeLine/\∀p,H1 p=none->Q (.ref p) (upd H1 p (.lst xs))
theorem aH2 {x1} (h:PA X es t):PE X (.Tuple es x1 pos) (aS9 t):=by
 intro pins s σ H Q I hq
 refine wpAny_Tuple_spliced (thn (h pos pins s σ H _ I hq) λus s1 ⟨xs,H1,I1,r,z,q⟩=>⟨by rw [←r.length];exact z,?_⟩)
 have hf:H1 s1.heap.objs.size=none:=I1.hok.fresh (Nat.le_refl _)
 refine⟨.ref s1.heap.objs.size,upd H1 s1.heap.objs.size (.tup xs),I1.laid (t':=s1.toks) (λb u e=>Heap.get?_push_of_some _ e) (Nat.le_refl _) ?_,rfl,q _ hf⟩
 exact⟨z,us,r,⟨_,Heap.get?_push_size _ rfl,rfl,_,rfl⟩⟩
theorem aH3 (h:PA X es t):PE X (.List es pos) (aT0 t):=by
 intro pins s σ H Q I hq
 refine wpAny_List_spliced (thn (h pos pins s σ H _ I hq) λus s1 ⟨xs,H1,I1,r,z,q⟩=>⟨by rw [←r.length];exact z,?_⟩)
 have hf:H1 s1.heap.objs.size=none:=I1.hok.fresh (Nat.le_refl _)
 refine⟨.ref s1.heap.objs.size,upd H1 s1.heap.objs.size (.lst xs),I1.laid (t':=s1.toks) (λb u e=>Heap.get?_push_of_some _ e) (Nat.le_refl _) ?_,rfl,q _ hf⟩
 exact⟨z,us,0,r,Heap.get?_push_size _ rfl⟩
end
abbrev Sp:=List V->Hp->VK->XK->Prop
abbrev CXT:=List Env->Hp->Shared->XK->Value->Shared->Prop
structure Env0 (P:Program) (w:World) (K:PySem.W.Frag) (mg:Str->Option Value) (base:Heap) (A:Around) (outer:List Env) (s:Shared) (H:Hp):Prop where
 frames:A.frames=some outer
 mod:Mod K mg base
 bs:∀b o,base.get? b=some o->s.heap.get? b=some o/\H b=none
 bsz:base.objs.size<=s.heap.objs.size
 funs:s.heap.FunFrames base outer
 frf:∀b∈frs outer,H b=none
 hok:HOk P w H s.heap
 bare:AllBare s.gens
def CE (outer:List Env) (P:Program) (w:World) (H:Hp) (s:Shared) (Q:VK) (u:Value) (s':Shared):Prop:=
 ∃v H',s'.os=s.os/\AllBare s'.gens/\Un (frs outer) [] H H' s.heap s'.heap/\HOk P w H' s'.heap/\RelV v u/\Q v H'
def CR (CX:CXT) (outer:List Env) (P:Program) (w:World) (H:Hp) (s:Shared) (Q:VK) (E:XK) (r:Result) (s':Shared):Prop:=
 match r with
 | .ok (.ret u)=>CE outer P w H s Q u s'
 | .ok _=>False
 | .error e=>CX outer H s E e s'
structure FnOk (P:Program) (w:World) (K:PySem.W.Frag) (mg:Str->Option Value) (base:Heap) (CX:CXT) (k:Nat) (f:Addr) (fd:FuncData) (ps:List Str) (sp:Sp):Prop where
 len:∀vs H Q E,sp vs H Q E->vs.length=ps.length
 run:∀(A:Around) (outer:List Env) (s:Shared) (H:Hp) (args:Args) (us:List Value) (vs:List V) (Q:VK) (E:XK),Room k A->Env0 P w K mg base A outer s H->BindsTo s fd args (ps.zip us)->Vals vs us->sp vs H Q E->
  codeAny (model P w) A (.call (.ref f) args) (CR CX outer P w H s Q E) s
theorem FnOk.imp {P:Program} {w:World} {K:PySem.W.Frag} {mg:Str->Option Value} {base:Heap} {CX:CXT} {k:Nat} {f:Addr} {fd:FuncData} {ps:List Str} {sp sp':Sp} (F:FnOk P w K mg base CX k f fd ps sp)
 (h:∀vs H Q E,sp' vs H Q E->sp vs H Q E):FnOk P w K mg base CX k f fd ps sp':=
 ⟨λvs H Q E q=>F.len vs H Q E (h _ _ _ _ q),λA outer s H args us vs Q E hr he hb hv hs=>F.run A outer s H args us vs Q E hr he hb hv (h _ _ _ _ hs)⟩
theorem Env0.make {P:Program} {w:World} {K:PySem.W.Frag} {mg:Str->Option Value} {base:Heap} {A:Around} {outer:List Env} {s:Shared} {H:Hp} (e:Env0 P w K mg base A outer s H) (C:Addr) (us:List Value) (kw:List (Str×Value)) :
 Env0 P w K mg base (A.under (.builtin "type.__call__" ⟨.ref C::us,kw⟩)) outer s H:=⟨by first | exact e.frames | (simpa [Around.under,Code.envs,Code.isFrame,pushEnvs] using e.frames),e.mod,e.bs,e.bsz,e.funs,e.frf,e.hok,e.bare⟩
section
variable {X:Cx} {pins:List (Addr×Obj)} {σ:St} {H:Hp} {s s':Shared}
theorem Inv.env0 (I:Inv X pins σ H s):Env0 X.prog X.w X.K X.mg X.base X.A X.stack s H:=
 ⟨I.ok.frames,I.ok.mod,I.bs,Nat.le_trans I.ok.bsz I.sz,I.stack,I.stkFree,I.hok,I.bare⟩
theorem Inv.after {Q:VK} {u:Value} (I:Inv X pins σ H s) (h:CE X.stack X.prog X.w H s Q u s'):EP X pins σ Q u s':=by
 obtain⟨v,H',os,bare,un,hok,r,q⟩:=h
 obtain⟨hh,g,d,t,os'⟩:=s'
 obtain rfl:os'=s.os:=os
 exact⟨v,H',I.call (h':=hh) (g':=g) (d':=d) (t':=t) (ch:=[]) un hok bare (λb z=>absurd z (by simp)),r,q⟩
end
def aC6 (sp:Sp) (dvs:List V) (E:XK) (t:TA):TE:=λσ H Q=>t σ H λvs H1=>sp (vs++dvs) H1 Q E
def Binds (K:PySem.W.Frag) (fd:FuncData) (ps:List Str) (ds:List Value):Prop:=
 ∀(s:Shared) (us:List Value),K.In s.heap->(us++ds).length=ps.length->BindsTo s fd ⟨us,[]⟩ (ps.zip (us++ds))
theorem Binds.all {K:PySem.W.Frag} {fd:FuncData} {ps:List Str} (h:∀us:List Value,us.length=ps.length->bindArgs fd ⟨us,[]⟩=pure (ps.zip us)):Binds K fd ps []:=λs us _ hl=>by
 rw [List.append_nil] at hl ⊢
 exact .of_eq (h us hl)
def ac5 (CX:CXT) (X:Cx) (E:XK):Prop:=∀(pins:List (Addr×Obj)) (σ:St) (H:Hp) (s:Shared) (e:Value) (s':Shared),Inv X pins σ H s->CX X.stack H s E e s'->X.xe e s'
section
variable {X:Cx} {CX:CXT} {k:Nat} {f C:Addr} {fd:FuncData} {ps:List Str} {sp:Sp} {dvs:List V} {ds:List Value} {E:XK} {x m:Str} {p pos apos:Pos} {e o:Expr} {es:List Expr} {ta:TE} {t:TA}
theorem aH4 {pins:List (Addr×Obj)} {σ:St} {H:Hp} {s:Shared} {Q:VK} {us:List Value} {vs:List V} (F:FnOk X.prog X.w X.K X.mg X.base CX k f fd ps sp) (hr:Room k X.A) (hb:Binds X.K fd ps ds) (hd:Vals dvs ds) (hx:ac5 CX X E)
 (I:Inv X pins σ H s) (r:Vals vs us) (h:sp (vs++dvs) H Q E):wpAny (model X.prog X.w) X.A (call (.ref f) us) (EP X pins σ Q) X.xe s:=by
 have r2:Vals (vs++dvs) (us++ds):=r.append hd
 have hl:(us++ds).length=ps.length:=by rw [←r2.length];exact F.len _ _ _ _ h
 refine wpAny_call (codeAny_mono (F.run X.A X.stack s H ⟨us,[]⟩ (us++ds) (vs++dvs) Q E hr I.env0 (hb s us I.kIn hl) r2 h) λr s' hq=>?_)
 cases r with
 | error e=>exact hx pins σ H s e s' I hq
 | ok fl=>
   cases fl with
   | ret u=>exact I.after hq
   | next=>exact False.elim hq
   | brk=>exact False.elim hq
   | cont=>exact False.elim hq
theorem ax5 (F:FnOk X.prog X.w X.K X.mg X.base CX k f fd ps sp) (hr:Room k X.A) (hg:Gl X x) (hm:X.mg x=some (.ref f)) (hk:PySem.W.keepIn X.K (.ref f)=true) (hb:Binds X.K fd ps ds) (hd:Vals dvs ds) (hx:ac5 CX X E)
 (ha:PA X (e::es) t) (hdb:(x == ("__debug__" : Str))=false:=by decide) (he:starEach (e::es) X.env=(false,eval e X.env)::starEach es X.env:=by rfl) (hpl:(backTo pos (starEach es X.env)).any (·.1)=false:=by rfl) :
 PE X (.Call (.Name x p) (e::es) [] pos) (aC6 sp dvs E t):=by
 intro pins s σ H Q I h
 refine wpAny_Call_Name_kw (T7 I hg hm ?_ hdb)
 refine PySem.W.callWith_K (h₀:=X.base) I.ok.mod.kin hk (thn (ha pos pins s σ H _ I h) λus s1 ⟨vs,H1,I1,r,q⟩=>⟨I1.kIn,?_⟩) he hpl
 exact aH4 F hr hb hd hx I1 r q
end
def PK (X:Cx) (kws:List Keyword) (t:TA):Prop:=
 ∀(pos:Pos) (pins:List (Addr×Obj)) (s:Shared) (σ:St) (H:Hp) (Q:List V->Hp->Prop),Inv X pins σ H s->t σ H Q->wpAny (model X.prog X.w) X.A (evalAll ((backToKw pos (keywordEach kws X.env)).map (·.2))) (AP X pins σ Q) X.xe s
section
variable {X:Cx} {CX:CXT} {k:Nat} {f C:Addr} {fd:FuncData} {ps ks:List Str} {sp:Sp} {E:XK} {x m:Str} {p pos apos kpos:Pos} {e o:Expr} {es:List Expr} {kws:List Keyword} {te ta:TE} {t tk:TA} {nm:Option Str}
theorem aH5:PK X [] tNil:=λ_ _ _ _ H Q I h=>wpAny_evalAll_nil ⟨[],H,I,.nil,h⟩
theorem ax6 (ha:PE X e te) (hr:PK X kws t):PK X (⟨nm,e,kpos⟩::kws) (aC5 te t):=by
 intro pos pins s σ H Q I h
 show wpAny _ _ (evalAll ((do let v ←eval e X.env;standAt pos;pure v)::(backToKw pos (keywordEach kws X.env)).map (·.2))) _ _ s
 refine wpAny_evalAll_cons (wpAny_bind (thn (ha pins s σ H _ I h) λu s1 ⟨x,H1,I1,r1,q1⟩=>wpAny_bind (wpAny_standAt (wpAny_pure ?_))))
 exact thn (hr pos pins s1 σ H1 _ I1 q1) λus s2 ⟨xs,H2,I2,r2,q2⟩=>⟨x::xs,H2,I2,.cons r1 r2,q2⟩
variable {g:List Value->List Value->List Value} {gV:List V->List V->List V}
end
structure D6 (N P:List Str) (sc:Scope):Prop where
 kind:sc.kind=.function
 co:sc.isCoroutine=false
 gen:sc.isGenerator=false
 nd:N.Nodup
 pre:N.take P.length=P
 par:∀x∈P,sc.names.lookup x=some .local\/sc.names.lookup x=some .cell
 nofree:∀y∈sc.names,y.2≠.free
theorem m6 {kindOf:Str->Option NameKind} {x:Str}:∀{binds:List (Str×Value)} {m:Str->Option Value},(∀v,(x,v)∉binds)->bindL kindOf binds m x=m x
 | [],_,_=>rfl
 | (n,v)::r,m,h=>by
   unfold bindL
   rw [m6 λw hw=>h w (List.mem_cons_of_mem _ hw)]
   split
   ·have:x≠n:=by rintro rfl;exact h v List.mem_cons_self
    simp [this]
   ·rfl
theorem m7 {kindOf:Str->Option NameKind} {x:Str}:∀{binds:List (Str×Value)} {m:Str->Option Value},(∀v,(x,v)∉binds)->bindC kindOf binds m x=m x
 | [],_,_=>rfl
 | (n,v)::r,m,h=>by
   unfold bindC
   rw [m7 λw hw=>h w (List.mem_cons_of_mem _ hw)]
   split
   ·rfl
   ·have:x≠n:=by rintro rfl;exact h v List.mem_cons_self
    simp [this]
theorem m8 {kindOf:Str->Option NameKind} {x:Str} {v:Value}:∀{P:List Str} {vs:List Value} {i:Nat} {m:Str->Option Value},P.Nodup->P[i]?=some x->vs[i]?=some v->kindOf x=some .local->
 bindL kindOf (P.zip vs) m x=some v
 | [],_,_,_,_,h,_,_=>by simp at h
 | _::_,[],_,_,_,_,h,_=>by simp at h
 | p::P,w::vs,0,m,nd,h1,h2,hk=>by
   simp at h1 h2;subst h1;subst h2
   show bindL kindOf ((p,w)::P.zip vs) m p=_
   unfold bindL
   rw [m6 λv hv=>(List.nodup_cons.mp nd).1 (List.of_mem_zip hv).1,if_pos hk]
   simp
 | p::P,w::vs,i+1,m,nd,h1,h2,hk=>by
   show bindL kindOf ((p,w)::P.zip vs) m x=_
   unfold bindL
   exact m8 (i:=i) (List.nodup_cons.mp nd).2 (by simpa using h1) (by simpa using h2) hk
theorem m9 {kindOf:Str->Option NameKind} {x:Str} {v:Value}:∀{P:List Str} {vs:List Value} {i:Nat} {m:Str->Option Value},P.Nodup->P[i]?=some x->vs[i]?=some v->kindOf x≠some .local->
 bindC kindOf (P.zip vs) m x=some v
 | [],_,_,_,_,h,_,_=>by simp at h
 | _::_,[],_,_,_,_,h,_=>by simp at h
 | p::P,w::vs,0,m,nd,h1,h2,hk=>by
   simp at h1 h2;subst h1;subst h2
   show bindC kindOf ((p,w)::P.zip vs) m p=_
   unfold bindC
   rw [m7 λv hv=>(List.nodup_cons.mp nd).1 (List.of_mem_zip hv).1,if_neg hk]
   simp
 | p::P,w::vs,i+1,m,nd,h1,h2,hk=>by
   show bindC kindOf ((p,w)::P.zip vs) m x=_
   unfold bindC
   exact m9 (i:=i) (List.nodup_cons.mp nd).2 (by simpa using h1) (by simpa using h2) hk
def start (N:List Str) (vs:List V):St:=vs.map some++List.replicate (N.length - vs.length) none
def X5 (CX:CXT) (P:Program) (w:World) (K:PySem.W.Frag) (mg:Str->Option Value) (base:Heap) (N:List Str) (qual:Str) (scope:Scope) (f:Addr) (cd:Value) (A:Around) (outer:List Env) (s:Shared) (H:Hp) (E:XK):Cx where
 prog:=P
 w:=w
 K:=K
 mg:=mg
 base:=base
 A:=A.deeper (envOfC qual scope s.heap.objs.size f cd)
 N:=N
 s₀:=s
 H₀:=H
 env:=envOfC qual scope s.heap.objs.size f cd
 outer:=outer
 stack:=envOfC qual scope s.heap.objs.size f cd::outer
 ex:=[]
 calm:=true
 fn:=λ_=>true
 pn:=[]
 xe:=λe s'=>wpAny (model P w) (A.deeper (envOfC qual scope s.heap.objs.size f cd)) (leaving (envOfC qual scope s.heap.objs.size f cd) e) (λ_ s''=>CX outer H s E e s'') (λe' s''=>CX outer H s E e' s'') s'
theorem y9 {sc:Scope} {n:Nat} {x:Str} (h:sc.names.lookup x=some .cell):∃c,(cellsFrom n sc.names []).lookup x=some c:=by
 have q:=PySem.W.cellsFrom_some sc.names n [] (.inl h)
 exact Option.isSome_iff_exists.mp q
theorem aj4 {CX:CXT} {P:Program} {w:World} {K:PySem.W.Frag} {mg:Str->Option Value} {base:Heap} {N ps:List Str} {qual:Str} {scope:Scope} {f:Addr} {cd:Value} {A:Around} {outer:List Env} {s s1:Shared} {H:Hp} {E:XK} {us:List Value} {vs:List V}
 (S:D6 N ps scope) (hd:A.handled=none) (e0:Env0 P w K mg base A outer s H) (hl:vs.length=ps.length) (r:Vals vs us)
 (x:InCallC s s.heap.objs.size (bindL (envOfC qual scope s.heap.objs.size f cd).kindOf (ps.zip us) λ_=>none) (cellsFrom (s.heap.objs.size+1) scope.names []) (bindC (envOfC qual scope s.heap.objs.size f cd).kindOf (ps.zip us) λ_=>none) s1) :
 Inv (X5 CX P w K mg base N qual scope f cd A outer s H E) [] (start N vs) H s1:=by
 have hpl:ps.length<=N.length:=by have:=congrArg List.length S.pre;rw [List.length_take] at this;omega
 obtain⟨h1,tk,rfl,hk⟩:=x.done
 have noA:∀b:Addr,b∉(X5 CX P w K mg base N qual scope f cd A outer s H E).ex:=λb z=>absurd (show b∈([]:List Addr) from z) (by simp)
 refine⟨⟨e0.mod,S.kind,rfl,rfl,Nat.le_refl _,λy z c h1 h2=>?_,λy hy=>?_,λy c _ h=>?_,λ_=>hd,Around.frames_deeper e0.frames,.inr ⟨rfl,rfl⟩,λb z=>absurd z (noA b),e0.bs,e0.bsz,λb _ _=>noA b,λb z=>absurd z (noA b),e0.funs,e0.frf⟩,
  rfl,e0.bare,Un.kept hk,⟨_,x.toInCall.ns,λi y v h1 h2 h3=>?_⟩,λy c h=>⟨_,x.cell y c h⟩,e0.hok.fresh (Nat.le_refl _),λy c h=>?_,λp hp=>absurd (show p∈([]:List (Addr×Obj)) from hp) (by simp),e0.hok.kept hk,?_⟩
 ·exact name_of_addr x.apart (PySem.mem_of_lookup h1) (PySem.mem_of_lookup h2)
 ·have hy:scope.names.lookup y=some .cell\/scope.names.lookup y=some .free:=hy
  rcases hy with hy | hy
  ·exact y9 hy
  ·exact absurd rfl (S.nofree _ (PySem.mem_of_lookup hy))
 ·exact Nat.le_of_lt (x.above y c (PySem.mem_of_lookup h))
 ·have hi:i<vs.length:=by
   unfold start at h2
   by_cases hi:i<vs.length
   ·exact hi
   ·rw [List.getElem?_append_right (by simpa using hi)] at h2
    rw [List.getElem?_replicate] at h2
    split at h2 <;> cases h2
  have ha:vs[i]?=some v:=by
   unfold start at h2
   rw [List.getElem?_append_left (by simpa using hi),List.getElem?_map] at h2
   cases e:vs[i]? with
   | none=>rw [e] at h2;cases h2
   | some a=>rw [e] at h2;cases h2;rfl
  obtain⟨u,hu,rv⟩:=r.get ha
  have hp:ps[i]?=some y:=by
   rw [←S.pre,List.getElem?_take_of_lt (by omega)];exact h1
  have ndP:ps.Nodup:=by rw [←S.pre];exact S.nd.sublist (List.take_sublist _ _)
  refine⟨u,rv,?_⟩
  rcases S.par y (List.mem_of_getElem? hp) with k | k
  ·exact .inl ⟨k,m8 ndP hp hu k⟩
  ·obtain⟨c,e⟩:=y9 (n:=s.heap.objs.size+1) k
   refine .inr ⟨.inl k,c,e,?_⟩
   have q:=x.cell y c e
   rw [m9 ndP hp hu (by show scope.names.lookup y≠_;rw [k];decide)] at q
   exact q
 ·exact e0.hok.fresh (Nat.le_of_lt (x.above y c (PySem.mem_of_lookup h)))
 ·unfold start
  show _=N.length
  rw [List.length_append,List.length_map,List.length_replicate]
  omega
theorem aC7 {CX:CXT} {P:Program} {w:World} {K:PySem.W.Frag} {mg:Str->Option Value} {base:Heap} {k:Nat} {f:Addr} {name qual:Str} {params:Arguments} {body:List Stmt} {scope:Scope} {dV kV doc pm cdv ct oc:Value} {an od:Option Addr}
 {osl:Array (Option Value)} {N ps:List Str} {sp:Sp} (lk:K.lookup f=some ⟨oc,od,.func (PySem.W.fnOf name qual params body scope dV kV doc pm an cdv ct),osl⟩) (hcd:PySem.W.codeIn K cdv qual=true) (S:D6 N ps scope)
 (len:∀vs H Q E,sp vs H Q E->vs.length=ps.length)
 (hbody:∀(A:Around) (outer:List Env) (s:Shared) (H:Hp) (vs:List V) (Q:VK) (E:XK),Room k (A.deeper (envOfC qual scope s.heap.objs.size f cdv))->sp vs H Q E->
  ∃t,PSs (X5 CX P w K mg base N qual scope f cdv A outer s H E) body t/\t { nx:=λ_ H'=>Q .non H',rt:=Q } (start N vs) H) :
 FnOk P w K mg base CX (k+1) f (PySem.W.fnOf name qual params body scope dV kV doc pm an cdv ct) ps sp:=by
 refine⟨len,λA outer s H args us vs Q E hr e0 hb r hsp=>?_⟩
 have hl:=len _ _ _ _ hsp
 have KX:K.In s.heap:=e0.mod.kin.keeps λb o e=>(e0.bs b o e).1
 have lim:s.heap.NoLimit:=e0.mod.nolimit.keeps λb o e=>(e0.bs b o e).1
 have hkind:∀y∈ps.zip us,scope.names.lookup y.1=some .local\/(scope.names.lookup y.1=some .cell/\((cellsFrom (s.heap.objs.size+1) scope.names []).lookup y.1).isSome=true):=λ⟨n,v⟩ hy=>by
  rcases S.par n (List.of_mem_zip hy).1 with q | q
  ·exact .inl q
  ·exact .inr ⟨q,PySem.W.cellsFrom_some _ _ _ (.inl q)⟩
 refine codeAny_call_function hr.depth (KX _ _ lk) rfl S.co S.gen rfl (PySem.W.codeRec_of KX hcd) (hb _ _ _ _ ?_)
 refine wpAny_newFunctionEnv_cells S.kind hkind λenv he s1 x=>?_
 subst he
 refine⟨lim.keeps x.toInCall.keep,codeAny_func ?_⟩
 obtain⟨t,ht,hq⟩:=hbody A outer s H vs Q E (hr.deeper _) hsp
 have I:Inv (X5 CX P w K mg base N qual scope f cdv A outer s H E) [] (start N vs) H s1:=aj4 S hr.hd e0 hl r x
 refine wpAny_mono (ht [] s1 (start N vs) H _ I hq) (λfl s' hs=>?_) λe s' hs=>hs
 have fin:∀{σ':St} {H':Hp} {v:V} {u:Value},Inv (X5 CX P w K mg base N qual scope f cdv A outer s H E) [] σ' H' s'->RelV v u->Q v H'->CE outer P w H s Q u s':=
  λ{σ' H' v u} J rv q=>⟨v,H',J.os,J.bare,J.base,J.hok,rv,q⟩
 cases fl with
 | ret u=>
   obtain⟨v,σ',H',J,rv,q⟩:=hs
   exact fin J rv q
 | next=>
   obtain⟨σ',H',J,q⟩:=hs
   exact fin (v:=V.non) (u:=Value.none) J rfl q
 | brk=>
   obtain⟨_,_,_,q⟩:=hs
   exact False.elim q
 | cont=>
   obtain⟨_,_,_,q⟩:=hs
   exact False.elim q
section
variable {X:Cx} {x:Str} {p pos:Pos} {e:Expr} {es:List Expr} {t:TA} {id T:String} {r:List V->Hp->VK->Prop}
def tCB (r:List V->Hp->VK->Prop) (t:TA):TE:=λσ H Q=>t σ H λvs H1=>r vs H1 Q
theorem T9 (hc:S4 X (.builtin id) r) (hg:Gl X x) (hm:X.mg x=none) (hv:bootBuiltins x=some (.builtin id)) (ha:PA X (e::es) t) (hn:x≠"__name__":=by decide) (hdb:(x == ("__debug__" : Str))=false:=by decide)
 (he:starEach (e::es) X.env=(false,eval e X.env)::starEach es X.env:=by rfl) (hpl:(backTo pos (starEach es X.env)).any (·.1)=false:=by rfl):PE X (.Call (.Name x p) (e::es) [] pos) (tCB r t):=by
 intro pins s σ H Q I h
 refine wpAny_Call_Name_kw (p8 I hg hm hv ?_ hn hdb)
 exact PyProof.Rows.callWith_builtin1 (thn (ha pos pins s σ H _ I h) λus s1 ⟨vs,H1,I1,r1,q1⟩=>hc pins s1 σ H1 vs us Q I1 r1 q1) he hpl
theorem R5 (hc:S4 X (.type T) r) (hg:Gl X x) (hm:X.mg x=none) (hv:bootBuiltins x=some (.type T)) (ha:PA X (e::es) t) (hn:x≠"__name__":=by decide) (hdb:(x == ("__debug__" : Str))=false:=by decide)
 (he:starEach (e::es) X.env=(false,eval e X.env)::starEach es X.env:=by rfl) (hpl:(backTo pos (starEach es X.env)).any (·.1)=false:=by rfl):PE X (.Call (.Name x p) (e::es) [] pos) (tCB r t):=by
 intro pins s σ H Q I h
 refine wpAny_Call_Name_kw (p8 I hg hm hv ?_ hn hdb)
 exact PyProof.Rows.callWith_type1 (thn (ha pos pins s σ H _ I h) λus s1 ⟨vs,H1,I1,r1,q1⟩=>hc pins s1 σ H1 vs us Q I1 r1 q1) he hpl
end
end L2
namespace HT
open PySem PyProof.Rows
section
variable {prog:Program} {w:World} {A:Around} {E:Value->Shared->Prop} {s:Shared}
theorem cat_tup {t b:Addr} {vs ws:List Value} {Q:Value->Shared->Prop} (ht:IsTup s.heap t vs.toArray) (hb:IsTup s.heap b ws.toArray) (hv:vs≠[])
 (h1:ws=[]->Q (.ref t) s) (h2:ws≠[]->Q (.ref s.heap.objs.size) { s with heap:=s.heap.push { cls:=.type "tuple",data:=.seq (vs++ws).toArray } })
 (hsz:vs.length+ws.length<=sizeLine):wpAny (model prog w) A (binaryOp .Add (.ref t) (.ref b)) Q E s:=by
 obtain⟨⟨cls,dd,data,sl⟩,ho,hc,n,hd⟩:=id ht
 obtain⟨⟨cls2,dd2,data2,sl2⟩,ho2,hc2,n2,hd2⟩:=id hb
 simp only at hc hd hc2 hd2
 subst hc hd hc2 hd2
 have e:vs.toArray++ws.toArray=(vs++ws).toArray:=by simp
 by_cases hw:ws=[]
 ·exact concat_meets ⟨_,ho,rfl⟩ ⟨_,ho2,rfl⟩ noFill_tuple_add seq_tuple_add PySem.F.slot_tuple_add PySem.F.entry_tuple_add (PySem.F.args_tuple_add_2 _ _)
   (tuple_addW1 t b vs.toArray ws.toArray n n2 dd dd2 sl sl2 (by simpa using hv) (by simp [hw])) ⟨ho,ho2,h1 hw⟩
 ·refine concat_meets ⟨_,ho,rfl⟩ ⟨_,ho2,rfl⟩ noFill_tuple_add seq_tuple_add PySem.F.slot_tuple_add PySem.F.entry_tuple_add (PySem.F.args_tuple_add_2 _ _)
   (tuple_addW2 t b vs.toArray ws.toArray n n2 dd dd2 sl sl2 (by simpa using hv) (by simpa using hw) (by rw [List.size_toArray,List.size_toArray];exact hsz)) ⟨ho,ho2,?_⟩
  rw [e]
  exact h2 hw
def sIx (n d:Nat):Option Int->Nat
 | none=>d
 | some v=>if v<0 then (v+(n:Int)).toNat else min v.toNat n
theorem aH6 (n d:Nat) (hd:d<=n) (o:Option Int):sIx n d o<=n:=by
 cases o with
 | none=>exact hd
 | some v=>
   show (if v<0 then (v+(n:Int)).toNat else min v.toNat n)<=n
   by_cases hv:v<0
   ·rw [if_pos hv];omega
   ·rw [if_neg hv];exact Nat.min_le_right _ _
theorem clip_eq (v:Int) (n d:Nat):(if v<0 then max (v+(n:Int)) 0 else min v (n:Int))=((sIx n d (some v):Nat):Int):=by
 show (if v<0 then max (v+(n:Int)) 0 else min v (n:Int))=(((if v<0 then (v+(n:Int)).toNat else min v.toNat n):Nat):Int)
 by_cases hv:v<0
 ·simp only [if_pos hv];omega
 ·simp only [if_neg hv];omega
theorem ac6 (lo hi:Option Int) (n:Nat):Builtin.Slice.sliceAdjust lo hi 1 (n:Int)=(((sIx n 0 lo:Nat):Int),((sIx n n hi:Nat):Int)):=by
 have h1:¬((1:Int)<0):=by omega
 unfold Builtin.Slice.sliceAdjust
 simp only [h1,if_false]
 refine Prod.ext ?_ ?_
 ·cases lo with
  | none=>rfl
  | some v=>exact clip_eq v n 0
 ·cases hi with
  | none=>rfl
  | some v=>exact clip_eq v n n
theorem ac7 (i j:Nat):Builtin.Slice.slicePlaces (i:Int) (j:Int) 1=j - i:=by
 unfold Builtin.Slice.slicePlaces
 have h1:(1:Int) > 0:=by omega
 simp only [h1,if_true,Int.ediv_one]
 split <;> omega
theorem Z0 {v:Value} {o:Option Int} {Q:Option Int->Shared->Prop} (p:IsPart v o) (h:Q o s):wpAny (model prog w) A (Builtin.Slice.slicePartIndex v) Q E s:=by
 cases p with
 | none=>exact slicePart_none h
 | int i t=>exact slicePart_int h
theorem sliceApplied_gen {sl:Addr} {vl vu:Value} {lo hi:Option Int} {n:Nat} {Q:Int×Int×Nat->Shared->Prop} (hs:s.heap.IsSliceOf sl vl vu .none) (pl:IsPart vl lo) (pu:IsPart vu hi)
 (h:Q (((sIx n 0 lo:Nat):Int),1,sIx n n hi - sIx n 0 lo) s):wpAny (model prog w) A (Builtin.Slice.sliceApplied (.ref sl) (pure (n:Int))) Q E s:=by
 obtain⟨os,hos,hcs,hds⟩:=id hs
 unfold Builtin.Slice.sliceApplied Builtin.Slice.sliceFields
 refine wpAny_bind (wpAny_bind (wpAny_field hos hds (x:=vl) rfl (wpAny_bind (wpAny_field hos hds (x:=vu) rfl (wpAny_bind (wpAny_field hos hds (x:=.none) rfl (wpAny_pure ?_)))))))
 refine wpAny_bind (slicePart_none ?_)
 show wpAny _ _ (if ((1:Int) == 0)=true then _ else _) _ _ s
 rw [if_neg (by decide)]
 refine wpAny_bind (Z0 pl (wpAny_bind (Z0 pu (wpAny_bind (wpAny_pure ?_)))))
 show wpAny _ _ (match Builtin.Slice.sliceAdjust lo hi 1 (n:Int) with | (lo,hi)=>pure (lo,(1:Int),Builtin.Slice.slicePlaces lo hi 1)) _ _ s
 rw [ac6 lo hi n]
 show wpAny _ _ (pure (((sIx n 0 lo:Nat):Int),(1:Int),Builtin.Slice.slicePlaces ((sIx n 0 lo:Nat):Int) ((sIx n n hi:Nat):Int) 1)) _ _ s
 rw [ac7]
 exact wpAny_pure h
theorem ao4 (xs:Array Value) (i k:Nat):((List.range k).filterMap λ(m:Nat)=>xs[((i:Int)+(m:Int)*1).toNat]?).toArray=((xs.toList.drop i).take k).toArray:=by
 have e:(λ(m:Nat)=>xs[((i:Int)+(m:Int)*1).toNat]?)=λm=>xs[i+m]?:=by
  funext m
  have:((i:Int)+(m:Int)*1).toNat=i+m:=by omega
  rw [this]
 rw [e]
 have:=pick_run xs i k
 rw [List.filterMap_map] at this
 have e2:((λx=>xs[x]?) ∘ λx=>i+x)=λm=>xs[i+m]?:=rfl
 rw [e2] at this
 rw [this]
theorem getItem_tuple_cut {t sl:Addr} {items:Array Value} {vl vu:Value} {lo hi:Option Int} {Q:Value->Shared->Prop} (ht:IsTup s.heap t items) (hs:s.heap.IsSliceOf sl vl vu .none) (pl:IsPart vl lo) (pu:IsPart vu hi)
 (hw:¬(sIx items.size 0 lo=0/\sIx items.size items.size hi=items.size))
 (h:Q (.ref s.heap.objs.size) { s with heap:=s.heap.push { cls:=.type "tuple",data:=.seq ((items.toList.drop (sIx items.size 0 lo)).take (sIx items.size items.size hi - sIx items.size 0 lo)).toArray } })
 (hsz:items.size<=sizeLine):wpAny (model prog w) A (getItem (.ref t) (.ref sl)) Q E s:=by
 have htake:sizeOk (.seq ((items.toList.drop (sIx items.size 0 lo)).take (sIx items.size items.size hi - sIx items.size 0 lo)).toArray):=by
  show ((items.toList.drop (sIx items.size 0 lo)).take (sIx items.size items.size hi - sIx items.size 0 lo)).toArray.size<=sizeLine
  rw [List.size_toArray,List.length_take,List.length_drop,Array.length_toList]
  omega
 have hj:sIx items.size items.size hi<=items.size:=aH6 _ _ (Nat.le_refl _) hi
 obtain⟨os,hos,hcs,hds⟩:=id hs
 have hTs:s.TypeIs (.ref sl) "slice":=⟨os,hos,hcs⟩
 unfold getItem
 try with_reducible refine wpAny_holding ?_
 first | refine wpAny_bind (wpAny_pure ?_) | skip
 refine wpAny_bind (wpAny_sequenceKey ht.typeIs (by decide) ?_)
 refine wpAny_bind (wpAny_callSpecial?_slot (name:=Str.ofString "__getitem__") ht.typeIs PyProof.Rows.slot_tuple_getitem
  (wpAny_call_entry PyProof.Rows.slot_tuple_getitem ht.typeIs entry_tuple_getitem ?_ (args_tuple_getitem _ _)))
 show wpAny _ _ (Builtin.Tuple.tupleItemsOf (.ref t)>>=_) _ _ s
 refine wpAny_bind (tupleItemsOf_ ht ?_)
 refine wpAny_bind (wpAny_typeOf hTs ?_)
 rw [if_pos (by decide)]
 refine wpAny_bind (sliceApplied_gen hs pl pu ?_)
 have hno:¬((((sIx items.size 0 lo:Nat):Int) == 0&&(1:Int) == 1&&(sIx items.size items.size hi - sIx items.size 0 lo) == items.size)=true):=by
  intro q
  rw [Bool.and_eq_true,Bool.and_eq_true] at q
  have q1:((sIx items.size 0 lo:Nat):Int)=0:=eq_of_beq q.1.1
  have q2:sIx items.size items.size hi - sIx items.size 0 lo=items.size:=eq_of_beq q.2
  exact hw ⟨by omega,by omega⟩
 show wpAny _ _ (if (((sIx items.size 0 lo:Nat):Int) == 0&&(1:Int) == 1&&(sIx items.size items.size hi - sIx items.size 0 lo) == items.size)=true then _ else _) _ _ s
 rw [if_neg hno,ao4]
 first
  | exact wpAny_bind (m:=Builtin.Tuple.tupleExact _) (wpAny_newObj_type (wpAny_pure ⟨_,rfl,wpAny_pure h⟩) htake)
  | exact wpAny_bind (m:=Builtin.Tuple.tupleExact _) (wpAny_newObj_type (wpAny_bind (wpAny_pure (wpAny_pure ⟨_,rfl,wpAny_pure h⟩))) htake)
  | exact wpAny_bind (wpAny_bind (m:=Builtin.Tuple.tupleExact _) (wpAny_newObj_type (wpAny_pure (wpAny_pure ⟨_,rfl,wpAny_pure h⟩)) htake))
  | exact wpAny_bind (wpAny_bind (m:=Builtin.Tuple.tupleExact _) (wpAny_newObj_type (wpAny_pure ⟨_,rfl,wpAny_pure h⟩) htake))
end
end HT
namespace L2
open PySem PySem.Spec PyProof.Rows
abbrev TO:=St->Hp->(Option Int->Hp->Prop)->Prop
def PO (X:Cx) (e:Option Expr) (t:TO):Prop:=
 ∀(pins:List (Addr×Obj)) (s:Shared) (σ:St) (H:Hp) (Q:Option Int->Hp->Prop),Inv X pins σ H s->t σ H Q->
  wpAny (model X.prog X.w) X.A (evalPart e X.env) (λu s'=>∃o H',Inv X pins σ H' s'/\IsPart u o/\Q o H') X.xe s
def tNoPart:TO:=λ_ H Q=>Q none H
def aO5 (t:TE):TO:=λσ H Q=>t σ H λx H1=>∃i,x=.int i/\Q (some i) H1
section
variable {X:Cx} {e:Expr} {te:TE} {lo hi:Option Expr} {tl th:TO} {pos p2:Pos}
theorem ax7:PO X none tNoPart:=by
 intro pins s σ H Q I h
 rw [evalPart_none]
 exact wpAny_pure ⟨none,H,I,.none,h⟩
theorem ax8 (h:PE X e te):PO X (some e) (aO5 te):=by
 intro pins s σ H Q I hw
 rw [evalPart_some]
 refine thn (h pins s σ H _ I hw) λu s1 ⟨x,H1,I1,r1,q1⟩=>?_
 obtain⟨i,rfl,q⟩:=q1
 obtain⟨t,rfl⟩:=r1
 exact⟨some i,H1,I1,.int i t,q⟩
def SlR (X:Cx) (r:V->Option Int->Option Int->Hp->VK->Prop):Prop:=
 ∀(pins:List (Addr×Obj)) (s:Shared) (σ:St) (H:Hp) (x:V) (v vl vu:Value) (lo hi:Option Int) (sl:Addr) (Q:VK),Inv X pins σ H s->RelV x v->s.heap.IsSliceOf sl vl vu .none->IsPart vl lo->IsPart vu hi->r x lo hi H Q->
  ∃T id,typeLookup (.type T) "__getitem__" = pure (some (.builtin id))/\s.TypeIs v T/\wpAny (model X.prog X.w) X.A (getItem v (.ref sl)) (EP X pins σ Q) X.xe s
theorem SlR.or {r r':V->Option Int->Option Int->Hp->VK->Prop} (h:SlR X r) (h':SlR X r'):SlR X (λx lo hi H Q=>r x lo hi H Q\/r' x lo hi H Q):=by
 intro pins s σ H x v vl vu lo hi sl Q I rx hs pl pu q
 rcases q with q | q
 ·exact h pins s σ H x v vl vu lo hi sl Q I rx hs pl pu q
 ·exact h' pins s σ H x v vl vu lo hi sl Q I rx hs pl pu q
def tSl (r:V->Option Int->Option Int->Hp->VK->Prop) (te:TE) (tl th:TO):TE:=λσ H Q=>te σ H λx H1=>tl σ H1 λl H2=>th σ H2 λu H3=>r x l u H3 Q
theorem z0 {r:V->Option Int->Option Int->Hp->VK->Prop} (hr:SlR X r) (he:PE X e te) (hl:PO X lo tl) (hu:PO X hi th):PE X (.Subscript e (.Slice lo hi none p2) pos) (tSl r te tl th):=by
 intro pins s σ H Q I h
 refine Subscript_ (thn (he pins s σ H _ I h) λv s1 ⟨x,H1,I1,r1,q1⟩=>?_)
 refine wpAny_Slice (thn (hl pins s1 σ H1 _ I1 q1) λvl s2 ⟨l,H2,I2,pl,q2⟩=>thn (hu pins s2 σ H2 _ I2 q2) λvu s3 ⟨u,H3,I3,pu,q3⟩=>?_)
 rw [evalPart_none]
 refine wpAny_pure ?_
 have I4:Inv X pins σ H3 { s3 with heap:=s3.heap.push { cls:=.type "slice",data:=.fields #[vl,vu,.none] } }:=I3.kept (t':=s3.toks) λb ob q=>Heap.get?_push_of_some _ q
 obtain⟨T,id,hT,ht,hg⟩:=hr pins { s3 with heap:=s3.heap.push { cls:=.type "slice",data:=.fields #[vl,vu,.none] } } σ H3 x v vl vu l u s3.heap.objs.size Q I4 r1 (Heap.IsSliceOf.new ..) pl pu q3
 show wpAny (model X.prog X.w) X.A (subscriptTail e (.Slice lo hi none p2) v (.ref s3.heap.objs.size)) (EP X pins σ Q) X.xe { s3 with heap:=s3.heap.push { cls:=.type "slice",data:=.fields #[vl,vu,.none] } }
 exact tail_any (ops:=[.ref s3.heap.objs.size,v]) ht hT hg (by with_unfolding_all rfl)
def j8 (xs:List V) (lo hi:Option Int):List V:=(xs.drop (HT.sIx xs.length 0 lo)).take (HT.sIx xs.length xs.length hi - HT.sIx xs.length 0 lo)
theorem W9 (xs:List V) (lo hi:Option Int):(j8 xs lo hi).length<=xs.length:=by
 unfold j8
 rw [List.length_take,List.length_drop]
 omega
def aT1 (K:PySem.W.Frag):V->Option Int->Option Int->Hp->VK->Prop:=λx lo hi H Q=>∃a xs,x=.ref a/\SqT K H a xs/\
 ¬(HT.sIx xs.length 0 lo=0/\HT.sIx xs.length xs.length hi=xs.length)/\∀p,H p=none->Q (.ref p) (upd H p (.tup (j8 xs lo hi)))
theorem ao5:SlR X (aT1 X.K):=by
 intro pins s σ H x v vl vu lo hi sl Q I rx hs pl pu h
 obtain⟨a,xs,rfl,hx,hw,q⟩:=h
 cases rx
 obtain⟨its,r,ht,hz⟩:=I.tuple hx
 have hlen:its.toArray.size=xs.length:=by rw [List.size_toArray];exact r.length.symm
 refine⟨"tuple",_,PyProof.Rows.slot_tuple_getitem.lookup,ht.typeIs,?_⟩
 refine HT.getItem_tuple_cut ht hs pl pu (by rw [hlen];exact hw) ?_ (by rw [hlen];exact hz)
 rw [hlen]
 refine⟨.ref s.heap.objs.size,_,I.laid (t':=s.toks) (o:=.tup (j8 xs lo hi)) (λb ob q=>Heap.get?_push_of_some _ q) (Nat.le_refl _) ?_,rfl,q _ (I.hok.fresh (Nat.le_refl _))⟩
 exact⟨Nat.le_trans (W9 xs lo hi) hz,_,(r.drop (HT.sIx xs.length 0 lo)).take (HT.sIx xs.length xs.length hi - HT.sIx xs.length 0 lo),IsTup.new _ _⟩
def aC8 (K:PySem.W.Frag):R2:=λx y H Q=>∃a b xs ys,x=.ref a/\y=.ref b/\SqT K H a xs/\SqT K H b ys/\xs≠[]/\xs.length+ys.length<=sizeLine/\
 (ys=[]->Q (.ref a) H)/\(ys≠[]->∀p,H p=none->Q (.ref p) (upd H p (.tup (xs++ys))))
theorem Vals.nil_iff {xs:List V} {us:List Value} (r:Vals xs us):us=[]↔xs=[]:=by
 cases r with
 | nil=>simp
 | cons _ _=>simp
theorem op_catT:OpR X (binaryOp .Add) (aC8 X.K):=by
 intro pins s σ H x y v u Q I rx ry h
 obtain⟨a,b,xs,ys,rfl,rfl,ha,hb,hx,hz,q1,q2⟩:=h
 cases rx
 cases ry
 obtain⟨its,r1,p1,_⟩:=I.tuple ha
 obtain⟨its2,r2,p2,_⟩:=I.tuple hb
 refine HT.cat_tup p1 p2 (λz=>hx (r1.nil_iff.mp z)) (λz=>⟨.ref a,H,I,rfl,q1 (r2.nil_iff.mp z)⟩) (λz=>?_) (by rw [←r1.length,←r2.length];exact hz)
 refine⟨.ref s.heap.objs.size,_,I.laid (t':=s.toks) (o:=.tup (xs++ys)) (λb ob q=>Heap.get?_push_of_some _ q) (Nat.le_refl _) ?_,rfl,q2 (λw=>z (r2.nil_iff.mpr w)) _ (I.hok.fresh (Nat.le_refl _))⟩
 exact⟨by rw [List.length_append];exact hz,_,r1.append r2,IsTup.new _ _⟩
end
def ixN (n:Nat) (i:Int):Option Nat:=if 0<=i then (if i<n then some i.toNat else none) else if -(n:Int)<=i then some (i+n).toNat else none
def atI {α:Type} (xs:List α) (i:Int):Option α:=(ixN xs.length i).bind λj=>xs[j]?
theorem af5 {n:Nat} {i:Int} {j:Nat} (h:ixN n i=some j):seqIndex? i n=some j/\j<n/\-(n:Int)<=i/\i<n:=by
 unfold ixN at h
 by_cases h0:0<=i
 ·rw [if_pos h0] at h
  by_cases h1:i<n
  ·rw [if_pos h1] at h
   have e:i.toNat=j:=Option.some.inj h
   exact⟨by rw [seqIndex_of h0 h1,e],by omega,by omega,h1⟩
  ·rw [if_neg h1] at h;cases h
 ·rw [if_neg h0] at h
  by_cases h1 : -(n:Int)<=i
  ·rw [if_pos h1] at h
   have e:(i+n).toNat=j:=Option.some.inj h
   exact⟨by rw [seqIndex_neg (by omega) h1,e],by omega,h1,by omega⟩
  ·rw [if_neg h1] at h;cases h
theorem r8 {α:Type} {xs:List α} {i:Int} {v:α} (h:atI xs i=some v):∃j,seqIndex? i xs.length=some j/\xs[j]?=some v/\j<xs.length/\-(xs.length:Int)<=i/\i<xs.length:=by
 unfold atI at h
 cases e:ixN xs.length i with
 | none=>rw [e] at h;cases h
 | some j=>
   rw [e] at h
   obtain⟨h1,h2,h3,h4⟩:=af5 e
   exact⟨j,h1,h,h2,h3,h4⟩
def r9 (b:Expr):Prop:=∀o i,subscripted b false o i=operate [o,i] (getItem o i)
def IxR (X:Cx) (r:R2):Prop:=
 ∀(value slice:Expr) (pins:List (Addr×Obj)) (s:Shared) (σ:St) (H:Hp) (x y:V) (v u:Value) (Q:VK),Inv X pins σ H s->RelV x v->RelV y u->r x y H Q->
  subscripted slice false v u=operate [v,u] (getItem v u)->wpAny (model X.prog X.w) X.A (subscriptTail value slice v u) (EP X pins σ Q) X.xe s
def MtR (X:Cx) (id:String) (r:V->List V->Hp->VK->Prop):Prop:=
 ∀(pins:List (Addr×Obj)) (s:Shared) (σ:St) (H:Hp) (x:V) (xs:List V) (v:Value) (us:List Value) (Q:VK),Inv X pins σ H s->RelV x v->Vals xs us->r x xs H Q->
  wpAny (model X.prog X.w) X.A (call (.builtin id) (v::us)) (EP X pins σ Q) X.xe s
section
variable {X:Cx} {a b:Expr} {ta tb:TE} {pos:Pos}
theorem IxR.or {r r':R2} (h:IxR X r) (h':IxR X r'):IxR X (λx y H Q=>r x y H Q\/r' x y H Q):=by
 intro value slice pins s σ H x y v u Q I rx ry q hs
 rcases q with q | q
 ·exact h value slice pins s σ H x y v u Q I rx ry q hs
 ·exact h' value slice pins s σ H x y v u Q I rx ry q hs
theorem aC9 {r:R2} (hr:IxR X r) (ha:PE X a ta) (hb:PE X b tb) (hs:r9 b):PE X (.Subscript a b pos) (tOp r ta tb):=by
 intro pins s σ H Q I h
 exact Subscript_ (aG7 ha hb I h λv u s2 x y H2 I2 rx ry q=>hr a b pins s2 σ H2 x y v u Q I2 rx ry q (hs _ _))
def aO6 (K:PySem.W.Frag):R2:=λx y H Q=>∃p xs i v,x=.ref p/\y=.int i/\SqL K H p xs/\atI xs i=some v/\Q v H
def aO7 (K:PySem.W.Frag):R2:=λx y H Q=>∃p xs i v,x=.ref p/\y=.int i/\SqT K H p xs/\atI xs i=some v/\Q v H
def rIxS:R2:=λx y H Q=>∃z i c,x=.str z/\y=.int i/\z.length<=sizeLine/\atI z.cps.toList i=some c/\Q (.str ⟨#[c]⟩) H
theorem ix_list:IxR X (aO6 X.K):=by
 intro value slice pins s σ H x y v u Q I rx ry h hs
 obtain⟨p,xs,i,z,rfl,rfl,hq,he,q⟩:=h
 cases rx
 obtain⟨t,rfl⟩:=ry
 obtain⟨its,r,pl,hz⟩:=I.list hq
 obtain⟨j,h1,h2,h3,h4,h5⟩:=r8 he
 obtain⟨w,ew,rw'⟩:=r.get h2
 have hl:=r.length
 have hn:=V5
 have fin:EP X pins σ Q w s:=⟨z,H,I,rw',q⟩
 by_cases h0:0<=i
 ·have hj:i.toNat=j:=by
   rw [seqIndex_of h0 h5] at h1
   exact Option.some.inj h1
  exact item_listR pl.isList h0 (by omega) (by rw [hj];simpa using ew) fin hs
 ·have hj:(i+(its.toArray.size:Int)).toNat=j:=by
   rw [seqIndex_neg (by omega) h4] at h1
   rw [List.size_toArray,←hl]
   exact Option.some.inj h1
  exact subscriptTail_builtinR (x:=w) pl.isList.typeIs slot_list_getitem.lookup
   (wpAny_getItem_list_neg (Q:=λr s'=>r=w/\EP X pins σ Q r s') pl.isList (by omega) (by rw [List.size_toArray] <;> omega) (by omega) (by rw [hj];simpa using ew) ⟨rfl,fin⟩) hs
theorem aH7:IxR X (aO7 X.K):=by
 intro value slice pins s σ H x y v u Q I rx ry h hs
 obtain⟨p,xs,i,z,rfl,rfl,hq,he,q⟩:=h
 cases rx
 obtain⟨t,rfl⟩:=ry
 obtain⟨its,r,pl,hz⟩:=I.tuple hq
 obtain⟨j,h1,h2,h3,h4,h5⟩:=r8 he
 obtain⟨w,ew,rw'⟩:=r.get h2
 have hl:=r.length
 have hn:=V5
 have fin:EP X pins σ Q w s:=⟨z,H,I,rw',q⟩
 exact subscriptTail_builtinR (x:=w) pl.typeIs slot_tuple_getitem.lookup
  (getItem_tuple (j:=j) (Q:=λr s'=>r=w/\EP X pins σ Q r s') pl (by omega) (by omega) (by rw [List.size_toArray,←hl];exact h1) (by simpa using ew) ⟨rfl,fin⟩) hs
theorem aH8:IxR X rIxS:=by
 intro value slice pins s σ H x y v u Q I rx ry h hs
 obtain⟨z,i,c,rfl,rfl,hz,he,q⟩:=h
 obtain⟨t,rfl⟩:=rx
 obtain⟨t',rfl⟩:=ry
 obtain⟨j,h1,h2,h3,h4,h5⟩:=r8 he
 have hl:z.cps.toList.length=z.length:=by simp [Str.length]
 rw [hl] at h1 h4 h5
 have hn:=V5
 exact tail_any (typeIs_str s z t) slot_str_getitem.lookup (getItem_str (c:=c) (by
  have e1:decide (i < -(2 ^ 63:Int))=false:=decide_eq_false (by omega)
  have e2:decide (i≥2 ^ 63)=false:=decide_eq_false (by omega)
  rw [e1,e2,Bool.or_false]) (by rw [h1];simpa using h2) ⟨.str ⟨#[c]⟩,H,I.tok _,⟨_,rfl⟩,q⟩) hs
theorem ac8 (its:List Value) (n j:Nat) (u:Value):Obj.mapSeq (·.setIfInBounds j u) { cls:=.type "list",data:=.seq its.toArray n }={ cls:=.type "list",data:=.seq (its.set j u).toArray n }:=by
 simp [Obj.mapSeq]
theorem Inv.lst {pins:List (Addr×Obj)} {σ:St} {H:Hp} {s:Shared} {p:Addr} {xs:List V} (I:Inv X pins σ H s) (h:H p=some (.lst xs)) :
 ∃(its:List Value) (n:Nat),Vals xs its/\s.heap.get? p=some { cls:=.type "list",data:=.seq its.toArray n }/\xs.length<=sizeLine:=by
 obtain⟨z,its,n,r,e⟩:=I.hok p _ h
 exact⟨its,n,r,e,z⟩
theorem Inv.lstUpd {pins:List (Addr×Obj)} {σ:St} {H:Hp} {s:Shared} {p:Addr} {xs ys:List V} {its its':List Value} {n n':Nat} {f:Obj->Obj} (I:Inv X pins σ H s) (h:H p=some (.lst xs))
 (ho:s.heap.get? p=some { cls:=.type "list",data:=.seq its.toArray n }) (hf:f { cls:=.type "list",data:=.seq its.toArray n }={ cls:=.type "list",data:=.seq its'.toArray n' }) (r:Vals ys its') (hz:ys.length<=sizeLine) (t:Nat) :
 Inv X pins σ (upd H p (.lst ys)) { s with heap:=s.heap.update p f,toks:=t }:=by
 have e:(s.heap.update p f).get? p=some { cls:=.type "list",data:=.seq its'.toArray n' }:=by
  rw [Heap.get?_update_self f ho (by rw [hf] <;> rfl),hf]
 refine I.write (x:=p) (e:=p) (by rw [h];trivial) (.inl rfl) (λb u hb q=>(Heap.get?_update_other _ _ (Ne.symm hb)).trans q) ⟨_,e⟩ ?_
 exact⟨hz,its',n',r,e⟩
def rSetL:V->V->V->Hp->(Hp->Prop)->Prop:=λo i v H Q=>∃p xs k j,o=.ref p/\i=.int k/\H p=some (.lst xs)/\ixN xs.length k=some j/\Q (upd H p (.lst (xs.set j v)))
theorem ao6:aN7 X rSetL:=by
 intro pins s σ H o i v ov iv u Q I ro ri rv h
 obtain⟨p,xs,k,j,rfl,rfl,hp,hj,q⟩:=h
 cases ro
 obtain⟨t,rfl⟩:=ri
 obtain⟨its,n,r,ho,hz⟩:=I.lst hp
 obtain⟨h1,h2,h3,h4⟩:=af5 hj
 have hl:=r.length
 have hn:=V5
 have I':Inv X pins σ (upd H p (.lst (xs.set j v))) { s with heap:=s.heap.update p (Obj.mapSeq (·.setIfInBounds j u)) }:=
  I.lstUpd hp ho (ac8 its n j u) (r.set rv j) (by rw [List.length_set];exact hz) s.toks
 by_cases h0:0<=k
 ·have hk:k.toNat=j:=by
   rw [seqIndex_of h0 h4] at h1
   exact Option.some.inj h1
  exact PySem.W.ki_setAt ho h0 (by omega) (by rw [List.size_toArray,←hl];exact h4) (by rw [hk];exact⟨_,I',q⟩)
 ·have hk:(k+(its.toArray.size:Int)).toNat=j:=by
   rw [seqIndex_neg (by omega) h3] at h1
   rw [List.size_toArray,←hl]
   exact Option.some.inj h1
  exact PySem.W.ki_setBack ho (by omega) (by rw [List.size_toArray,←hl];exact h3) (by omega) (by rw [hk];exact⟨_,I',q⟩)
theorem s8 (lo hi:Option Int) (n:Nat):(sliceBounds lo hi none n).1=((HT.sIx n 0 lo:Nat):Int)/\(sliceBounds lo hi none n).2.1=((HT.sIx n n hi:Nat):Int)/\(sliceBounds lo hi none n).2.2=1:=by
 refine⟨?_,?_,rfl⟩
 ·cases lo with
  | none=>simp [sliceBounds,HT.sIx]
  | some i=>
    simp only [sliceBounds,HT.sIx,Option.getD_none,show (1:Int) > 0 by decide,if_true]
    by_cases h:i<0
    ·simp only [h,if_true] <;> omega
    ·simp only [h,if_false] <;> omega
 ·cases hi with
  | none=>simp [sliceBounds,HT.sIx]
  | some i=>
    simp only [sliceBounds,HT.sIx,Option.getD_none,show (1:Int) > 0 by decide,if_true]
    by_cases h:i<0
    ·simp only [h,if_true] <;> omega
    ·simp only [h,if_false] <;> omega
theorem j9 (its:List Value) (lo hi:Option Int):slicePick its.toArray lo hi none=((its.drop (HT.sIx its.length 0 lo)).take (HT.sIx its.length its.length hi - HT.sIx its.length 0 lo)).toArray:=by
 obtain⟨h1,h2,h3⟩:=s8 lo hi its.toArray.size
 unfold slicePick
 rw [h1,h2,h3]
 simp only [sliceRange_one,pick_run,List.size_toArray] <;> rfl
def aT2 (K:PySem.W.Frag):V->Option Int->Option Int->Hp->VK->Prop:=λx lo hi H Q=>∃a xs,x=.ref a/\SqL K H a xs/\∀p,H p=none->Q (.ref p) (upd H p (.lst (j8 xs lo hi)))
theorem sl_list:SlR X (aT2 X.K):=by
 intro pins s σ H x v vl vu lo hi sl Q I rx hs pl pu h
 obtain⟨a,xs,rfl,hx,q⟩:=h
 cases rx
 obtain⟨its,r,ht,hz⟩:=I.list hx
 have hlen:=r.length
 refine⟨"list",_,slot_list_getitem.lookup,ht.isList.typeIs,?_⟩
 refine wpAny_getItem_list_slice ht.isList hs pl pu .none (by simp) ?_ (by rw [List.size_toArray] <;> omega)
 rw [j9,←hlen]
 refine⟨.ref s.heap.objs.size,_,I.laid (t':=s.toks) (o:=.lst (j8 xs lo hi)) (λb ob q=>Heap.get?_push_of_some _ q) (Nat.le_refl _) ?_,rfl,q _ (I.hok.fresh (Nat.le_refl _))⟩
 exact⟨Nat.le_trans (W9 xs lo hi) hz,_,0,(r.drop (HT.sIx xs.length 0 lo)).take (HT.sIx xs.length xs.length hi - HT.sIx xs.length 0 lo),Heap.get?_push_size _ rfl⟩
def n0:V->Bool
 | .non=>true
 | .bl _=>true
 | .int _=>true
 | .str _=>true
 | _=>false
def eqV:V->V->Bool
 | .non,.non=>true
 | .bl a,.bl b=>a == b
 | .bl a,.int b=>(if a then 1 else 0) == b
 | .int a,.bl b=>a == (if b then 1 else 0)
 | .int a,.int b=>a == b
 | .str a,.str b=>a == b
 | _,_=>false
theorem ao7 {A:Around} {s:Shared} {y x:V} {u v:Value} (ry:RelV y u) (rx:RelV x v) (fy:n0 y=true) (fx:n0 x=true):SeqAt.EqAt A s u v (eqV y x):=by
 cases y with
 | non=>
   cases ry
   cases x with
   | non=>cases rx;exact SeqAt.EqAt.same _
   | bl b=>cases rx;exact SeqAt.EqAt.none_bool b
   | int b=>obtain⟨t,rfl⟩:=rx;exact SeqAt.EqAt.none_int b t
   | str b=>obtain⟨t,rfl⟩:=rx;exact SeqAt.EqAt.none_str b t
   | _=>exact absurd (show false=true from fx) Bool.false_ne_true
 | bl a=>
   cases ry
   cases x with
   | non=>cases rx;exact SeqAt.EqAt.bool_none a
   | bl b=>cases rx;exact SeqAt.EqAt.bool_bool a b
   | int b=>obtain⟨t,rfl⟩:=rx;exact SeqAt.EqAt.bool_int a b t
   | str b=>obtain⟨t,rfl⟩:=rx;exact SeqAt.EqAt.bool_str a b t
   | _=>exact absurd (show false=true from fx) Bool.false_ne_true
 | int a=>
   obtain⟨t',rfl⟩:=ry
   cases x with
   | non=>cases rx;exact SeqAt.EqAt.int_none a t'
   | bl b=>cases rx;exact SeqAt.EqAt.int_bool a t' b
   | int b=>obtain⟨t,rfl⟩:=rx;exact SeqAt.EqAt.int_int a t' b t
   | str b=>obtain⟨t,rfl⟩:=rx;exact SeqAt.EqAt.int_str a t' b t
   | _=>exact absurd (show false=true from fx) Bool.false_ne_true
 | str a=>
   obtain⟨t',rfl⟩:=ry
   cases x with
   | non=>cases rx;exact SeqAt.EqAt.str_none a t'
   | bl b=>cases rx;exact SeqAt.EqAt.str_bool a t' b
   | int b=>obtain⟨t,rfl⟩:=rx;exact SeqAt.EqAt.str_int a t' b t
   | str b=>obtain⟨t,rfl⟩:=rx;exact SeqAt.EqAt.str_str a t' b t
   | _=>exact absurd (show false=true from fx) Bool.false_ne_true
 | _=>exact absurd (show false=true from fy) Bool.false_ne_true
theorem s9:S4 X (.builtin "len") (λxs H Q=>∃p ys,xs=[.ref p]/\(SqL X.K H p ys\/SqT X.K H p ys)/\Q (.int ys.length) H):=by
 intro pins s σ H xs us Q I r h
 obtain⟨p,ys,rfl,hq,q⟩:=h
 obtain⟨u,rfl,rx⟩:=Q5 r
 cases rx
 have hn:=V5
 rcases hq with hq | hq
 ·obtain⟨its,r',pl,hz⟩:=I.list hq
  have hlen:=r'.length
  exact Calls.call_len_list pl.isList (by simp only [List.size_toArray] <;> omega) ⟨.int ys.length,H,I.tok _,⟨s.toks+1,by rw [List.size_toArray,hlen]⟩,q⟩
 ·obtain⟨its,r',pl,hz⟩:=I.tuple hq
  have hlen:=r'.length
  exact len_tuple pl (by simp only [List.size_toArray] <;> omega) ⟨.int ys.length,H,I.tok _,⟨s.toks+1,by rw [List.size_toArray,hlen]⟩,q⟩
theorem t0:S4 X (.builtin "len") (λxs H Q=>∃z,xs=[.str z]/\z.length<=sizeLine/\Q (.int z.length) H):=by
 intro pins s σ H xs us Q I r h
 obtain⟨z,rfl,hz,q⟩:=h
 obtain⟨u,rfl,t,rfl⟩:=Q5 r
 have hn:=V5
 exact len_str (by omega) ⟨.int z.length,H,I.tok _,⟨_,rfl⟩,q⟩
def tyV (K:PySem.W.Frag) (T:String) (x:V) (H:Hp):Prop:=match x with
 | .str _=>T="str"
 | .int _=>T="int"
 | .ref p=>(T="list"/\∃xs,SqL K H p xs)\/(T="tuple"/\∃o,K.lookup p=some o/\o.cls=.type "tuple"/\o.dict=none)\/
  (T="dict"/\((∃kvs,H p=some (.dK kvs))\/∃kvs,H p=some (.dT kvs)))\/(T="set"/\∃S n,H p=some (.set S n))
 | _=>False
theorem aH9 {pins:List (Addr×Obj)} {σ:St} {H:Hp} {s:Shared} {T:String} {x:V} {v:Value} (I:Inv X pins σ H s) (r:RelV x v) (ty:tyV X.K T x H) :
 s.TypeIs v T/\∀a,v=.ref a->∃ob,s.heap.get? a=some ob/\ob.dict=none:=by
 cases x with
 | str z=>
   obtain⟨t,rfl⟩:=r
   cases (show T="str" from ty)
   exact⟨typeIs_str s z t,λ_ e=>nomatch e⟩
 | int i=>
   obtain⟨t,rfl⟩:=r
   cases (show T="int" from ty)
   exact⟨typeIs_int s i t,λ_ e=>nomatch e⟩
 | ref p=>
   cases r
   rcases ty with ⟨rfl,xs,hq⟩ | ⟨rfl,o,hk,hc,hd⟩ | ⟨rfl,hk⟩ | ⟨rfl,S,n,hk⟩
   ·obtain⟨its,_,pl,_⟩:=I.list hq
    refine⟨pl.isList.typeIs,λa e=>?_⟩
    cases e
    obtain⟨o,n,e,c,hd,_⟩:=pl
    exact⟨o,e,hd⟩
   ·refine⟨⟨o,I.kIn p o hk,hc⟩,λa e=>?_⟩
    cases e
    exact⟨o,I.kIn _ o hk,hd⟩
   ·have z:∃o,s.heap.get? p=some o/\o.ExactDict:=by
     rcases hk with ⟨kvs,hk⟩ | ⟨kvs,hk⟩
     ·obtain⟨_,_,_,_,o,_,_,e,ex,_⟩:=I.hok p _ hk
      exact⟨o,e,ex⟩
     ·obtain⟨_,_,_,_,o,_,_,e,ex,_⟩:=I.hok p _ hk
      exact⟨o,e,ex⟩
    obtain⟨o,e,ex⟩:=z
    refine⟨⟨o,e,ex.1⟩,λa e2=>?_⟩
    cases e2
    exact⟨o,e,ex.2.1⟩
   ·obtain⟨o,_,_,_,e,ex,_⟩:=I.hok p _ hk
    refine⟨⟨o,e,ex.1⟩,λa e2=>?_⟩
    cases e2
    exact⟨o,e,ex.2.1⟩
 | _=>exact False.elim ty
def tBM (K:PySem.W.Frag) (T:String) (r:V->List V->Hp->VK->Prop) (to:TE) (t:TA):TE:=λσ H Q=>to σ H λx H1=>tyV K T x H1/\t σ H1 λxs H2=>r x xs H2 Q
variable {o e:Expr} {es:List Expr} {to:TE} {t:TA} {name:Str} {apos cpos:Pos} {T id:String} {r:V->List V->Hp->VK->Prop}
theorem ao8 (pa:PlainAttrs T) (slot:Slot T name id) (hty:typeOf (.builtin id)=pure (.type "method_descriptor")) (hm:MtR X id r) (ho:PE X o to) (ha:PA X (e::es) t)
 (hbase:attributeBase o name X.env (eval o X.env)=eval o X.env:=by rfl)
 (hfew:((backTo cpos (starEach (e::es) X.env)).all (λx=>!x.1)&&(backToKw cpos (keywordEach [] X.env)).all (λx=>x.1.isSome)
  &&decide ((e::es).length+([]:List Keyword).length+(if ([]:List Keyword).isEmpty then 0 else 1)<30))=true:=by rfl)
 (hline:(apos.endLine == cpos.line)=true:=by rfl) (hs:starEach (e::es) X.env=(false,eval e X.env)::starEach es X.env:=by rfl) (hplain:(backTo cpos (starEach es X.env)).any (·.1)=false:=by rfl) :
 PE X (.Call (.Attribute o name apos) (e::es) [] cpos) (tBM X.K T r to t):=by
 intro pins s σ H Q I h
 refine wpAny_Call_method_late hbase hfew hline rfl (thn (ho pins s σ H _ I h) λv s1 ⟨x,H1,I1,r1,ty,q1⟩=>?_)
 obtain⟨h1,h2⟩:=aH9 I1 r1 ty
 refine⟨T,id,pa,slot,hty,h1,h2,?_⟩
 have hA:=ha cpos pins s1 σ H1 _ I1 q1
 rw [hs] at hA ⊢
 refine Calls.callWith_builtin (by show (false||(backTo cpos (starEach es X.env)).any (·.1))=false;rw [hplain] <;> rfl) (Calls.evalArgs_plain ?_)
 exact thn hA λus s2 ⟨vs,H2,I2,r2,q2⟩=>hm pins s2 σ H2 x vs v us Q I2 r1 r2 q2
/- xs.append(e),list.index on a module's tuple .. are MtR facts of 06m -/
end
def MtM (X:Cx) (id:String) (r:V->List V->Hp->VK->Prop):Prop:=
 ∀(pins:List (Addr×Obj)) (s:Shared) (σ:St) (H:Hp) (x:V) (xs:List V) (v:Value) (us:List Value) (Q:VK),Inv X pins σ H s->RelV x v->Vals xs us->r x xs H Q->
  wpAny (model X.prog X.w) X.A (call (.builtin id) (v::us)) (EP X pins σ Q) X.xe s
theorem Vals.one:∀{x:V} {us:List Value},Vals [x] us->∃u,us=[u]/\RelV x u
 | _,_,.cons r .nil=>⟨_,rfl,r⟩
section
variable {X:Cx} {pins:List (Addr×Obj)} {σ:St} {H:Hp} {s:Shared} {l b:Addr} {xs ys zs:List V}
theorem Inv.lset {its its':List Value} {n:Nat} {f:Array Value->Array Value} {t':Nat} (I:Inv X pins σ H s) (hH:H l=some (.lst xs))
 (e:s.heap.get? l=some { cls:=.type "list",data:=.seq its.toArray n }) (hf:f its.toArray=its'.toArray) (hv:Vals ys its') (hz:ys.length<=sizeLine) :
 Inv X pins σ (upd H l (.lst ys)) { s with heap:=s.heap.update l (Obj.mapSeq f),toks:=t' }:=by
 have q:=PySem.IsL.update e f
 rw [hf] at q
 refine I.write (x:=l) (e:=l) (by rw [hH];exact trivial) (.inl rfl) (λb' u hb hu=>(Heap.get?_update_other s.heap (Obj.mapSeq f) (Ne.symm hb)).trans hu) ⟨_,q⟩ ?_
 exact⟨hz,its',_,hv,q⟩
theorem Inv.lnew {its:List Value} {t':Nat} (I:Inv X pins σ H s) (hv:Vals ys its) (hz:ys.length<=sizeLine) :
 Inv X pins σ (upd H s.heap.objs.size (.lst ys)) { s with heap:=s.heap.push { cls:=.type "list",data:=.seq its.toArray },toks:=t' }:=
 I.laid (λ_ _ q=>Heap.get?_push_of_some _ q) (Nat.le_refl _) ⟨hz,its,0,hv,Heap.get?_push_size _ rfl⟩
theorem Inv.fresh (I:Inv X pins σ H s):H s.heap.objs.size=none:=I.hok.fresh (Nat.le_refl _)
theorem Inv.lstM (I:Inv X pins σ H s) (hH:H l=some (.lst xs)):xs.length<=sizeLine/\∃(its:List Value) (n:Nat),Vals xs its/\xs.length=its.length/\s.heap.get? l=some { cls:=.type "list",data:=.seq its.toArray n }:=by
 obtain⟨z,its,n,r,e⟩:=I.hok l _ hH
 exact⟨z,its,n,r,r.length,e⟩
end
section
variable {X:Cx}
def rAppend:V->List V->Hp->VK->Prop:=λx vs H Q=>∃l xs y,x=.ref l/\vs=[y]/\H l=some (.lst xs)/\xs.length<sizeLine/\Q .non (upd H l (.lst (xs++[y])))
theorem aj5:MtM X "list.append" rAppend:=by
 intro pins s σ H x vs v us Q I rx rv h
 obtain⟨l,xs,y,rfl,rfl,hH,hz,q⟩:=h
 cases rx
 obtain⟨u,rfl,ru⟩:=rv.one
 obtain⟨z,its,n,r,hl,e⟩:=I.lstM hH
 refine call_meets F.slot_list_append ⟨_,e,rfl⟩ F.entry_list_append (F.args_list_append_2 _ _) (PySem.list_append l its.toArray n u (by rw [List.size_toArray];omega)) ⟨e,?_⟩
 refine⟨.non,_,I.lset (its':=its++[u]) hH e (by simp) (r.append (.cons ru .nil)) ?_,rfl,q⟩
 rw [List.length_append,List.length_singleton]
 omega
def rCat:R2:=λx y H Q=>∃l b xs zs,x=.ref l/\y=.ref b/\H l=some (.lst xs)/\H b=some (.lst zs)/\xs.length+zs.length<=sizeLine/\∀p,H p=none->Q (.ref p) (upd H p (.lst (xs++zs)))
theorem aI0:OpR X (binaryOp .Add) rCat:=by
 intro pins s σ H x y v u Q I rx ry h
 obtain⟨l,b,xs,zs,rfl,rfl,hH,hB,hz,q⟩:=h
 cases rx
 cases ry
 obtain⟨z,its,n,r,hl,e⟩:=I.lstM hH
 obtain⟨z2,its2,n2,r2,hl2,e2⟩:=I.lstM hB
 refine PySem.P.add_list e e2 ?_ (by rw [List.size_toArray,List.size_toArray];omega)
 have ea:its.toArray++its2.toArray=(its++its2).toArray:=by simp
 rw [ea]
 exact⟨.ref _,_,I.lnew (t':=s.toks) (r.append r2) (by rw [List.length_append];omega),rfl,q _ I.fresh⟩
end
end L2
namespace Att
open PySem PySem.W PySem.Calls PyProof.Rows
theorem X6 {P:Params} {h:Heap}:∀(ns:List Int) (vs:List Value),WellAll P h vs (ns.map WData.int)->IntsAre vs ns:=by
 intro ns
 induction ns with
 | nil=>
   intro vs w
   rw [List.map_nil] at w
   cases w
   exact .nil
 | cons n ns ih=>
   intro vs w
   rw [List.map_cons] at w
   cases w with
   | cons a b=>
     cases a
     exact .cons _ _ (ih _ b)
theorem aj6 {l:OpenLaw} {n:Nat} (hn:l.most=some n) {P:Params} {h:Heap} {args:List WData} {vals:List Value}
 (hpre:l.row.toRowW.claim.pre args=true) (hwl:WellAll P h vals args) :
 ∃a vs ns,vals=[Value.ref a]/\args=[WData.list (ns.map WData.int)]/\h.get? a=some { cls:=.type "list",data:=.seq vs.toArray }/\IntsAre vs ns/\ns.length<=n:=by
 have hsh:WShape.hasAll [] args [.list .int]=true:=(pre_splitW hpre).1
 have hc:l.pre.holds [] { args:=args }=true:=(pre_splitW hpre).2
 obtain⟨d,r,rfl,h1,h2⟩:=hasAllW_cons hsh
 obtain rfl:=hasAllW_nil h2
 obtain⟨xs,rfl,h3⟩:=hasW_list h1
 obtain⟨ns,rfl⟩:=items_int h3
 have hlen:ns.length<=n:=by
  unfold OpenLaw.pre at hc
  have h4:(WTm.not (.lt (.lit (.int (n:Int))) (.len (.arg 0)))).holds [] { args:=[.list (ns.map .int)] }=true:=by
   have h4:=(holds_andW hc).1
   rw [hn] at h4
   exact h4
  have h5:=condW_of h4 (w_not (w_lt w_lit (w_len_list (w_arg rfl))))
  rw [List.length_map] at h5
  refine Nat.le_of_not_lt λq=>?_
  have q':(n:Int)<((ns.length:Nat):Int):=by omega
  first
   | (rw [decide_eq_true q'] at h5;exact absurd h5 (by decide))
   | (simp at h5;omega)
 cases hwl with
 | cons w1 w2=>
   cases w2
   cases w1 with
   | list ho hall=>exact⟨_,_,ns,rfl,rfl,ho,X6 ns _ hall,hlen⟩
theorem aj7 (l:OpenLaw) (args:List WData):l.row.toRowW.claim.post args (.bool true) args=true:=
 postW_of (r:=l.row.toRowW) (X:=(true == true))
  (show WShape.has [] (.bool true) .bool=true by first | rfl | decide | simp [WShape.has,WShape.arms,WShape.armsAll])
  (show (WTm.eq .res (.lit (.bool true))).value [] { args:=args,res:=some (.bool true),after:=args }=some (.bool (true == true)) from w_eq_bool (w_res rfl) w_lit) rfl
theorem z3 {l:OpenLaw} {n:Nat} {q:Program} {loose:List Str} {XP:(Str->Option Value)->Heap->Prop} {YP:World->Heap->Prop} {d:DefRec}
 (hn:l.most=some n) (hdf:d.params.defaults=[])
 (call:∀(w:World) (s₀ s₁:Shared) (mg mb:Str->Option Value) (fa:Addr) (o:Obj) (pm cd doc:Value) (a:Addr) (vs:List Value) (ns:List Int),
  Ground q loose [] XP w s₀ mg mb s₁.heap->YP w s₁.heap->
  s₁.heap.get? fa=some o->o.data=.func (docDef d.name d.params d.body d.scope pm cd doc)->s₁.heap.CodeRec cd d.name->mg d.name=some (.ref fa)->
  s₁.heap.get? a=some { cls:=.type "list",data:=.seq vs.toArray }->IntsAre vs ns->ns.length<=n->s₁.gens=#[]->
  codeAny (model l.prog w) callerA (.call (.ref fa) ⟨[.ref a],[]⟩) (λr s'=>r=.ok (.ret (.bool true))/\OldK s₁.heap s'.heap/\s'.os=s₁.os/\AllBare s'.gens) s₁) :
 WalkO q loose XP YP l.row.toRowW d [] (λf vs=>PySem.call f vs):=by
 intro w s₀ s₁ mg mb G Y fa o pm cd doc dV kV ho hd hcd hD hmg hg args vals as hpre hlay hrd hwl hlo
 obtain rfl:dV=.none:=Dflts.none hD hdf
 obtain rfl:kV=.none:=Dflts.noKw hD
 obtain⟨a,vs,ns,rfl,rfl,hobj,hints,hlen⟩:=aj6 hn hpre hwl
 refine enter_call (codeAny_mono (call w s₀ s₁ mg mb fa o pm cd doc a vs ns G Y ho (fd_plain hd) hcd hmg hobj hints hlen hg) λr s' hq=>?_)
 obtain⟨rfl,h2,h3,h4⟩:=hq
 exact⟨.inl ⟨.bool true,.bool true,[],rfl,λ_=>rfl,.bool true,aj7 l _,λ_=>⟨List.Pairwise.nil,λ_ hm=>(nomatch hm)⟩⟩,h2,h3,h4⟩
end Att
namespace L2
open PySem PySem.Spec PyProof.Rows
theorem n3:∀{vs:List Value} {ns:List Int},IntsAre vs ns->Vals (ns.map V.int) vs
 | _,_,.nil=>.nil
 | _,_,.cons n t h=>.cons ⟨t,rfl⟩ (n3 h)
def aI1 (H:Hp):Prop:=∀b,H b=none\/∃o xs,H b=some (.frz o (.lst xs))
theorem ao9 {P:Program} {w:World} {K:PySem.W.Frag} {mg mb:Str->Option Value} {CX:CXT} {k:Nat} {fa a:Addr} {fd:FuncData} {x:Str} {sp:Sp} {s₁:Shared} {vs:List Value} {ns:List Int}
 (KX:K.In s₁.heap) (hns:s₁.heap.Ns mainGlobals mg) (hb:s₁.heap.Ns builtinsNs mb) (hbb:∀x:Str,x≠"__name__"->mb x=bootBuiltins x) (hlim:s₁.heap.NoLimit) (hg:s₁.gens=#[])
 (ha:s₁.heap.get? a=some { cls:=.type "list",data:=.seq vs.toArray }) (hi:IntsAre vs ns) (hl:ns.length<=sizeLine) (hr:Room k callerA)
 (F:∀base:Heap,K.In base->base.Ns mainGlobals mg->FnOk P w K mg base CX k fa fd [x] sp) (hbind:∀(s:Shared) (u:Value),BindsTo s fd ⟨[u],[]⟩ [(x,u)])
 (hsp:∀H:Hp,aI1 H->SqL K H a (ns.map V.int)->sp [.ref a] H (λv _=>v=.bl true) λ_ _ _=>False)
 (hCX:∀H e s',CX [] H s₁ (λ_ _ _=>False) e s'->False) :
 codeAny (model P w) callerA (.call (.ref fa) ⟨[.ref a],[]⟩) (λr s'=>r=.ok (.ret (.bool true))/\OldK s₁.heap s'.heap/\s'.os=s₁.os/\AllBare s'.gens) s₁:=by
 have rv:=n3 hi
 have lenV:=hi.length
 have core:∀H:Hp,aI1 H->SqL K H a (ns.map V.int)->HOk P w H s₁.heap->(∀b,H b≠none->b=a)->(H a≠none->K.lookup a=none)->
  codeAny (model P w) callerA (.call (.ref fa) ⟨[.ref a],[]⟩) (λr s'=>r=.ok (.ret (.bool true))/\OldK s₁.heap s'.heap/\s'.os=s₁.os/\AllBare s'.gens) s₁:=by
  intro H hO hS hok hA hK
  have base_of:∀{b:Addr} {o:Obj},s₁.heap.get? b=some o->H b=none->(o9 s₁.heap H).get? b=some o:=λe n=>am4 e n
  have noA:∀{b:Addr} {o:Obj} {es:Array DictEntry} {ep:Nat},s₁.heap.get? b=some o->o.data=.dict es ep->H b=none:=λ{b o es ep} e d=>by
   cases q:H b with
   | none=>rfl
   | some u=>
     have e':b=a:=hA b (by rw [q];simp)
     subst e'
     rw [ha] at e;cases e
     have d':Data.seq vs.toArray _=Data.dict es ep:=d
     cases d'
  have nsK:∀{b:Addr} {m:Str->Option Value},s₁.heap.Ns b m->(o9 s₁.heap H).Ns b m:=λ{b m} ⟨o,es,ep,e,d,r⟩=>⟨o,es,ep,base_of e (noA e d),d,r⟩
  have hKb:K.In (o9 s₁.heap H):=λb o e=>base_of (KX b o e) (by
   cases q:H b with
   | none=>rfl
   | some u=>
     have e':b=a:=hA b (by rw [q];simp)
     subst e'
     rw [hK (by rw [q];simp)] at e;cases e)
  have hM:Mod K mg (o9 s₁.heap H):=⟨hKb,nsK hns,⟨mb,nsK hb,hbb⟩,let ⟨mc,h1,h2⟩:=hlim;⟨mc,nsK h1,h2⟩⟩
  have e0:Env0 P w K mg (o9 s₁.heap H) callerA [] s₁ H:=⟨rfl,hM,λb o e=>aw6 e,Nat.le_of_eq (ai8 _ _),trivial,λb hb=>absurd (show b∈([]:List Addr) from hb) (by simp),hok,.of_eq hg⟩
  refine codeAny_mono ((F _ hKb (nsK hns)).run callerA [] s₁ H ⟨[.ref a],[]⟩ [.ref a] [.ref a] _ _ hr e0 (hbind s₁ (.ref a)) (.cons rfl .nil) (hsp H hO hS)) λr s' h=>?_
  cases r with
  | error e=>exact (hCX H e s' h).elim
  | ok fl=>
    cases fl with
    | next=>exact False.elim h
    | brk=>exact False.elim h
    | cont=>exact False.elim h
    | ret u=>
      obtain⟨v,H',os,bare,un,hok',r',q⟩:=h
      have q':v=.bl true:=q
      subst q'
      obtain rfl:u=Value.bool true:=r'
      refine⟨rfl,OldK.of_keep λb o e=>?_,os,bare⟩
      cases q:H b with
      | none=>exact un.keep b o e q (by intro z;exact absurd (show b∈([]:List Addr) from z) (by simp)) (by simp)
      | some u=>
        rcases hO b with z | ⟨ob,xs,z⟩
        ·rw [q] at z;cases z
        ·have z2:=un.frzs b ob _ z
         obtain⟨e1,_⟩:=hok b _ z
         obtain⟨e2,_⟩:=hok' b _ z2
         rw [e] at e1;cases e1
         exact e2
 cases hk:K.lookup a with
 | some o=>
   have e:=KX a o hk
   rw [ha] at e
   cases e
   refine core (λ_=>none) (λ_=>.inl rfl) (.inr ⟨_,vs.toArray,_,hk,rfl,rfl,rfl,by rw [List.size_toArray,lenV];exact hl,by simpa using rv⟩) (λb u z=>by have z':(none:Option HO)=some u:=z;cases z') (λb z=>absurd rfl z) λz=>absurd rfl z
 | none=>
   refine core (λb=>if b=a then some (.frz { cls:=.type "list",data:=.seq vs.toArray } (.lst (ns.map V.int))) else none) (λb=>?_) (.inl (.inr ⟨{ cls:=.type "list",data:=.seq vs.toArray },if_pos rfl⟩)) (λb u z=>?_) (λb z=>?_) λ_=>hk
   ·by_cases hb:b=a
    ·exact .inr ⟨_,_,if_pos hb⟩
    ·exact .inl (if_neg hb)
   ·by_cases hb:b=a
    ·have z':=(if_pos hb).symm.trans z
     cases z'
     subst hb
     exact⟨ha,by rw [List.length_map];exact hl,vs,_,rv,ha⟩
    ·have z':=(if_neg hb).symm.trans z
     cases z'
   ·by_cases hb:b=a
    ·exact hb
    ·exact absurd (if_neg hb) z
def M0 (s:Stmt) (j:Nat):Stmt:=match s with
 | .ClassDef _ _ _ body _ _ _ _ _ _ _=>body.getD j (.Pass ⟨0,0,0,0⟩)
 | _=>.Pass ⟨0,0,0,0⟩
def C5 (s:Stmt):Arguments:=match s with
 | .FunctionDef _ a _ _ _ _ _ _ _ _=>a
 | _=>{ posonlyargs:=[],args:=[],vararg:=none,kwonlyargs:=[],kw_defaults:=[],kwarg:=none,defaults:=[] }
def C1 (s:Stmt):List Stmt:=match s with
 | .FunctionDef _ _ b _ _ _ _ _ _ _=>b
 | _=>[]
def A6 (s:Stmt):Scope:=match s with
 | .FunctionDef _ _ _ _ _ _ sc _ _ _=>sc
 | _=>{ kind:=.function,names:=[],isGenerator:=false,isCoroutine:=false }
abbrev CX0:CXT:=λ_ _ _ _ _ _=>False
abbrev E0:XK:=λ_ _ _=>False
theorem aO8 {X:Cx}:ac5 CX0 X E0:=λ_ _ _ _ _ _ _ h=>h.elim
structure Fun (K:PySem.W.Frag) (x qual:Str) (st:Stmt) (f:Addr) (fd:FuncData):Prop where
 ex:∃(oc:Value) (od:Option Addr) (kV doc pm:Value) (an:Option Addr) (cdv ct:Value) (osl:Array (Option Value)),
  fd=PySem.W.fnOf x qual (C5 st) (C1 st) (A6 st) .none kV doc pm an cdv ct/\K.lookup f=some ⟨oc,od,.func fd,osl⟩/\PySem.W.codeIn K cdv qual=true
 kp:PySem.W.keepIn K (.ref f)=true
section
variable {P:Program} {w:World} {K:PySem.W.Frag} {mg:Str->Option Value} {base:Heap}
theorem Fun.ok {x qual:Str} {st:Stmt} {f:Addr} {fd:FuncData} {N ps:List Str} {k:Nat} {sp:Sp} (F:Fun K x qual st f fd) (S:D6 N ps (A6 st)) (len:∀vs H Q E,sp vs H Q E->vs.length=ps.length)
 (hbody:∀(cdv:Value) (A:Around) (outer:List Env) (s:Shared) (H:Hp) (vs:List V) (Q:VK) (E:XK),Room k (A.deeper (envOfC qual (A6 st) s.heap.objs.size f cdv))->sp vs H Q E->
  ∃t,PSs (X5 CX0 P w K mg base N qual (A6 st) f cdv A outer s H E).nox (C1 st) t/\t { nx:=λ_ H'=>Q .non H',rt:=Q } (start N vs) H):FnOk P w K mg base CX0 (k+1) f fd ps sp:=by
 obtain⟨oc,od,kV,doc,pm,an,cdv,ct,osl,rfl,lk,hcd⟩:=F.ex
 refine aC7 lk hcd S len λA outer s H vs Q E hr hsp=>?_
 obtain⟨t,h,q⟩:=hbody cdv A outer s H vs Q E hr hsp
 exact⟨t,h.nox,q⟩
theorem Fun.binds {x qual:Str} {st:Stmt} {f:Addr} {fd:FuncData} {ps:List Str} (F:Fun K x qual st f fd)
 (h:∀(kV doc pm:Value) (an:Option Addr) (cdv ct:Value) (us:List Value),us.length=ps.length->bindArgs (PySem.W.fnOf x qual (C5 st) (C1 st) (A6 st) .none kV doc pm an cdv ct) ⟨us,[]⟩=pure (ps.zip us)):Binds K fd ps []:=by
 obtain⟨oc,od,kV,doc,pm,an,cdv,ct,osl,rfl,lk,hcd⟩:=F.ex
 exact .all (h kV doc pm an cdv ct)
theorem L5 {x qual:Str} {st:Stmt} {f:Addr} {oc:Value} {od an:Option Addr} {osl:Array (Option Value)} {kV doc pm cdv ct:Value} (l:K.lookup f=some ⟨oc,od,.func (PySem.W.fnOf x qual (C5 st) (C1 st) (A6 st) .none kV doc pm an cdv ct),osl⟩)
 (c:PySem.W.codeIn K cdv qual=true) (k:PySem.W.keepIn K (.ref f)=true):Fun K x qual st f (PySem.W.fnOf x qual (C5 st) (C1 st) (A6 st) .none kV doc pm an cdv ct):=⟨⟨oc,od,kV,doc,pm,an,cdv,ct,osl,rfl,l,c⟩,k⟩
end
section
variable {X:Cx}
theorem pv (i:Nat) {x:Str} {pos:Pos} (hN:X.N[i]?=some x:=by rfl) (hv:Vis X.env.scope x:=by first | exact Or.inl rfl | exact Or.inr (Or.inl rfl) | exact Or.inr (Or.inr rfl)) (hd:(x == ("__debug__" : Str))=false:=by decide)
 (hcd:(x == ("__classdict__" : Str))=false:=by decide):PE X (.Name x pos) (tVar i):=aF0 hN hv hd hcd
end
end L2
set_option maxRecDepth 100000
namespace Ws
noncomputable section
inductive PV where
 | non | bl (b:Bool) | int (i:Int) | str (x:PySem.Str) | tup (l:List PV) | ref (n:Nat)
inductive PO where
 | lst (l:List PV)
 | ro (l:List PV)
 | dI (kvs:List (Int×PV))
 | ins (c:Nat) (fs:List (Nat×PV))
   | dT (kvs:List (List Int×PV))
   | exc (c:Nat) (v:PV)
abbrev PHp:=List PO
inductive R (α:Type) where
 | ok (a:α) (A:PHp)
 | ex (c:Nat) (v:PV) (A:PHp)
 | no
abbrev M (α:Type):=PHp->R α
@[simp] noncomputable def ret {α:Type} (a:α):M α:=λA=>.ok a A
@[simp] def stuck {α:Type}:M α:=λ_=>.no
@[simp] noncomputable def bnd {α β:Type} (m:M α) (f:α->M β):M β:=λA=>match m A with
  | .ok a A'=>f a A'
  | .ex c v A'=>.ex c v A'
  | .no=>.no
def C3 {α:Type} (P:Prop) (m:M α):M α:=@ite _ P (Classical.propDecidable P) m stuck
theorem J4 {α:Type} {P:Prop} {m:M α} (h:P):C3 P m=m:=if_pos h
@[simp] theorem aI2 {α:Type} {m:M α}:C3 True m=m:=if_pos trivial
theorem B6 {α:Type} {P:Prop} {m:M α} {A A':PHp} {a:α} (h:C3 P m A=.ok a A'):P/\m A=.ok a A':=by
 by_cases p:P
 ·rw [J4 p] at h;exact⟨p,h⟩
 ·rw [show C3 P m=stuck from if_neg p] at h;cases h
theorem bnd_ok {α β:Type} {m:M α} {f:α->M β} {A A':PHp} {a:α} (h:m A=.ok a A'):bnd m f A=f a A':=by unfold bnd;rw [h]
theorem A5 {α β:Type} {m:M α} {f:α->M β} {A A':PHp} {b:β} (h:bnd m f A=.ok b A'):∃a A1,m A=.ok a A1/\f a A1=.ok b A':=by
 unfold bnd at h
 cases e:m A with
 | ok a A1=>rw [e] at h;exact⟨a,A1,rfl,h⟩
 | ex c v A1=>rw [e] at h;cases h
 | no=>rw [e] at h;cases h
abbrev PSt:=List (Option PV)
abbrev ED:=PSt->M PV
abbrev TD:=PSt->M Bool
abbrev AD:=PSt->M (List PV)
abbrev Fun:=List PV->M PV
inductive Fl where
 | nx (σ:PSt) | rt (v:PV) | bk (σ:PSt) | ct (σ:PSt)
abbrev SD:=PSt->M Fl
abbrev GD:=PV->PSt->M PSt
@[irreducible] def LIM:Nat:=100000
theorem lim_le {n:Nat} (h:n<=10000):n<=LIM:=by unfold LIM;omega
theorem lim_lt {n:Nat} (h:n<10000):n<LIM:=by unfold LIM;omega
@[simp] theorem aU8:0<=LIM:=Nat.zero_le _
@[simp] theorem aU9:1<=LIM:=lim_le (by omega)
@[simp] theorem aV0:2<=LIM:=lim_le (by omega)
@[simp] theorem aV1:3<=LIM:=lim_le (by omega)
@[simp] theorem aV2:4<=LIM:=lim_le (by omega)
mutual
def eqv:PV->PV->Bool
 | .non,.non=>true
 | .bl a,.bl b=>a == b
 | .int i,.int j=>decide (i=j)
 | .str x,.str y=>decide (x=y)
 | .tup l,.tup m=>H8 l m
 | _,_=>false
def H8:List PV->List PV->Bool
 | [],[]=>true
 | x::xs,y::ys=>eqv x y&&H8 xs ys
 | _,_=>false
end
mutual
def P2:PV->Bool
 | .non=>true
 | .int _=>true
 | .str _=>true
 | .tup l=>U0 l
 | _=>false
def U0:List PV->Bool
 | []=>true
 | x::xs=>P2 x&&U0 xs
end
@[simp] def G4:PV->Bool
  | .non=>true
  | .int _=>true
  | .str _=>true
  | _=>false
def af6:PV->Bool
 | .tup l=>l.all G4
 | x=>G4 x
def X0:PV->Bool
 | .tup l=>l.all af6
 | x=>G4 x
def plain:PV->Bool
 | .tup l=>l.all X0
 | x=>G4 x
def L6 (l:List PV):Bool:=l.all plain
@[simp] theorem aM9 (i:Int):plain (.int i)=true:=rfl
@[simp] theorem aN0:plain .non=true:=rfl
@[simp] def alloc (o:PO):M PV:=λA=>.ok (.ref A.length) (A++[o])
@[simp] def C7 (n:Nat):M (List PV):=λA=>match A[n]? with
  | some (.lst l)=>.ok l A
  | some (.ro l)=>.ok l A
  | _=>.no
@[simp] def N7 (n:Nat):M (List PV):=λA=>match A[n]? with
  | some (.lst l)=>.ok l A
  | _=>.no
@[simp] def put (n:Nat) (o:PO):M Unit:=λA=>.ok () (A.set n o)
@[simp] def Q6 (v:PV):M (List PV):=match v with
  | .ref n=>C7 n
  | .tup l=>ret l
  | _=>stuck
@[simp] def eVar (i:Nat):ED:=λσ=>match σ[i]? with
  | some (some v)=>ret v
  | _=>stuck
@[simp] def eK (v:PV):ED:=λ_=>ret v
@[simp] def aNil:AD:=λ_=>ret []
@[simp] def aCons (e:ED) (es:AD):AD:=λσ=>bnd (e σ) λx=>bnd (es σ) λxs=>ret (x::xs)
@[simp] def U1 (es:AD):ED:=λσ=>bnd (es σ) λxs=>C3 (xs.length<=LIM) (ret (.tup xs))
@[simp] def L7 (es:AD):ED:=λσ=>bnd (es σ) λxs=>C3 (xs.length<=LIM) (alloc (.lst xs))
abbrev OD:=PV->PV->M PV
@[simp] def A9 (f:OD) (a b:ED):ED:=λσ=>bnd (a σ) λx=>bnd (b σ) λy=>f x y
@[simp] def N4:OD
  | .int i,.int j=>ret (.int (i+j))
  | .tup l,.tup m=>C3 (l≠[]/\l.length+m.length<=LIM) (ret (.tup (l++m)))
  | .ref n,.ref k=>bnd (N7 n) λl=>bnd (N7 k) λm=>C3 (l.length+m.length<=LIM) (alloc (.lst (l++m)))
  | _,_=>stuck
@[simp] def aI3:OD
  | .int i,.int j=>ret (.int (i - j))
  | _,_=>stuck
@[simp] def aI4:OD
  | .int i,.int j=>C3 ((-(2 ^ 64)<i/\i<2 ^ 64)\/(-(2 ^ 64)<j/\j<2 ^ 64)) (ret (.int (i*j)))
  | _,_=>stuck
@[simp] def M1:OD
  | .int i,.int j=>C3 (0<j) (ret (.int (i%j)))
  | _,_=>stuck
@[simp] def Z1:OD
  | .int i,.int j=>C3 (0<j/\j<1073741824) (ret (.int (i / j)))
  | _,_=>stuck
@[simp] def oLt:OD
  | .int i,.int j=>ret (.bl (decide (i<j)))
  | _,_=>stuck
@[simp] def oLe:OD
  | .int i,.int j=>ret (.bl (decide (i<=j)))
  | _,_=>stuck
@[simp] def oGt:OD
  | .int i,.int j=>ret (.bl (decide (j<i)))
  | _,_=>stuck
@[simp] def t4:PV->PV->Bool
  | .bl _,.bl _=>true
  | _,_=>false
@[simp] def pEq (x y:PV):M Bool:=match x,y with
  | .ref n,.ref k=>bnd (C7 n) λl=>bnd (C7 k) λm=>C3 (L6 l=true/\L6 m=true) (ret (H8 l m))
  | x,y=>C3 (t4 x y=true\/(plain x=true/\plain y=true)) (ret (eqv x y))
@[simp] def oEq:OD:=λx y=>bnd (pEq x y) λb=>ret (.bl b)
@[simp] def oNe:OD:=λx y=>bnd (pEq x y) λb=>ret (.bl (!b))
@[simp] def af7:PV->Bool
  | .non=>true
  | _=>false
@[simp] def ap0 (a:ED):ED:=λσ=>bnd (a σ) λx=>ret (.bl (af7 x))
@[simp] def t5 (f g:OD) (a b c:ED):ED:=λσ=>bnd (a σ) λx=>bnd (b σ) λy=>bnd (f x y) λz=>match z with
  | .bl true=>bnd (c σ) λu=>g y u
  | .bl false=>ret (.bl false)
  | _=>stuck
@[simp] def asB (v:PV):M Bool:=match v with
  | .bl b=>ret b
  | _=>stuck
@[simp] def E8 (e:ED):TD:=λσ=>bnd (e σ) asB
@[simp] def tAnd (a b:TD):TD:=λσ=>bnd (a σ) λc=>if c=true then b σ else ret false
@[simp] def tOr (a b:TD):TD:=λσ=>bnd (a σ) λc=>if c=true then ret true else b σ
@[simp] def tNot (a:TD):TD:=λσ=>bnd (a σ) λc=>ret (!c)
@[simp] def eOr (a b:ED):ED:=λσ=>bnd (bnd (a σ) asB) λc=>if c=true then ret (.bl true) else b σ
def ixN (n:Nat) (i:Int):Option Nat:=if 0<=i then (if i<n then some i.toNat else none) else if -(n:Int)<=i then some (i+n).toNat else none
def atI {α:Type} (xs:List α) (i:Int):Option α:=(ixN xs.length i).bind λj=>xs[j]?
@[simp] def oIx:OD:=λx y=>match y with
  | .int i=>bnd (Q6 x) λl=>match atI l i with
    | some v=>ret v
    | none=>stuck
  | _=>stuck
def G0 (n d:Nat):Option Int->Nat
 | none=>d
 | some v=>if v<0 then (max (v+n) 0).toNat else (min v n).toNat
def cut {α:Type} (xs:List α) (lo hi:Option Int):List α:=(xs.drop (G0 xs.length 0 lo)).take (G0 xs.length xs.length hi - G0 xs.length 0 lo)
abbrev LD:=PSt->M (Option Int)
@[simp] def lNo:LD:=λ_=>ret none
@[simp] def lAt (e:ED):LD:=λσ=>bnd (e σ) λx=>match x with
  | .int i=>ret (some i)
  | _=>stuck
@[simp] def V6 (a:ED) (lo hi:LD):ED:=λσ=>bnd (a σ) λx=>bnd (lo σ) λl=>bnd (hi σ) λh=>match x with
  | .ref n=>bnd (C7 n) λxs=>alloc (.lst (cut xs l h))
  | .tup xs=>C3 (¬(G0 xs.length 0 l=0/\G0 xs.length xs.length h=xs.length)) (ret (.tup (cut xs l h)))
  | _=>stuck
@[simp] def t6 (a:ED):ED:=λσ=>bnd (a σ) λx=>bnd (Q6 x) λl=>ret (.int l.length)
@[simp] def J8 (f:Fun) (es:AD):ED:=λσ=>bnd (es σ) f
@[simp] def P3 (a e:ED):ED:=λσ=>bnd (a σ) λx=>match x with
  | .ref n=>bnd (N7 n) λ_=>bnd (e σ) λv=>bnd (N7 n) λl=>C3 (l.length<LIM) (bnd (put n (.lst (l++[v]))) λ_=>ret .non)
  | _=>stuck
@[simp] def gName (i:Nat):GD:=λv σ=>ret (σ.set i (some v))
abbrev GDs:=List PV->PSt->M PSt
@[simp] def gNil:GDs:=λvs σ=>match vs with
  | []=>ret σ
  | _=>stuck
@[simp] def gCons (g:GD) (r:GDs):GDs:=λvs σ=>match vs with
  | v::w=>bnd (g v σ) λσ'=>r w σ'
  | _=>stuck
@[simp] def gTup (n:Nat) (g:GDs):GD:=λv σ=>match v with
  | .tup l=>C3 (l.length=n) (g l σ)
  | _=>stuck
inductive It where
 | rng (lo:Int) (n:Nat) | lst (n:Nat) | tup (l:List PV) | enm (n:Nat)
   | fix (l:List PV)
   | zip (x y:PV)
   | enk (k n:Nat)
abbrev ID:=PSt->M It
@[simp] def ap1 (a:ED):ID:=λσ=>bnd (a σ) λx=>match x with
  | .ref n=>bnd (C7 n) λ_=>ret (.lst n)
  | .tup l=>ret (.tup l)
  | _=>stuck
@[simp] def iRng1 (a:ED):ID:=λσ=>bnd (a σ) λx=>match x with
  | .int j=>C3 (-(2 ^ 62)<=j/\j<2 ^ 62) (ret (.rng 0 j.toNat))
  | _=>stuck
@[simp] def ax9 (k:Nat) (a:ED):ID:=λσ=>bnd (a σ) λx=>match x with
  | .ref n=>bnd (C7 n) λ_=>ret (.enk k n)
  | _=>stuck
@[simp] def item (J:It) (i:Nat):M (Option PV):=match J with
  | .rng lo n=>ret (if i<n then some (.int (lo+i)) else none)
  | .lst a=>bnd (C7 a) λl=>ret l[i]?
  | .tup l=>ret l[i]?
  | .enm a=>bnd (C7 a) λl=>ret (l[i]?.map λx=>.tup [.int i,x])
  | .fix l=>ret l[i]?
  | .zip x y=>bnd (Q6 x) λl=>bnd (Q6 y) λm=>ret (match l[i]?,m[i]? with
    | some u,some v=>some (.tup [u,v])
    | _,_=>none)
  | .enk k a=>bnd (C7 a) λl=>ret (l[i]?.map λx=>.tup [.int ((k+i:Nat):Int),x])
@[simp] def P4 (J:It):M Nat:=match J with
  | .rng _ n=>ret n
  | .lst a=>bnd (C7 a) λl=>ret l.length
  | .tup l=>ret l.length
  | .enm a=>bnd (C7 a) λl=>ret l.length
  | .fix l=>ret l.length
  | .zip x _=>bnd (Q6 x) λl=>ret l.length
  | .enk _ a=>bnd (C7 a) λl=>ret l.length
@[simp] def E7:SD:=λσ=>ret (.nx σ)
@[simp] def C6 (a b:SD):SD:=λσ=>bnd (a σ) λf=>match f with
  | .nx σ'=>b σ'
  | o=>ret o
@[simp] def S5 (e:ED):SD:=λσ=>bnd (e σ) λ_=>ret (.nx σ)
@[simp] def sRet (e:ED):SD:=λσ=>bnd (e σ) λv=>ret (.rt v)
@[simp] def sIf (t:TD) (a b:SD):SD:=λσ=>bnd (t σ) λc=>if c=true then a σ else b σ
@[simp] def E9 (e:ED) (g:GD):SD:=λσ=>bnd (e σ) λv=>bnd (g v σ) λσ'=>ret (.nx σ')
@[simp] def ap2:SD:=λ_=>stuck
def ac9 (J:It) (g:GD) (body:SD):Nat->Nat->PSt->M Fl
 | 0,_,_=>stuck
 | f+1,i,σ=>bnd (item J i) λx=>match x with
   | none=>ret (.nx σ)
   | some v=>bnd (g v σ) λσ1=>bnd (body σ1) λo=>match o with
     | .nx σ2=>ac9 J g body f (i+1) σ2
     | .ct σ2=>ac9 J g body f (i+1) σ2
     | .bk σ2=>ret (.nx σ2)
     | .rt v=>ret (.rt v)
theorem Z2:∃T:It->GD->SD->Nat->Nat->PSt->M Fl,(∀J g body i σ,T J g body 0 i σ=stuck)/\∀J g body f i σ,T J g body (f+1) i σ=bnd (item J i) λx=>match x with
 | none=>ret (.nx σ)
 | some v=>bnd (g v σ) λσ1=>bnd (body σ1) λo=>match o with
   | .nx σ2=>T J g body f (i+1) σ2
   | .ct σ2=>T J g body f (i+1) σ2
   | .bk σ2=>ret (.nx σ2)
   | .rt v=>ret (.rt v):=⟨ac9,λ_ _ _ _ _=>rfl,λ_ _ _ _ _ _=>rfl⟩
def J9:It->GD->SD->Nat->Nat->PSt->M Fl:=Classical.choose Z2
theorem Z3 (J:It) (g:GD) (body:SD) (i:Nat) (σ:PSt):J9 J g body 0 i σ=stuck:=(Classical.choose_spec Z2).1 J g body i σ
theorem K2 (J:It) (g:GD) (body:SD) (f i:Nat) (σ:PSt):J9 J g body (f+1) i σ=bnd (item J i) λx=>match x with
 | none=>ret (.nx σ)
 | some v=>bnd (g v σ) λσ1=>bnd (body σ1) λo=>match o with
   | .nx σ2=>J9 J g body f (i+1) σ2
   | .ct σ2=>J9 J g body f (i+1) σ2
   | .bk σ2=>ret (.nx σ2)
   | .rt v=>ret (.rt v):=(Classical.choose_spec Z2).2 J g body f i σ
@[simp] def U2 (it:ID) (g:GD) (body:SD):SD:=λσ=>bnd (it σ) λJ=>bnd (P4 J) λn=>J9 J g body (n+1) 0 σ
def bst {α:Type} (js:List (Option Nat)) (σ:List (Option α)):List (Option α):=js.map λo=>match o with
 | none=>none
 | some j=>σ.getD j none
def t7 (J:It) (g:GD) (t:TD) (e:ED):Nat->Nat->PSt->M (List PV)
 | 0,_,_=>stuck
 | f+1,i,σ=>bnd (item J i) λx=>match x with
   | none=>ret []
   | some v=>bnd (g v σ) λσ1=>bnd (t σ1) λc=>if c=true then bnd (e σ1) λy=>bnd (t7 J g t e f (i+1) σ1) λys=>ret (y::ys)
     else t7 J g t e f (i+1) σ1
theorem V7:∃T:It->GD->TD->ED->Nat->Nat->PSt->M (List PV),(∀J g t e i σ,T J g t e 0 i σ=stuck)/\∀J g t e f i σ,T J g t e (f+1) i σ=bnd (item J i) λx=>match x with
 | none=>ret []
 | some v=>bnd (g v σ) λσ1=>bnd (t σ1) λc=>if c=true then bnd (e σ1) λy=>bnd (T J g t e f (i+1) σ1) λys=>ret (y::ys)
   else T J g t e f (i+1) σ1:=⟨t7,λ_ _ _ _ _ _=>rfl,λ_ _ _ _ _ _ _=>rfl⟩
def Q7:It->GD->TD->ED->Nat->Nat->PSt->M (List PV):=Classical.choose V7
theorem X1 (J:It) (g:GD) (t:TD) (e:ED) (i:Nat) (σ:PSt):Q7 J g t e 0 i σ=stuck:=(Classical.choose_spec V7).1 J g t e i σ
theorem X2 (J:It) (g:GD) (t:TD) (e:ED) (f i:Nat) (σ:PSt):Q7 J g t e (f+1) i σ=bnd (item J i) λx=>match x with
 | none=>ret []
 | some v=>bnd (g v σ) λσ1=>bnd (t σ1) λc=>if c=true then bnd (e σ1) λy=>bnd (Q7 J g t e f (i+1) σ1) λys=>ret (y::ys)
   else Q7 J g t e f (i+1) σ1:=(Classical.choose_spec V7).2 J g t e f i σ
@[simp] def Z4:TD:=λ_=>ret true
@[simp] def Z5 (it:ID) (mk:PSt->PSt) (g:GD) (t:TD) (e:ED):ED:=λσ=>bnd (it σ) λJ=>bnd (P4 J) λn=>bnd (Q7 J g t e (n+1) 0 (mk σ)) λys=>C3 (ys.length<=LIM) (alloc (.lst ys))
@[simp] def start (n:Nat) (vs:List PV):PSt:=vs.map some++List.replicate (n - vs.length) none
def fin (o:Fl):M PV:=match o with
    | .rt v=>ret v
    | .nx _=>ret .non
    | _=>stuck
@[simp] theorem aT3 (v:PV):fin (.rt v)=ret v:=rfl
@[simp] theorem aT4 (σ:PSt):fin (.nx σ)=ret .non:=rfl
@[simp] def fn (n p:Nat) (body:SD):Fun:=λvs=>C3 (vs.length=p) (bnd (body (start n vs)) fin)
end
theorem C8 {A B:PHp} {n:Nat} {o:PO} (h:A<+:B) (e:A[n]?=some o):B[n]?=some o:=by
 obtain⟨t,rfl⟩:=h
 rw [List.getElem?_append_left (List.getElem?_eq_some_iff.mp e).1];exact e
theorem ap3 {A:PHp} {n:Nat} {o:PO} (e:A[n]?=some o):n<A.length:=(List.getElem?_eq_some_iff.mp e).1
theorem t8 {A B:PHp} {n:Nat} {o:PO} (h:A<+:B) (e:A.length<=n):A<+:B.set n o:=by
 obtain⟨t,rfl⟩:=h
 rw [List.set_append_right _ _ e];exact List.prefix_append _ _
theorem ay0 {A B:PHp} {o:PO} (h:A<+:B):A<+:B++[o]:=h.trans (List.prefix_append _ _)
theorem get_app {A:PHp} {o:PO}:(A++[o])[A.length]?=some o:=by simp
theorem get_app_of {A:PHp} {o p:PO} {n:Nat} (e:A[n]?=some p):(A++[o])[n]?=some p:=C8 (List.prefix_append _ _) e
theorem P5 {A:PHp} {o:PO} {n m:Nat} (h:m≠n):(A.set n o)[m]?=A[m]?:=by
 rw [List.getElem?_set];simp [Ne.symm h]
theorem Y1 {A:PHp} {o p:PO} {n:Nat} (h:A[n]?=some p):(A.set n o)[n]?=some o:=by
 rw [List.getElem?_set];simp [ap3 h]
def Comes (r:R Fl) (P:PSt->PHp->Prop) (Q:PV->PHp->Prop):Prop:=
 (∃σ A,r=.ok (.nx σ) A/\P σ A)\/∃v A,r=.ok (.rt v) A/\Q v A
def Turns (r:R Fl) (P:PSt->PHp->Prop) (Q:PV->PHp->Prop):Prop:=
 (∃σ A,(r=.ok (.nx σ) A\/r=.ok (.ct σ) A)/\P σ A)\/∃v A,r=.ok (.rt v) A/\Q v A
theorem turns_inv {J:It} {g:GD} {body:SD} {n:Nat} (P:Nat->PSt->PHp->Prop) (Q:PV->PHp->Prop)
 (hend:∀σ A,P n σ A->item J n A=.ok none A)
 (hs:∀i σ A,i<n->P i σ A->∃v,item J i A=.ok (some v) A/\Turns (bnd (g v σ) body A) (P (i+1)) Q) :
 ∀k i σ A,i+k=n->P i σ A->Comes (J9 J g body (k+1) i σ A) (P n) Q
 | 0,i,σ,A,e,h=>by
   obtain rfl:i=n:=by omega
   refine .inl ⟨σ,A,?_,h⟩
   rw [K2,bnd_ok (hend σ A h)];rfl
 | k+1,i,σ,A,e,h=>by
   obtain⟨v,hv,t⟩:=hs i σ A (by omega) h
   have key:J9 J g body (k+1+1) i σ A=bnd (bnd (g v σ) body) (λo=>match o with
    | .nx σ2=>J9 J g body (k+1) (i+1) σ2
    | .ct σ2=>J9 J g body (k+1) (i+1) σ2
    | .bk σ2=>ret (.nx σ2)
    | .rt v=>ret (.rt v)) A:=by
    rw [K2,bnd_ok hv]
    show bnd (g v σ) _ A=_
    unfold bnd
    cases g v σ A <;> rfl
   rw [key]
   rcases t with ⟨σ2,A2,e2,h2⟩ | ⟨u,A2,e2,h2⟩
   ·rcases e2 with e2 | e2 <;> (rw [bnd_ok e2];exact turns_inv P Q hend hs k (i+1) σ2 A2 (by omega) h2)
   ·rw [bnd_ok e2];exact .inr ⟨u,A2,rfl,h2⟩
theorem ay1 {it:ID} {g:GD} {body:SD} {lo:Int} {n:Nat} {σ:PSt} {A A1:PHp} (hi:it σ A=.ok (.rng lo n) A1) (P:Nat->PSt->PHp->Prop) (Q:PV->PHp->Prop) (h0:P 0 σ A1)
 (hs:∀(i:Nat) σ A,i<n->P i σ A->Turns (bnd (g (.int (lo+i)) σ) body A) (P (i+1)) Q):Comes (U2 it g body σ A) (P n) Q:=by
 show Comes (bnd (it σ) _ A) _ _
 rw [bnd_ok hi]
 exact turns_inv (J:=.rng lo n) P Q (λσ A _=>by simp) (λi σ A hi h=>⟨_,by simp [hi],hs i σ A hi h⟩) n 0 σ A1 (by omega) h0
theorem Comes.end {r:R Fl} {P:PSt->PHp->Prop} (h:Comes r P λ_ _=>False):∃σ A,r=.ok (.nx σ) A/\P σ A:=by
 rcases h with h | ⟨_,_,_,h⟩
 ·exact h
 ·exact h.elim
theorem Turns.nx {r:R Fl} {P:PSt->PHp->Prop} {Q:PV->PHp->Prop} {σ:PSt} {A:PHp} (e:r=.ok (.nx σ) A) (h:P σ A):Turns r P Q:=.inl ⟨σ,A,.inl e,h⟩
theorem Comes.mono {r:R Fl} {P P':PSt->PHp->Prop} {Q Q':PV->PHp->Prop} (h:Comes r P Q) (hp:∀σ A,P σ A->P' σ A) (hq:∀v A,Q v A->Q' v A):Comes r P' Q':=by
 rcases h with ⟨σ,A,e,h⟩ | ⟨v,A,e,h⟩
 ·exact .inl ⟨σ,A,e,hp _ _ h⟩
 ·exact .inr ⟨v,A,e,hq _ _ h⟩
theorem z4 {it:ID} {g:GD} {body:SD} {lo:Int} {n:Nat} {σ:PSt} {A A1:PHp} {P':PSt->PHp->Prop} {Q:PV->PHp->Prop} (hi:it σ A=.ok (.rng lo n) A1) (P:Nat->PSt->PHp->Prop) (h0:P 0 σ A1)
 (hs:∀(i:Nat) σ A,i<n->P i σ A->Turns (bnd (g (.int (lo+i)) σ) body A) (P (i+1)) Q) (hd:∀σ A,P n σ A->P' σ A):Comes (U2 it g body σ A) P' Q:=
 (ay1 hi P Q h0 hs).mono hd λ_ _ h=>h
theorem aD0 {n p:Nat} {body:SD} {vs:List PV} {A A':PHp} {v:PV} (hl:vs.length=p) (h:body (start n vs) A=.ok (.rt v) A'):fn n p body vs A=.ok v A':=by
 show C3 (vs.length=p) (bnd (body (start n vs)) fin) A=_
 rw [J4 hl,bnd_ok h];rfl
theorem T3 {a b:SD} {σ σ':PSt} {A A':PHp} (h:a σ A=.ok (.nx σ') A'):C6 a b σ A=b σ' A':=by
 show bnd (a σ) _ A=_
 rw [bnd_ok h]
theorem aI5 {a b:SD} {σ:PSt} {v:PV} {A A':PHp} (h:a σ A=.ok (.rt v) A'):C6 a b σ A=.ok (.rt v) A':=by
 show bnd (a σ) _ A=_
 rw [bnd_ok h];rfl
theorem ap4 {e:ED} {g:GD} {σ σ':PSt} {A A' A'':PHp} {v:PV} (h:e σ A=.ok v A') (hg:g v σ A'=.ok σ' A''):E9 e g σ A=.ok (.nx σ') A'':=by
 show bnd (e σ) _ A=_
 rw [bnd_ok h,bnd_ok hg];rfl
theorem z5 (A:PHp) (σ:PSt):L7 aNil σ A=.ok (.ref A.length) (A++[.lst []]):=by
 simp
theorem aT5 {t:TD} {a b:SD} {σ:PSt} {A A':PHp} (h:t σ A=.ok true A'):sIf t a b σ A=a σ A':=by
 show bnd (t σ) _ A=_
 rw [bnd_ok h];rfl
theorem aT6 {t:TD} {a b:SD} {σ:PSt} {A A':PHp} (h:t σ A=.ok false A'):sIf t a b σ A=b σ A':=by
 show bnd (t σ) _ A=_
 rw [bnd_ok h];rfl
theorem z6 {A:PHp} {o p:PO}:(A++[o]).set A.length p=A++[p]:=by
 rw [List.set_append_right _ _ (Nat.le_refl _)];simp
theorem G6 {A:PHp} {n:Nat} {l:List PV} (h:A[n]?=some (.lst l)):C7 n A=.ok l A:=by
 unfold C7;rw [h]
theorem aj8 {A:PHp} {n:Nat} {l:List PV} (h:A[n]?=some (.lst l)):N7 n A=.ok l A:=by
 unfold N7;rw [h]
mutual
theorem ap5:∀x y:PV,P2 x=true->(eqv x y=true↔x=y)
 | .non,y,_=>by cases y <;> simp [eqv]
 | .bl _,_,h=>by simp [P2] at h
 | .int i,y,_=>by cases y <;> simp [eqv]
 | .str s,y,_=>by cases y <;> simp [eqv]
 | .tup l,y,h=>by
   cases y with
   | tup m=>simp only [eqv,PV.tup.injEq];exact R6 l m (by simpa [P2] using h)
   | _=>simp [eqv]
 | .ref _,_,h=>by simp [P2] at h
theorem R6:∀l m:List PV,U0 l=true->(H8 l m=true↔l=m)
 | [],m,_=>by cases m <;> simp [H8]
 | x::xs,m,h=>by
   cases m with
   | nil=>simp [H8]
   | cons y ys=>
     simp only [U0,Bool.and_eq_true] at h
     simp only [H8,Bool.and_eq_true,List.cons.injEq]
     rw [ap5 x y h.1,R6 xs ys h.2]
end
theorem K6 {f:PV->Bool} (h:∀x,f x=true->P2 x=true):∀l:List PV,l.all f=true->U0 l=true
 | [],_=>rfl
 | x::xs,e=>by
   rw [List.all_cons,Bool.and_eq_true] at e
   simp only [U0,Bool.and_eq_true]
   exact⟨h x e.1,K6 h xs e.2⟩
theorem z7 (x:PV) (h:G4 x=true):P2 x=true:=by cases x <;> simp_all [G4,P2]
theorem aD1 (x:PV) (h:af6 x=true):P2 x=true:=by
 cases x with
 | tup l=>exact K6 z7 l h
 | _=>exact z7 _ h
theorem aD2 (x:PV) (h:X0 x=true):P2 x=true:=by
 cases x with
 | tup l=>exact K6 aD1 l h
 | _=>exact z7 _ h
theorem ad0 (x:PV) (h:plain x=true):P2 x=true:=by
 cases x with
 | tup l=>exact K6 aD2 l h
 | _=>exact z7 _ h
theorem ap6 (l m:List PV) (h:L6 l=true):H8 l m=true↔l=m:=R6 l m (K6 ad0 l h)
theorem aj9 {l:List PV} (h:L6 l=true):H8 l l=true:=(ap6 l l h).mpr rfl
@[simp] def aV4 (a:ED):ED:=λσ=>bnd (a σ) λx=>match x with
  | .ref n=>bnd (N7 n) λl=>match l[l.length - 1]? with
    | some y=>bnd (put n (.lst l.dropLast)) λ_=>ret y
    | none=>stuck
  | _=>stuck
def S6:List PV->Option (List Bool)
 | []=>some []
 | .bl b::r=>(S6 r).map (b :: ·)
 | _=>none
@[simp] def ay2 (a:ED):ED:=λσ=>bnd (a σ) λx=>match x with
  | .ref n=>bnd (C7 n) λl=>match S6 l with
    | some bs=>ret (.bl (bs.all id))
    | none=>stuck
  | _=>stuck
@[simp] def Z6 (a:ED):ED:=λσ=>bnd (a σ) λx=>match x with
  | .ref n=>bnd (C7 n) λl=>C3 (l.length<=LIM) (ret (.tup l))
  | _=>stuck
@[simp] def X3 (a:ED) (lo hi:LD):ED:=λσ=>bnd (a σ) λx=>bnd (lo σ) λl=>bnd (hi σ) λh=>match x with
  | .ref n=>bnd (C7 n) λxs=>alloc (.lst (cut xs l h))
  | .tup xs=>ret (.tup (cut xs l h))
  | _=>stuck
@[simp] def aV3 (a:ED):ED:=λσ=>bnd (a σ) λx=>match x with
  | .tup xs=>ret (.tup xs.reverse)
  | _=>stuck
@[simp] def K0:OD
  | .int i,.int j=>ret (.int (i+j))
  | .tup l,.tup m=>C3 (l.length+m.length<=LIM) (ret (.tup (l++m)))
  | .ref n,.ref k=>bnd (N7 n) λl=>bnd (N7 k) λm=>C3 (l.length+m.length<=LIM) (alloc (.lst (l++m)))
  | _,_=>stuck
noncomputable section
def noX {α:Type} (m:M α):M α:=λA=>match m A with
 | .ok a A'=>.ok a A'
 | _=>.no
theorem aI6 {α:Type} {m:M α} {A A':PHp} {a:α} (h:m A=.ok a A'):noX m A=.ok a A':=by unfold noX;rw [h]
def V8 (f:Fun) (es:AD):ED:=λσ=>bnd (noX (es σ)) f
def Z7 (s:SD):SD:=λσ=>noX (s σ)
def ay3 (t:TD):TD:=λσ=>noX (t σ)
def ay4 (i:ID):ID:=λσ=>noX (i σ)
def Z8 (g:GD):GD:=λv σ=>noX (g v σ)
def t9 (c:Nat) (es:AD):SD:=λσ=>bnd (noX (es σ)) λvs A=>match vs with
 | [v]=>.ex c v A
 | _=>.no
def subX (c k:Nat):Bool:=decide (c=k)||decide (k=7)
def aD3 (i:Nat):Fl->Fl
 | .nx σ=>.nx (σ.set i none)
 | .bk σ=>.bk (σ.set i none)
 | .ct σ=>.ct (σ.set i none)
 | .rt v=>.rt v
abbrev Hd:=Nat×Option Nat×SD
def P6:List Hd->Nat->PV->PSt->M Fl
 | [],_,_,_=>stuck
 | (k,none,b)::r,c,v,σ=>if subX c k=true then b σ else P6 r c v σ
 | (k,some i,b)::r,c,v,σ=>if subX c k=true then bnd (alloc (.exc c v)) λx=>bnd (b (σ.set i (some x))) λf=>ret (aD3 i f) else P6 r c v σ
def ap7 (es:List Nat) (b:SD) (hs:List Hd):SD:=λσ A=>match b σ A with
 | .ok f A'=>.ok f A'
 | .ex c v A'=>C3 (c∈es) (P6 hs c v σ) A'
 | .no=>.no
def n4 (n:Nat) (es:List Nat):M (Nat×PV):=λA=>match A[n]? with
 | some (.exc c v)=>C3 (c∈es) (ret (c,v)) A
 | _=>.no
def eAt (es:List Nat) (d:ED):ED:=λσ=>bnd (d σ) λx=>match x with
 | .ref n=>bnd (n4 n es) λp=>ret p.2
 | _=>stuck
def ay5 (es:List Nat) (d:ED) (k:Nat):ED:=λσ=>bnd (d σ) λx=>match x with
 | .ref n=>bnd (n4 n es) λp=>ret (.bl (subX p.1 k))
 | _=>stuck
end
noncomputable section
def M6:PV->Bool
 | .non=>true
 | .bl _=>true
 | .int _=>true
 | .str _=>true
 | _=>false
def eqB:PV->PV->Bool
 | .non,.non=>true
 | .bl a,.bl b=>a == b
 | .bl a,.int b=>(if a then (1:Int) else 0) == b
 | .int a,.bl b=>a == (if b then (1:Int) else 0)
 | .int a,.int b=>a == b
 | .str a,.str b=>a == b
 | _,_=>false
def ad1 (l m:List PV):Bool:=(List.range (min l.length m.length)).all (λj=>eqB (l.getD j .non) (m.getD j .non))&&l.length == m.length
def aV5:OD:=λx y=>match x,y with
 | .tup l,.tup m=>C3 (l.all M6=true/\m.all M6=true) (ret (.bl (ad1 l m)))
 | _,_=>stuck
def aI7:OD:=λx y=>match x,y with
 | .tup l,.tup m=>C3 (l.all M6=true/\m.all M6=true) (ret (.bl (!ad1 l m)))
 | _,_=>stuck
end
noncomputable section
end
noncomputable section
end
noncomputable section
end
noncomputable section
end
noncomputable section
end
noncomputable section
end
noncomputable section
end
noncomputable section
def ap8 (a:ED):ED:=λσ=>bnd (a σ) λx=>match x with
 | .bl b=>ret (.int (if b then 1 else 0))
 | _=>stuck
end
noncomputable section
end
noncomputable section
end
noncomputable section
def ad2 (a:ED):ED:=λσ=>bnd (a σ) λx=>match x with
 | .int i=>C3 (i.natAbs<10000000000) (ret (.str (PySem.Str.ofString (toString i))))
 | _=>stuck
def af8 (a:ED):ED:=λσ=>bnd (a σ) λx=>match x with
 | .str z=>match PySem.intText? z with
   | some n=>C3 (z.length<=640) (ret (.int n))
   | none=>stuck
 | _=>stuck
def P7:List PV->Option (List PySem.Str)
 | []=>some []
 | .str z::r=>(P7 r).map (z :: ·)
 | _=>none
def S7 (a b:ED):ED:=λσ=>bnd (a σ) λx=>match x with
 | .str z=>bnd (b σ) λy=>match y with
   | .ref n=>bnd (C7 n) λl=>match P7 l with
     | some ys=>C3 (z.length<=16/\(ys.map (·.length)).sum+ys.length<=1048576) (ret (.str (PySem.Txt.join z ys)))
     | none=>stuck
   | _=>stuck
 | _=>stuck
def T4 (a b:ED):ED:=λσ=>bnd (a σ) λx=>match x with
 | .str z=>bnd (b σ) λy=>match y with
   | .str u=>C3 ((u.length == 0)=false/\z.length<=LIM/\(PySem.Txt.split z u).length<=LIM/\(PySem.Builtin.Str.partsBetween z (PySem.Builtin.Str.occurrences z u 0 z.length (z.length+1)) u.length).length<=LIM) (alloc (.lst ((PySem.Txt.split z u).map .str)))
   | _=>stuck
 | _=>stuck
def z8:OD
 | .str x,.str y=>C3 (x.length+y.length<=LIM) (ret (.str (x++y)))
 | _,_=>stuck
def aI8:OD
 | .str x,.str y=>ret (.bl (!(PySem.Builtin.Str.occurrences y x 0 y.length 1).isEmpty))
 | _,_=>stuck
def ap9 (a:ED):ED:=λσ=>bnd (a σ) λx=>match x with
 | .str z=>C3 (z.length<=LIM) (ret (.int z.length))
 | _=>stuck
def ak0:OD
 | .str z,.int i=>match atI z.cps.toList i with
   | some c=>C3 (z.length<=LIM) (ret (.str ⟨#[c]⟩))
   | none=>stuck
 | _,_=>stuck
def aI9 (a:ED):ID:=λσ=>bnd (a σ) λx=>match x with
 | .str z=>C3 (z.cps.all (·< 128)=true) (ret (.fix (z.cps.toList.map λc=>.str ⟨#[c]⟩)))
 | _=>stuck
end
noncomputable section
def gIx (a i:ED):GD:=λv σ=>bnd (a σ) λx=>bnd (i σ) λy=>match x,y with
 | .ref n,.int k=>bnd (N7 n) λl=>match ixN l.length k with
   | some j=>bnd (put n (.lst (l.set j v))) λ_=>ret σ
   | none=>stuck
 | _,_=>stuck
end
noncomputable section
end
def Q8 (z u w:PySem.Str):PySem.Str:=if (PySem.Builtin.Str.occurrences z u 0 z.length 1).isEmpty=true then z else PySem.Builtin.Str.glued w (PySem.Builtin.Str.partsBetween z (PySem.Builtin.Str.occurrences z u 0 z.length 1) u.length)
def ad3 (a:ED) (u w:PySem.Str):ED:=λσ=>bnd (a σ) λx=>match x with
 | .str z=>C3 (((u.length == 0)=false/\(u == w)=false)/\z.length+(PySem.Builtin.Str.occurrences z u 0 z.length 1).length*w.length<=LIM/\(Q8 z u w).length<=LIM) (ret (.str (Q8 z u w)))
 | _=>stuck
end Ws
namespace Ws
open PySem
def aJ0:Expr->Bool
 | .Starred _ _=>true
 | _=>false
theorem D2 {e:Expr} {es:List Expr} {env:Env} (h:aJ0 e=false):starEach (e::es) env=(false,eval e env)::starEach es env:=by
 cases e <;> first | rfl | cases h
mutual
inductive RV (ρ:List Addr) (H:L2.Hp):PV->L2.V->Prop
 | non:RV ρ H .non .non
 | bl (b:Bool):RV ρ H (.bl b) (.bl b)
 | int (i:Int):RV ρ H (.int i) (.int i)
 | str (x:Str):RV ρ H (.str x) (.str x)
 | tup {l:List PV} {a:Addr} {vs:List L2.V} (h:H a=some (.tup vs)) (r:RVs ρ H l vs):RV ρ H (.tup l) (.ref a)
 | ref {n:Nat} {a:Addr} (h:ρ[n]?=some a):RV ρ H (.ref n) (.ref a)
inductive RVs (ρ:List Addr) (H:L2.Hp):List PV->List L2.V->Prop
 | nil:RVs ρ H [] []
 | cons {x:PV} {v:L2.V} {l:List PV} {vs:List L2.V} (h:RV ρ H x v) (r:RVs ρ H l vs):RVs ρ H (x::l) (v::vs)
end
structure Ext (ρ:List Addr) (H:L2.Hp) (ρ':List Addr) (H':L2.Hp):Prop where
 pre:ρ<+:ρ'
 tup:∀a vs,H a=some (.tup vs)->H' a=some (.tup vs)
 xd:∀a fs,H a=some (.xd fs)->H' a=some (.xd fs)
theorem Ext.refl (ρ:List Addr) (H:L2.Hp):Ext ρ H ρ H:=⟨List.prefix_refl _,λ_ _ h=>h,λ_ _ h=>h⟩
theorem Ext.trans {ρ ρ1 ρ2:List Addr} {H H1 H2:L2.Hp} (a:Ext ρ H ρ1 H1) (b:Ext ρ1 H1 ρ2 H2):Ext ρ H ρ2 H2:=⟨a.pre.trans b.pre,λc vs h=>b.tup c vs (a.tup c vs h),λc vs h=>b.xd c vs (a.xd c vs h)⟩
theorem u0 {ρ ρ':List Addr} {n:Nat} {a:Addr} (h:ρ<+:ρ') (e:ρ[n]?=some a):ρ'[n]?=some a:=by
 obtain⟨t,rfl⟩:=h
 rw [List.getElem?_append_left (List.getElem?_eq_some_iff.mp e).1];exact e
section
variable {ρ ρ':List Addr} {H H':L2.Hp}
mutual
theorem RV.mono (e:Ext ρ H ρ' H'):∀{x:PV} {v:L2.V},RV ρ H x v->RV ρ' H' x v
 | _,_,.non=>.non
 | _,_,.bl b=>.bl b
 | _,_,.int i=>.int i
 | _,_,.str x=>.str x
 | _,_,.tup h r=>.tup (e.tup _ _ h) (RVs.mono e r)
 | _,_,.ref h=>.ref (u0 e.pre h)
theorem RVs.mono (e:Ext ρ H ρ' H'):∀{l:List PV} {vs:List L2.V},RVs ρ H l vs->RVs ρ' H' l vs
 | _,_,.nil=>.nil
 | _,_,.cons h r=>.cons (RV.mono e h) (RVs.mono e r)
end
theorem RVs.length:∀{l:List PV} {vs:List L2.V},RVs ρ H l vs->l.length=vs.length
 | _,_,.nil=>rfl
 | _,_,.cons _ r=>by simp [RVs.length r]
theorem RVs.get:∀{l:List PV} {vs:List L2.V} {i:Nat} {x:PV},RVs ρ H l vs->l[i]?=some x->∃v,vs[i]?=some v/\RV ρ H x v
 | _,_,_,_,.nil,e=>by simp at e
 | _,_,0,_,.cons h _,e=>by simp at e;subst e;exact⟨_,rfl,h⟩
 | _,_,i+1,_,.cons _ r,e=>by
   obtain⟨v,h1,h2⟩:=RVs.get (i:=i) r (by simpa using e)
   exact⟨v,by simpa using h1,h2⟩
theorem RVs.get':∀{l:List PV} {vs:List L2.V} {i:Nat} {v:L2.V},RVs ρ H l vs->vs[i]?=some v->∃x,l[i]?=some x/\RV ρ H x v
 | _,_,_,_,.nil,e=>by simp at e
 | _,_,0,_,.cons h _,e=>by simp at e;subst e;exact⟨_,rfl,h⟩
 | _,_,i+1,_,.cons _ r,e=>by
   obtain⟨x,h1,h2⟩:=RVs.get' (i:=i) r (by simpa using e)
   exact⟨x,by simpa using h1,h2⟩
theorem RVs.append:∀{l m:List PV} {vs ws:List L2.V},RVs ρ H l vs->RVs ρ H m ws->RVs ρ H (l++m) (vs++ws)
 | _,_,_,_,.nil,s=>s
 | _,_,_,_,.cons h r,s=>.cons h (RVs.append r s)
theorem RVs.take:∀{l:List PV} {vs:List L2.V} (n:Nat),RVs ρ H l vs->RVs ρ H (l.take n) (vs.take n)
 | _,_,0,_=>by simpa using .nil
 | _,_,_+1,.nil=>.nil
 | _,_,n+1,.cons h r=>.cons h (RVs.take n r)
theorem RVs.drop:∀{l:List PV} {vs:List L2.V} (n:Nat),RVs ρ H l vs->RVs ρ H (l.drop n) (vs.drop n)
 | _,_,0,r=>r
 | _,_,_+1,.nil=>.nil
 | _,_,n+1,.cons _ r=>RVs.drop n r
theorem RVs.ints (ns:List Int):RVs ρ H (ns.map .int) (ns.map .int):=by
 induction ns with
 | nil=>exact .nil
 | cons i r ih=>exact .cons (.int i) ih
end
def fnm (i:Nat):Str:=(["number","passings","at","web","leaders","limits","plan","free","ledger","kept_leaders","kept_limits","kept_free","now","turns_of_lays","sayings","first_turns","does","me","open_boxes"]:List Str).getD i "?"
def Fz (K:PySem.W.Frag) (H:L2.Hp) (a:Addr) (xs:List L2.V):Prop:=
 (∃o,H a=some (.frz o (.lst xs)))\/∃(o:Obj) (its:Array Value) (n:Nat),K.lookup a=some o/\o.cls=.type "list"/\o.dict=none/\o.data=.seq its n/\its.size<=sizeLine/\L2.Vals xs its.toList
theorem Fz.sq {K:PySem.W.Frag} {H:L2.Hp} {a:Addr} {xs:List L2.V} (h:Fz K H a xs):L2.SqL K H a xs:=by
 rcases h with ⟨o,h⟩ | h
 ·exact .inl (.inr ⟨o,h⟩)
 ·exact .inr h
def K1:PO->Bool
 | .ro _=>false
 | _=>true
structure Pairs {κ κ':Type} (f:κ->κ') (ρ:List Addr) (H:L2.Hp) (kvs:List (κ×PV)) (kv:List (κ'×L2.V)):Prop where
 keys:kv.map (·.1)=kvs.map λp=>f p.1
 vals:RVs ρ H (kvs.map (·.2)) (kv.map (·.2))
theorem Pairs.mono {κ κ':Type} {f:κ->κ'} {ρ ρ':List Addr} {H H':L2.Hp} {kvs:List (κ×PV)} {kv:List (κ'×L2.V)} (h:Pairs f ρ H kvs kv) (e:Ext ρ H ρ' H'):Pairs f ρ' H' kvs kv:=⟨h.keys,h.vals.mono e⟩
section
variable (K:PySem.W.Frag) (cm:Nat->Addr)
def RO (ρ:List Addr) (H:L2.Hp) (a:Addr):PO->Prop
 | .lst l=>∃xs,H a=some (.lst xs)/\RVs ρ H l xs
 | .ro l=>∃xs,Fz K H a xs/\RVs ρ H l xs
 | .dI kvs=>∃kv,H a=some (.dK kv)/\Pairs (Sum.inl:Int->L2.Key) ρ H kvs kv
 | .ins c fs=>(c<7/\∀p∈fs,p.1<19)/\∃dx kv,H a=some (.ins (cm c) dx kv)/\Pairs fnm ρ H fs kv
 | .dT kvs=>∃kv,H a=some (.dT kv)/\Pairs (List.map Sum.inl:List Int->List L2.Key) ρ H kvs kv
 | .exc c v=>∃o d v',H a=some (.frz o (.own a))/\o.cls=.ref (cm c)/\o.dict=some d/\(∃vs:Array Value,o.data=.fields vs/\vs[2]?=some .none)/\H d=some (.xd [("at",v')])/\RV ρ H v v'
structure Rel (ρ:List Addr) (A:PHp) (H:L2.Hp):Prop where
 len:ρ.length=A.length
 obj:∀(n:Nat) (o:PO) (a:Addr),A[n]?=some o->ρ[n]?=some a->RO K cm ρ H a o
 inj:∀(m n:Nat) (a:Addr) (o p:PO),ρ[m]?=some a->ρ[n]?=some a->A[m]?=some o->A[n]?=some p->K1 o=true->K1 p=true->m=n
end
section
variable {K:PySem.W.Frag} {cm:Nat->Addr} {ρ ρ':List Addr} {H H':L2.Hp} {A:PHp} {a p:Addr} {o:PO} {n:Nat}
theorem RO.keep (r:RO K cm ρ H a o) (e:Ext ρ H ρ' H') (hk:∀u,H a=some u->H' a=some u):RO K cm ρ' H' a o:=by
 cases o with
 | lst l=>obtain⟨xs,h,q⟩:=r;exact⟨xs,hk _ h,q.mono e⟩
 | ro l=>
   obtain⟨xs,h,q⟩:=r
   rcases h with ⟨u,h⟩ | h
   ·exact⟨xs,.inl ⟨u,hk _ h⟩,q.mono e⟩
   ·exact⟨xs,.inr h,q.mono e⟩
 | dI kvs=>obtain⟨kv,h,q⟩:=r;exact⟨kv,hk _ h,q.mono e⟩
 | ins c fs=>obtain⟨hs,dx,kv,h,q⟩:=r;exact⟨hs,dx,kv,hk _ h,q.mono e⟩
 | dT kvs=>obtain⟨kv,h,q⟩:=r;exact⟨kv,hk _ h,q.mono e⟩
 | exc c v=>obtain⟨o,d,v',h,h1,h2,h3,h4,q⟩:=r;exact⟨o,d,v',hk _ h,h1,h2,h3,e.xd _ _ h4,q.mono e⟩
theorem RO.some (r:RO K cm ρ H a o) (m:K1 o=true):∃u,H a=some u:=by
 cases o with
 | lst l=>obtain⟨xs,h,q⟩:=r;exact⟨_,h⟩
 | ro l=>simp [K1] at m
 | dI kvs=>obtain⟨kv,h,q⟩:=r;exact⟨_,h⟩
 | ins c fs=>obtain⟨_,dx,kv,h,q⟩:=r;exact⟨_,h⟩
 | dT kvs=>obtain⟨kv,h,q⟩:=r;exact⟨_,h⟩
 | exc c v=>obtain⟨o,d,v',h,q⟩:=r;exact⟨_,h⟩
theorem K7 {u:L2.HO} (hp:H p=none):∀b v,H b=some v->L2.upd H p u b=some v:=λb v h=>by
 rw [L2.B0 (L2.C9 h hp)];exact h
theorem Ext.same {u:L2.HO} (hp:H p=none):Ext ρ H ρ (L2.upd H p u):=⟨List.prefix_refl _,λa vs h=>K7 hp a _ h,λa vs h=>K7 hp a _ h⟩
theorem Ext.new {u:L2.HO} (hp:H p=none):Ext ρ H (ρ++[p]) (L2.upd H p u):=⟨List.prefix_append _ _,λa vs h=>K7 hp a _ h,λa vs h=>K7 hp a _ h⟩
theorem Rel.grow (r:Rel K cm ρ A H) (e:Ext ρ H ρ H') (hk:∀b v,H b=some v->H' b=some v):Rel K cm ρ A H':=
 ⟨r.len,λn o a h1 h2=>(r.obj n o a h1 h2).keep e (hk a),r.inj⟩
theorem Rel.tup {vs:List L2.V} (r:Rel K cm ρ A H) (hp:H p=none):Rel K cm ρ A (L2.upd H p (.tup vs)):=r.grow (Ext.same hp) (K7 hp)
theorem Rel.alloc {u:L2.HO} (r:Rel K cm ρ A H) (hp:H p=none) (hn:RO K cm (ρ++[p]) (L2.upd H p u) p o) (hm:K1 o=true):Rel K cm (ρ++[p]) (A++[o]) (L2.upd H p u):=by
 have e:Ext ρ H (ρ++[p]) (L2.upd H p u):=Ext.new hp
 have none_new:∀(n:Nat) (q:PO),ρ[n]?=some p->A[n]?=some q->K1 q=true->False:=λn q h1 h2 hq=>by
  obtain⟨v,hv⟩:=(r.obj n q p h2 h1).some hq
  rw [hp] at hv;cases hv
 have split:∀{α:Type} {l:List α} {x y:α} {n:Nat},(l++[x])[n]?=some y->l[n]?=some y\/(n=l.length/\y=x):=λ{α l x y n} h=>by
  by_cases hn:n<l.length
  ·rw [List.getElem?_append_left hn] at h;exact .inl h
  ·rw [List.getElem?_append_right (by omega)] at h
   have:n - l.length=0:=by
    by_cases z:n - l.length=0
    ·exact z
    ·rw [List.getElem?_eq_none (by simp;omega)] at h;cases h
   rw [this] at h
   simp at h
   exact .inr ⟨by omega,h.symm⟩
 refine⟨by simp [r.len],λn q a h1 h2=>?_,λm n a q q' h1 h2 h3 h4 m1 m2=>?_⟩
 ·rcases split h1 with h1 | ⟨rfl,rfl⟩
  ·rcases split h2 with h2 | ⟨rfl,rfl⟩
   ·exact (r.obj n q a h1 h2).keep e (K7 hp a)
   ·rw [r.len,List.getElem?_eq_none (Nat.le_refl _)] at h1;cases h1
  ·rcases split h2 with h2 | ⟨_,rfl⟩
   ·rw [←r.len,List.getElem?_eq_none (Nat.le_refl _)] at h2;cases h2
   ·exact hn
 ·rcases split h1 with g1 | ⟨rfl,ha1⟩ <;> rcases split h2 with g2 | ⟨rfl,ha2⟩
  ·have h3':A[m]?=some q:=by
    rcases split h3 with h3 | ⟨rfl,_⟩
    ·exact h3
    ·rw [←r.len,List.getElem?_eq_none (Nat.le_refl _)] at g1;cases g1
   have h4':A[n]?=some q':=by
    rcases split h4 with h4 | ⟨rfl,_⟩
    ·exact h4
    ·rw [←r.len,List.getElem?_eq_none (Nat.le_refl _)] at g2;cases g2
   exact r.inj m n a q q' g1 g2 h3' h4' m1 m2
  ·have h3':A[m]?=some q:=by
    rcases split h3 with h3 | ⟨rfl,_⟩
    ·exact h3
    ·rw [←r.len,List.getElem?_eq_none (Nat.le_refl _)] at g1;cases g1
   rw [ha2] at g1
   exact (none_new m q g1 h3' m1).elim
  ·have h4':A[n]?=some q':=by
    rcases split h4 with h4 | ⟨rfl,_⟩
    ·exact h4
    ·rw [←r.len,List.getElem?_eq_none (Nat.le_refl _)] at g2;cases g2
   rw [ha1] at g2
   exact (none_new n q' g2 h4' m2).elim
  ·rfl
theorem Ext.put {u:L2.HO} (r:Rel K cm ρ A H) (h1:ρ[n]?=some a) (h2:A[n]?=some o) (m:K1 o=true):Ext ρ H ρ (L2.upd H a u):=by
 have key:∀b w,H b=some w->((∃vs,w=.tup vs)\/∃fs,w=.xd fs)->L2.upd H a u b=some w:=λb w h hw=>by
  have ne:b≠a:=by
   rintro rfl
   have q:=r.obj n o b h2 h1
   cases o with
   | lst l=>obtain⟨xs,z,_⟩:=q;rw [h] at z;cases z;rcases hw with ⟨_,y⟩ | ⟨_,y⟩ <;> cases y
   | ro l=>simp [K1] at m
   | dI kvs=>obtain⟨xs,z,_⟩:=q;rw [h] at z;cases z;rcases hw with ⟨_,y⟩ | ⟨_,y⟩ <;> cases y
   | ins c fs=>obtain⟨_,dx,xs,z,_⟩:=q;rw [h] at z;cases z;rcases hw with ⟨_,y⟩ | ⟨_,y⟩ <;> cases y
   | dT kvs=>obtain⟨xs,z,_⟩:=q;rw [h] at z;cases z;rcases hw with ⟨_,y⟩ | ⟨_,y⟩ <;> cases y
   | exc c v=>obtain⟨o,d,v',z,_⟩:=q;rw [h] at z;cases z;rcases hw with ⟨_,y⟩ | ⟨_,y⟩ <;> cases y
  rw [L2.B0 ne];exact h
 exact⟨List.prefix_refl _,λb vs h=>key b _ h (.inl ⟨_,rfl⟩),λb vs h=>key b _ h (.inr ⟨_,rfl⟩)⟩
theorem Rel.put {u:L2.HO} {o':PO} (r:Rel K cm ρ A H) (h1:ρ[n]?=some a) (h2:A[n]?=some o) (m:K1 o=true) (m':K1 o'=true) (hn:RO K cm ρ (L2.upd H a u) a o'):Rel K cm ρ (A.set n o') (L2.upd H a u):=by
 have e:Ext ρ H ρ (L2.upd H a u):=Ext.put r h1 h2 m
 have hlt:=ap3 h2
 refine⟨by simp [r.len],λk q b hk hb=>?_,λi j b q q' e1 e2 e3 e4 m1 m2=>?_⟩
 ·by_cases hkn:k=n
  ·subst hkn
   rw [Y1 h2] at hk;cases hk
   rw [h1] at hb;cases hb
   exact hn
  ·rw [P5 hkn] at hk
   have q0:=r.obj k q b hk hb
   by_cases hba:b=a
   ·subst hba
    cases hq:K1 q with
    | true=>exact absurd (r.inj k n b q o hb h1 hk h2 hq m) hkn
    | false=>
      cases q with
      | ro l=>
        obtain⟨xs,z,w⟩:=q0
        rcases z with ⟨v,z⟩ | z
        ·obtain⟨v',z'⟩:=(r.obj n o b h2 h1).some m
         have:=r.obj n o b h2 h1
         rw [z] at z';cases z'
         cases o with
         | lst l=>obtain⟨xs,zz,_⟩:=this;rw [z] at zz;cases zz
         | ro l=>simp [K1] at m
         | dI kvs=>obtain⟨xs,zz,_⟩:=this;rw [z] at zz;cases zz
         | ins c fs=>obtain⟨_,dx,xs,zz,_⟩:=this;rw [z] at zz;cases zz
         | dT kvs=>obtain⟨xs,zz,_⟩:=this;rw [z] at zz;cases zz
         | exc c v=>obtain⟨o,d,v',zz,_⟩:=this;rw [z] at zz;cases zz
        ·exact⟨xs,.inr z,w.mono e⟩
      | _=>simp [K1] at hq
   ·exact q0.keep e λv hv=>by rw [L2.B0 hba];exact hv
 ·have f3:∀(k:Nat) (x:PO),(A.set n o')[k]?=some x->K1 x=true->∃y,A[k]?=some y/\K1 y=true:=λk x hk hx=>by
   by_cases hkn:k=n
   ·subst hkn;exact⟨o,h2,m⟩
   ·rw [P5 hkn] at hk;exact⟨x,hk,hx⟩
  obtain⟨y,y1,y2⟩:=f3 i q e3 m1
  obtain⟨z,z1,z2⟩:=f3 j q' e4 m2
  exact r.inj i j b y z e1 e2 y1 z1 y2 z2
end
structure RSt (ρ:List Addr) (H:L2.Hp) (σp:PSt) (σ:L2.St):Prop where
 len:σ.length=σp.length
 get:∀(i:Nat) (p:PV),σp[i]?=some (some p)->∃v,σ[i]?=some (some v)/\RV ρ H p v
theorem RSt.mono {ρ ρ':List Addr} {H H':L2.Hp} {σp:PSt} {σ:L2.St} (h:RSt ρ H σp σ) (e:Ext ρ H ρ' H'):RSt ρ' H' σp σ:=
 ⟨h.len,λi p hp=>let ⟨v,h1,h2⟩:=h.get i p hp;⟨v,h1,h2.mono e⟩⟩
theorem RSt.set {ρ:List Addr} {H:L2.Hp} {σp:PSt} {σ:L2.St} (h:RSt ρ H σp σ) (i:Nat) {x:PV} {v:L2.V} (r:RV ρ H x v):RSt ρ H (σp.set i (some x)) (σ.set i (some v)):=by
 refine⟨by simp [h.len],λj p hp=>?_⟩
 by_cases hij:i=j
 ·subst hij
  by_cases hl:i<σp.length
  ·rw [List.getElem?_set] at hp
   simp [hl] at hp
   subst hp
   exact⟨v,by rw [List.getElem?_set];simp [h.len,hl],r⟩
  ·rw [List.getElem?_eq_none (by simp;omega)] at hp;cases hp
 ·rw [List.getElem?_set_ne hij] at hp ⊢
  exact h.get j p hp
section
variable (K:PySem.W.Frag) (cm:Nat->Addr)
def EvE (d:ED):L2.TE:=λσ H Q=>∃(ρ:List Addr) (A:PHp) (σp:PSt) (v:PV) (A':PHp),Rel K cm ρ A H/\RSt ρ H σp σ/\d σp A=.ok v A'/\
 ∀ρ' H' v',Ext ρ H ρ' H'->Rel K cm ρ' A' H'->RV ρ' H' v v'->Q v' H'
def EvT (d:TD):L2.TT:=λσ H Q=>∃(ρ:List Addr) (A:PHp) (σp:PSt) (b:Bool) (A':PHp),Rel K cm ρ A H/\RSt ρ H σp σ/\d σp A=.ok b A'/\
 ∀ρ' H',Ext ρ H ρ' H'->Rel K cm ρ' A' H'->Q b H'
def EvA (d:AD):L2.TA:=λσ H Q=>∃(ρ:List Addr) (A:PHp) (σp:PSt) (vs:List PV) (A':PHp),Rel K cm ρ A H/\RSt ρ H σp σ/\d σp A=.ok vs A'/\
 ∀ρ' H' vs',Ext ρ H ρ' H'->Rel K cm ρ' A' H'->RVs ρ' H' vs vs'->Q vs' H'
def EvG (g:GD):L2.TG:=λv σ H Q=>∃(ρ:List Addr) (A:PHp) (σp:PSt) (x:PV) (σp':PSt) (A':PHp),Rel K cm ρ A H/\RSt ρ H σp σ/\RV ρ H x v/\g x σp A=.ok σp' A'/\
 ∀ρ' H' σ',Ext ρ H ρ' H'->Rel K cm ρ' A' H'->RSt ρ' H' σp' σ'->Q σ' H'
def ay6 (g:GDs):L2.TGs:=λvs σ H Q=>∃(ρ:List Addr) (A:PHp) (σp:PSt) (xs:List PV) (σp':PSt) (A':PHp),Rel K cm ρ A H/\RSt ρ H σp σ/\RVs ρ H xs vs/\g xs σp A=.ok σp' A'/\
 ∀ρ' H' σ',Ext ρ H ρ' H'->Rel K cm ρ' A' H'->RSt ρ' H' σp' σ'->Q σ' H'
def aJ1 (D:L2.Y7) (ρ:List Addr) (H:L2.Hp):Fl->Prop
 | .nx σp=>∀σ,RSt ρ H σp σ->D.nx σ H
 | .bk σp=>∀σ,RSt ρ H σp σ->D.bk σ H
 | .ct σp=>∀σ,RSt ρ H σp σ->D.ct σ H
 | .rt v=>∀v',RV ρ H v v'->D.rt v' H
def EvS (s:SD):L2.TS:=λD σ H=>∃(ρ:List Addr) (A:PHp) (σp:PSt) (f:Fl) (A':PHp),Rel K cm ρ A H/\RSt ρ H σp σ/\s σp A=.ok f A'/\
 ∀ρ' H',Ext ρ H ρ' H'->Rel K cm ρ' A' H'->aJ1 D ρ' H' f
end
section
variable {X:L2.Cx} {cm:Nat->Addr}
theorem D9 {e:Expr} {t t':L2.TE} (h:L2.PE X e t) (k:∀σ H Q,t' σ H Q->t σ H Q):L2.PE X e t':=λpins s σ H Q I q=>h pins s σ H Q I (k σ H Q q)
theorem Z9 {e:Expr} {t t':L2.TT} (h:L2.PT X e t) (k:∀σ H Q,t' σ H Q->t σ H Q):L2.PT X e t':=λpins s σ H Q I q=>h pins s σ H Q I (k σ H Q q)
theorem aq0 {e:Expr} {t t':L2.TT} (h:L2.PW X e t) (k:∀σ H Q,t' σ H Q->t σ H Q):L2.PW X e t':=λw pins s σ H Q I q=>h w pins s σ H Q I (k σ H Q q)
theorem aq1 {es:List Expr} {t t':L2.TA} (h:L2.PA X es t) (k:∀σ H Q,t' σ H Q->t σ H Q):L2.PA X es t':=λpos pins s σ H Q I q=>h pos pins s σ H Q I (k σ H Q q)
theorem N5 {st:Stmt} {t t':L2.TS} (h:L2.PS X st t) (k:∀D σ H,t' D σ H->t D σ H):L2.PS X st t':=λpins s σ H D I q=>h pins s σ H D I (k D σ H q)
theorem Y2 {st:List Stmt} {t t':L2.TS} (h:L2.PSs X st t) (k:∀D σ H,t' D σ H->t D σ H):L2.PSs X st t':=λpins s σ H D I q=>h pins s σ H D I (k D σ H q)
theorem ad4 {e:Expr} {t t':L2.TG} (h:L2.PG X e t) (k:∀v σ H Q,t' v σ H Q->t v σ H Q):L2.PG X e t':=λpins s σ H v u Q I r q=>h pins s σ H v u Q I r (k v σ H Q q)
theorem af9 {es:List Expr} {t t':L2.TGs} (h:L2.PGs X es t) (k:∀v σ H Q,t' v σ H Q->t v σ H Q):L2.PGs X es t':=λpins s σ H vs us Q I r q=>h pins s σ H vs us Q I r (k vs σ H Q q)
theorem aO9 {i:Nat} {e:Expr} (h:L2.PE X e (L2.tVar i)):L2.PE X e (EvE X.K cm (eVar i)):=D9 h λσ H Q ⟨ρ,A,σp,v,A',r,rs,ev,k⟩=>by
 have:∃p,σp[i]?=some (some p)/\v=p/\A'=A:=by
  unfold eVar at ev
  rcases hσ:σp[i]? with _ | (_ | p)
  ·rw [hσ] at ev;cases ev
  ·rw [hσ] at ev;cases ev
  ·rw [hσ] at ev;cases ev;exact⟨_,rfl,rfl,rfl⟩
 obtain⟨p,hp,rfl,rfl⟩:=this
 obtain⟨u,h1,h2⟩:=rs.get i _ hp
 exact⟨u,h1,k ρ H u (Ext.refl _ _) r h2⟩
theorem r_k {e:Expr} {x:PV} {u:L2.V} (h:L2.PE X e (L2.tC u)) (rv:∀ρ H,RV ρ H x u):L2.PE X e (EvE X.K cm (eK x)):=D9 h λσ H Q ⟨ρ,A,σp,v,A',r,rs,ev,k⟩=>by
 cases ev
 exact k ρ H u (Ext.refl _ _) r (rv ρ H)
theorem r_int {i:Int} {j pos}:L2.PE X (.Constant (.int i) j pos) (EvE X.K cm (eK (.int i))):=r_k L2.am5 λ_ _=>.int i
theorem ad5 {b:Bool} {j pos}:L2.PE X (.Constant (.bool b) j pos) (EvE X.K cm (eK (.bl b))):=r_k L2.aN2 λ_ _=>.bl b
theorem ag0 {j pos}:L2.PE X (.Constant .none j pos) (EvE X.K cm (eK .non)):=r_k L2.aF1 λ_ _=>.non
def K3 (K:PySem.W.Frag) (cm:Nat->Addr) (f:OD) (r:L2.R2):Prop:=∀ρ A H x y z A' vx vy (Q:L2.VK),Rel K cm ρ A H->RV ρ H x vx->RV ρ H y vy->f x y A=.ok z A'->
 (∀ρ' H' v',Ext ρ H ρ' H'->Rel K cm ρ' A' H'->RV ρ' H' z v'->Q v' H')->r vx vy H Q
theorem V9 {f:OD} {r:L2.R2} {a b:ED} (hf:K3 X.K cm f r) {σ:L2.St} {H:L2.Hp} {Q:L2.VK} (h:EvE X.K cm (A9 f a b) σ H Q):L2.tOp r (EvE X.K cm a) (EvE X.K cm b) σ H Q:=by
 obtain⟨ρ,A,σp,z,A',rl,rs,ev,k⟩:=h
 obtain⟨x,A1,e1,ev⟩:=A5 ev
 obtain⟨y,A2,e2,ev⟩:=A5 ev
 exact⟨ρ,A,σp,x,A1,rl,rs,e1,λρ1 H1 vx x1 rl1 rv1=>⟨ρ1,A1,σp,y,A2,rl1,rs.mono x1,e2,λρ2 H2 vy x2 rl2 rv2=>hf ρ2 A2 H2 x y z A' vx vy Q rl2 (rv1.mono x2) rv2 ev λρ3 H3 v3 x3 rl3 rv3=>k ρ3 H3 v3 ((x1.trans x2).trans x3) rl3 rv3⟩⟩
theorem r_bin {op:Operator} {f:OD} {r:L2.R2} {a b:Expr} {da db:ED} {pos:Pos} (ho:L2.OpR X (binaryOp op) r) (hf:K3 X.K cm f r) (ha:L2.PE X a (EvE X.K cm da)) (hb:L2.PE X b (EvE X.K cm db)):L2.PE X (.BinOp a op b pos) (EvE X.K cm (A9 f da db)):=
 D9 (L2.aN9 ho ha hb) λσ H Q h=>V9 hf h
theorem r_cmp {op:CmpOp} {f:OD} {r:L2.R2} {a b:Expr} {da db:ED} {pos:Pos} (ho:L2.OpR X (compareOp op) r) (hf:K3 X.K cm f r) (ha:L2.PE X a (EvE X.K cm da)) (hb:L2.PE X b (EvE X.K cm db)) (hm:behindInMarks op b=false):L2.PE X (.Compare a [op] [b] pos) (EvE X.K cm (A9 f da db)):=
 D9 (L2.ax2 ho ha hb hm) λσ H Q h=>V9 hf h
theorem U3 {d:ED} {t:L2.TE} (h:∀σ H Q,EvE X.K cm d σ H Q->t σ H Q) {σ:L2.St} {H:L2.Hp} {Q:Bool->L2.Hp->Prop} (q:EvT X.K cm (E8 d) σ H Q):L2.y8 t σ H Q:=by
 obtain⟨ρ,A,σp,b,A',rl,rs,ev,k⟩:=q
 obtain⟨x,A1,e1,ev⟩:=A5 ev
 refine h σ H _ ⟨ρ,A,σp,x,A1,rl,rs,e1,λρ1 H1 v1 x1 rl1 rv1=>?_⟩
 cases x with
 | bl c=>
   cases ev
   cases rv1
   exact⟨_,rfl,k ρ1 H1 x1 rl1⟩
 | _=>cases ev
theorem D7 {op:CmpOp} {f:OD} {r:L2.R2} {a b:Expr} {da db:ED} {pos:Pos} (ho:L2.OpR X (compareOp op) r) (hf:K3 X.K cm f r) (ha:L2.PE X a (EvE X.K cm da)) (hb:L2.PE X b (EvE X.K cm db)) (hm:behindInMarks op b=false):L2.PT X (.Compare a [op] [b] pos) (EvT X.K cm (E8 (A9 f da db))):=
 Z9 (L2.ax3 ho ha hb hm) λσ H Q h=>U3 (λ_ _ _=>V9 hf) h
theorem aq2 {e:Expr} {d:ED} (h:L2.PE X e (EvE X.K cm d)) (he:∀whole,isTrue e X.env whole=(do let v ←whole;standAt e.pos;holding [v] (truthy v)):=by intro _;rfl):L2.PT X e (EvT X.K cm (E8 d)):=
 Z9 (L2.aF5 h he) λσ H Q q=>U3 (λ_ _ _ z=>z) q
theorem okI {f:OD} {g:Int->Int->PV} {g':Int->Int->L2.V} {C:Int->Int->Prop} (h:∀x y A z A',f x y A=.ok z A'->∃i j,x=.int i/\y=.int j/\C i j/\z=g i j/\A'=A) (hg:∀ρ H i j,RV ρ H (g i j) (g' i j)) (K:PySem.W.Frag) (cm:Nat->Addr):K3 K cm f (L2.rI C g'):=
 λρ A H x y z A' vx vy Q rl rx ry ev k=>by
  obtain⟨i,j,rfl,rfl,hc,rfl,rfl⟩:=h _ _ _ _ _ ev
  cases rx;cases ry
  exact⟨i,j,rfl,rfl,hc,k ρ H _ (Ext.refl _ _) rl (hg _ _ _ _)⟩
theorem ay7 {f:OD} {g:Int->Int->PV} {g':Int->Int->L2.V} (h:∀x y A z A',f x y A=.ok z A'->∃i j,x=.int i/\y=.int j/\z=g i j/\A'=A) (hg:∀ρ H i j,RV ρ H (g i j) (g' i j)) (K:PySem.W.Frag) (cm:Nat->Addr):K3 K cm f (L2.rI0 g'):=
 λρ A H x y z A' vx vy Q rl rx ry ev k=>by
  obtain⟨i,j,rfl,rfl,rfl,rfl⟩:=h _ _ _ _ _ ev
  cases rx;cases ry
  exact⟨i,j,rfl,rfl,k ρ H _ (Ext.refl _ _) rl (hg _ _ _ _)⟩
theorem aJ2:K3 X.K cm aI3 (L2.rI0 λi j=>.int (i - j)):=ay7 (g:=λi j=>.int (i - j)) (λx y A z A' h=>by cases x <;> cases y <;> first | (cases h;exact⟨_,_,rfl,rfl,rfl,rfl⟩) | cases h) (λ_ _ _ _=>.int _) _ _
theorem ag1:K3 X.K cm oLt (L2.rI0 λi j=>.bl (decide (i<j))):=ay7 (g:=λi j=>.bl (decide (i<j))) (λx y A z A' h=>by cases x <;> cases y <;> first | (cases h;exact⟨_,_,rfl,rfl,rfl,rfl⟩) | cases h) (λ_ _ _ _=>.bl _) _ _
theorem aD4:K3 X.K cm oLe (L2.rI0 λi j=>.bl (decide (i<=j))):=ay7 (g:=λi j=>.bl (decide (i<=j))) (λx y A z A' h=>by cases x <;> cases y <;> first | (cases h;exact⟨_,_,rfl,rfl,rfl,rfl⟩) | cases h) (λ_ _ _ _=>.bl _) _ _
theorem aP0:K3 X.K cm oGt (L2.rI0 λi j=>.bl (decide (j<i))):=ay7 (g:=λi j=>.bl (decide (j<i))) (λx y A z A' h=>by cases x <;> cases y <;> first | (cases h;exact⟨_,_,rfl,rfl,rfl,rfl⟩) | cases h) (λ_ _ _ _=>.bl _) _ _
theorem ok_mod:K3 X.K cm M1 (L2.rI (λ_ j=>0<j) λi j=>.int (i%j)):=okI (g:=λi j=>.int (i%j)) (λx y A z A' h=>by
 cases x <;> cases y <;> first | (obtain⟨c,h⟩:=B6 h;cases h;exact⟨_,_,rfl,rfl,c,rfl,rfl⟩) | cases h) (λ_ _ _ _=>.int _) _ _
theorem ok_fdiv:K3 X.K cm Z1 (L2.rI L2.aO2 λi j=>.int (i / j)):=okI (g:=λi j=>.int (i / j)) (λx y A z A' h=>by
 cases x <;> cases y <;> first | (obtain⟨c,h⟩:=B6 h;cases h;exact⟨_,_,rfl,rfl,c,rfl,rfl⟩) | cases h) (λ_ _ _ _=>.int _) _ _
theorem aq3:K3 X.K cm aI4 (L2.rI L2.CMul λi j=>.int (i*j)):=okI (g:=λi j=>.int (i*j)) (λx y A z A' h=>by
 cases x <;> cases y <;> first | (obtain⟨c,h⟩:=B6 h;cases h;exact⟨_,_,rfl,rfl,c,rfl,rfl⟩) | cases h) (λ_ _ _ _=>.int _) _ _
end
section
variable {K:PySem.W.Frag} {ρ:List Addr} {H:L2.Hp} {A:PHp} {n:Nat} {v:L2.V} {l:List PV}
theorem E6 {cm:Nat->Addr} {A':PHp} (rl:Rel K cm ρ A H) (r:RV ρ H (.ref n) v) (h:C7 n A=.ok l A'):A'=A/\∃a xs,v=.ref a/\L2.SqL K H a xs/\RVs ρ H l xs:=by
 cases r with
 | ref hn=>
   unfold C7 at h
   rcases hA:A[n]? with _ | o
   ·rw [hA] at h;cases h
   ·have q:=rl.obj n o _ hA hn
    cases o with
    | lst m=>rw [hA] at h;cases h;obtain⟨xs,h1,h2⟩:=q;exact⟨rfl,_,xs,rfl,L2.SqL.of h1,h2⟩
    | ro m=>rw [hA] at h;cases h;obtain⟨xs,h1,h2⟩:=q;exact⟨rfl,_,xs,rfl,h1.sq,h2⟩
    | dI m=>rw [hA] at h;cases h
    | ins c m=>rw [hA] at h;cases h
    | dT m=>rw [hA] at h;cases h
    | exc c m=>rw [hA] at h;cases h
theorem Q9 {cm:Nat->Addr} {A':PHp} (rl:Rel K cm ρ A H) (r:RV ρ H (.ref n) v) (h:N7 n A=.ok l A'):A'=A/\A[n]?=some (.lst l)/\∃a xs,v=.ref a/\ρ[n]?=some a/\H a=some (.lst xs)/\RVs ρ H l xs:=by
 cases r with
 | ref hn=>
   unfold N7 at h
   rcases hA:A[n]? with _ | o
   ·rw [hA] at h;cases h
   ·have q:=rl.obj n o _ hA hn
    cases o with
    | lst m=>rw [hA] at h;cases h;obtain⟨xs,h1,h2⟩:=q;exact⟨rfl,rfl,_,xs,rfl,hn,h1,h2⟩
    | ro m=>rw [hA] at h;cases h
    | dI m=>rw [hA] at h;cases h
    | ins c m=>rw [hA] at h;cases h
    | dT m=>rw [hA] at h;cases h
    | exc c m=>rw [hA] at h;cases h
theorem z9 {cm:Nat->Addr} {x:PV} {A':PHp} (rl:Rel K cm ρ A H) (r:RV ρ H x v) (h:Q6 x A=.ok l A'):A'=A/\∃a xs,v=.ref a/\(L2.SqL K H a xs\/L2.SqT K H a xs)/\RVs ρ H l xs:=by
 cases x with
 | ref n=>
   obtain⟨e,a,xs,h1,h2,h3⟩:=E6 rl r h
   exact⟨e,a,xs,h1,.inl h2,h3⟩
 | tup m=>
   cases h
   cases r with
   | tup h1 h2=>exact⟨rfl,_,_,rfl,.inr (L2.SqT.of h1),h2⟩
 | _=>cases h
theorem aJ3 {α:Type} (xs:List α) (i:Int):L2.atI xs i=atI xs i:=rfl
theorem RVs.at {xs:List L2.V} {i:Int} {x:PV} (r:RVs ρ H l xs) (h:atI l i=some x):∃u,L2.atI xs i=some u/\RV ρ H x u:=by
 rw [aJ3]
 unfold atI at h ⊢
 rw [←r.length]
 rcases e:ixN l.length i with _ | j
 ·rw [e] at h;cases h
 ·rw [e] at h
  obtain⟨u,h1,h2⟩:=r.get (i:=j) h
  exact⟨u,h1,h2⟩
theorem K8 (n d:Nat) (o:Option Int):HT.sIx n d o=G0 n d o:=by
 cases o with
 | none=>rfl
 | some v=>
   have e:=HT.clip_eq v n d
   show HT.sIx n d (some v)=if v<0 then (max (v+n) 0).toNat else (min v n).toNat
   by_cases h:v<0
   ·rw [if_pos h] at e ⊢;omega
   ·rw [if_neg h] at e ⊢;omega
theorem RVs.slc {xs:List L2.V} (r:RVs ρ H l xs) (lo hi:Option Int):RVs ρ H (cut l lo hi) (L2.j8 xs lo hi):=by
 unfold cut L2.j8
 rw [K8,K8,←r.length]
 exact (r.drop _).take _
end
theorem N8 {n:Nat} (h:n<=LIM):n<=sizeLine:=Nat.le_trans h (by unfold LIM;rw [sizeLine_eq];decide)
theorem aJ4 {n:Nat} (h:n<LIM):n<sizeLine:=Nat.lt_of_lt_of_le h (by unfold LIM;rw [sizeLine_eq];decide)
section
variable {X:L2.Cx} {cm:Nat->Addr}
def aq4 (K:PySem.W.Frag):L2.R2:=λx y H Q=>(∃i j,x=.int i/\y=.int j/\Q (.int (i+j)) H)\/(L2.aC8 K x y H Q\/L2.rCat x y H Q)
theorem op_add3:L2.OpR X (binaryOp .Add) (aq4 X.K):=L2.op_add.or (L2.op_catT.or L2.aI0)
theorem ok_add:K3 X.K cm N4 (aq4 X.K):=λρ A H x y z A' vx vy Q rl rx ry ev k=>by
 cases x with
 | int i=>
   cases y with
   | int j=>cases ev;cases rx;cases ry;exact .inl ⟨i,j,rfl,rfl,k ρ H _ (Ext.refl _ _) rl (.int _)⟩
   | _=>cases ev
 | tup l=>
   cases y with
   | tup m=>
     obtain⟨c,ev⟩:=B6 ev
     cases ev
     cases rx with
     | tup h1 r1=>
       cases ry with
       | tup h2 r2=>
         refine .inr (.inl ⟨_,_,_,_,rfl,rfl,L2.SqT.of h1,L2.SqT.of h2,?_,?_,?_⟩)
         ·intro e;subst e;have:=r1.length;exact c.1 (List.length_eq_zero_iff.mp (by simpa using this))
         ·rw [←r1.length,←r2.length];exact N8 c.2
         ·refine⟨λz=>?_,λ_ p hp=>?_⟩
          ·subst z
           cases r2
           refine k ρ H _ (Ext.refl _ _) rl ?_
           rw [List.append_nil];exact .tup h1 r1
          ·refine k ρ _ _ (Ext.same hp) (rl.tup hp) (.tup L2.B9 ?_)
           exact (r1.mono (Ext.same hp)).append (r2.mono (Ext.same hp))
   | _=>cases ev
 | ref n=>
   cases y with
   | ref m=>
     obtain⟨l1,A1,e1,ev1⟩:=A5 ev
     obtain⟨rfl,_,a,xs,rfl,_,ha,r1⟩:=Q9 rl rx e1
     obtain⟨l2,A2,e2,ev2⟩:=A5 ev1
     obtain⟨rfl,_,b,ys,rfl,_,hb,r2⟩:=Q9 rl ry e2
     obtain⟨c,ev3⟩:=B6 ev2
     cases ev3
     refine .inr (.inr ⟨a,b,xs,ys,rfl,rfl,ha,hb,?_,λp hp=>?_⟩)
     ·rw [←r1.length,←r2.length];exact N8 c
     ·have e:Ext ρ H (ρ++[p]) (L2.upd H p (.lst (xs++ys))):=Ext.new hp
      exact k (ρ++[p]) _ _ e (rl.alloc hp ⟨_,L2.B9,(r1.mono e).append (r2.mono e)⟩ rfl) (.ref (by rw [←rl.len];simp))
   | _=>cases ev
 | _=>cases y <;> cases ev
def aP1 (K:PySem.W.Frag):L2.R2:=λx y H Q=>L2.aO6 K x y H Q\/L2.aO7 K x y H Q
theorem ix2:L2.IxR X (aP1 X.K):=L2.ix_list.or L2.aH7
theorem aP2:K3 X.K cm oIx (aP1 X.K):=λρ A H x y z A' vx vy Q rl rx ry ev k=>by
 cases y with
 | int i=>
   obtain⟨l,A1,e1,ev1⟩:=A5 ev
   obtain⟨rfl,a,xs,rfl,hs,rs⟩:=z9 rl rx e1
   rcases hi:atI l i with _ | u
   ·rw [hi] at ev1;cases ev1
   ·rw [hi] at ev1
    cases ev1
    cases ry
    obtain⟨w,hw,rw'⟩:=rs.at hi
    rcases hs with hs | hs
    ·exact .inl ⟨a,xs,i,w,rfl,rfl,hs,hw,k ρ H w (Ext.refl _ _) rl rw'⟩
    ·exact .inr ⟨a,xs,i,w,rfl,rfl,hs,hw,k ρ H w (Ext.refl _ _) rl rw'⟩
 | _=>cases ev
theorem r_ix {a b:Expr} {da db:ED} {pos:Pos} (ha:L2.PE X a (EvE X.K cm da)) (hb:L2.PE X b (EvE X.K cm db)) (hs:L2.r9 b):L2.PE X (.Subscript a b pos) (EvE X.K cm (A9 oIx da db)):=
 D9 (L2.aC9 ix2 ha hb hs) λσ H Q h=>V9 aP2 h
theorem aq5 {ρ:List Addr} {H:L2.Hp} {x:PV} {v:L2.V} (r:RV ρ H x v):decide (v=.non)=af7 x:=by
 cases r <;> simp [af7]
theorem ad6 {a:Expr} {da:ED} {j:Nat} {pos pos':Pos} (ha:L2.PE X a (EvE X.K cm da)):L2.PT X (.Compare a [.Is] [.Constant .none j pos'] pos) (EvT X.K cm (E8 (ap0 da))):=
 Z9 (L2.aF4 (L2.aF3 ha)) λσ H Q q=>U3 (t:=L2.aN3 (EvE X.K cm da)) (λσ H Q ⟨ρ,A,σp,v,A',rl,rs,ev,k⟩=>by
  obtain⟨x,A1,e1,ev⟩:=A5 ev
  cases ev
  exact⟨ρ,A,σp,x,A',rl,rs,e1,λρ1 H1 v1 x1 rl1 rv1=>k ρ1 H1 _ x1 rl1 (by rw [aq5 rv1];exact .bl _)⟩) q
theorem aq6 {f g:OD} {r r':L2.R2} {a b c:ED} (hf:K3 X.K cm f r) (hg:K3 X.K cm g r') {σ:L2.St} {H:L2.Hp} {Q:L2.VK} (h:EvE X.K cm (t5 f g a b c) σ H Q):L2.ao1 r r' (EvE X.K cm a) (EvE X.K cm b) (EvE X.K cm c) σ H Q:=by
 obtain⟨ρ,A,σp,z,A',rl,rs,ev,k⟩:=h
 obtain⟨x,A1,e1,ev⟩:=A5 ev
 obtain⟨y,A2,e2,ev⟩:=A5 ev
 obtain⟨m,A3,e3,ev⟩:=A5 ev
 refine⟨ρ,A,σp,x,A1,rl,rs,e1,λρ1 H1 vx x1 rl1 rv1=>⟨ρ1,A1,σp,y,A2,rl1,rs.mono x1,e2,λρ2 H2 vy x2 rl2 rv2=>hf ρ2 A2 H2 x y m A3 vx vy _ rl2 (rv1.mono x2) rv2 e3 λρ3 H3 v3 x3 rl3 rv3=>?_⟩⟩
 have x13:=(x1.trans x2).trans x3
 cases m with
 | bl t=>
   cases rv3
   refine⟨t,rfl,?_⟩
   cases t with
   | true=>
     rw [if_pos rfl]
     obtain⟨u,A4,e4,ev⟩:=A5 ev
     exact⟨ρ3,A3,σp,u,A4,rl3,rs.mono x13,e4,λρ4 H4 v4 x4 rl4 rv4=>hg ρ4 A4 H4 y u z A' vy v4 Q rl4 ((rv2.mono x3).mono x4) rv4 ev λρ5 H5 v5 x5 rl5 rv5=>k ρ5 H5 v5 ((x13.trans x4).trans x5) rl5 rv5⟩
   | false=>
     rw [if_neg (by simp)]
     cases ev
     exact k ρ3 H3 _ x13 rl3 (.bl false)
 | _=>cases ev
theorem aq7 {op op':CmpOp} {f g:OD} {r r':L2.R2} {a b c:Expr} {da db dc:ED} {pos:Pos} (ho:L2.OpR X (compareOp op) r) (hf:K3 X.K cm f r) (ho':L2.OpR X (compareOp op') r') (hg:K3 X.K cm g r')
 (ha:L2.PE X a (EvE X.K cm da)) (hb:L2.PE X b (EvE X.K cm db)) (hc:L2.PE X c (EvE X.K cm dc)) (hm:lastMarks [op,op'] [b,c]=false:=by with_unfolding_all rfl):L2.PT X (.Compare a [op,op'] [b,c] pos) (EvT X.K cm (E8 (t5 f g da db dc))):=
 Z9 (L2.ao2 ho ho' ha hb hc hm) λσ H Q h=>U3 (λ_ _ _=>aq6 hf hg) h
theorem ad7 {a:Expr} {t:TD} {pos:Pos} (h:L2.PT X a (EvT X.K cm t)):L2.PT X (.UnaryOp .Not a pos) (EvT X.K cm (tNot t)):=Z9 (L2.aF8 h) λσ H Q ⟨ρ,A,σp,b,A',rl,rs,ev,k⟩=>by
 obtain⟨c,A1,e1,ev⟩:=A5 ev
 cases ev
 exact⟨ρ,A,σp,c,A',rl,rs,e1,λρ1 H1 x1 rl1=>k ρ1 H1 x1 rl1⟩
theorem u5 {a:Expr} {t:TD} {pos:Pos} (h:L2.PT X a (EvT X.K cm t)):L2.PW X (.BoolOp .And [a] pos) (EvT X.K cm t):=L2.aw7 h
theorem u6 {a:Expr} {t:TD} {pos:Pos} (h:L2.PT X a (EvT X.K cm t)):L2.PW X (.BoolOp .Or [a] pos) (EvT X.K cm t):=L2.aF6 h
theorem ad8 {a b:Expr} {rest:List Expr} {t u:TD} {pos:Pos} (ha:L2.PT X a (EvT X.K cm t)) (hb:L2.PW X (.BoolOp .And (b::rest) pos) (EvT X.K cm u)):L2.PW X (.BoolOp .And (a::b::rest) pos) (EvT X.K cm (tAnd t u)):=
 aq0 (L2.aF7 ha hb) λσ H Q ⟨ρ,A,σp,z,A',rl,rs,ev,k⟩=>by
  obtain⟨c,A1,e1,ev⟩:=A5 ev
  refine⟨ρ,A,σp,c,A1,rl,rs,e1,λρ1 H1 x1 rl1=>?_⟩
  cases c with
  | true=>rw [if_pos rfl] at ev ⊢;exact⟨ρ1,A1,σp,z,A',rl1,rs.mono x1,ev,λρ2 H2 x2 rl2=>k ρ2 H2 (x1.trans x2) rl2⟩
  | false=>rw [if_neg (by simp)] at ev ⊢;cases ev;exact k ρ1 H1 x1 rl1
theorem ag2 {a b:Expr} {rest:List Expr} {t u:TD} {pos:Pos} (ha:L2.PT X a (EvT X.K cm t)) (hb:L2.PW X (.BoolOp .Or (b::rest) pos) (EvT X.K cm u)):L2.PW X (.BoolOp .Or (a::b::rest) pos) (EvT X.K cm (tOr t u)):=
 aq0 (L2.aN4 ha hb) λσ H Q ⟨ρ,A,σp,z,A',rl,rs,ev,k⟩=>by
  obtain⟨c,A1,e1,ev⟩:=A5 ev
  refine⟨ρ,A,σp,c,A1,rl,rs,e1,λρ1 H1 x1 rl1=>?_⟩
  cases c with
  | true=>rw [if_pos rfl] at ev ⊢;cases ev;exact k ρ1 H1 x1 rl1
  | false=>rw [if_neg (by simp)] at ev ⊢;exact⟨ρ1,A1,σp,z,A',rl1,rs.mono x1,ev,λρ2 H2 x2 rl2=>k ρ2 H2 (x1.trans x2) rl2⟩
theorem ay8 {x:PV} {A A':PHp} {c:Bool} (h:asB x A=.ok c A'):x=.bl c/\A'=A:=by
 cases x with
 | bl b=>cases h;exact⟨rfl,rfl⟩
 | _=>cases h
theorem aP3 {a:Expr} {d:ED} {pos:Pos} (h:L2.PE X a (EvE X.K cm d)):L2.PE X (.BoolOp .Or [a] pos) (EvE X.K cm d):=L2.aF9 h
theorem aT8 {a b:Expr} {rest:List Expr} {d u:ED} {pos:Pos} (ha:L2.PE X a (EvE X.K cm d)) (hb:L2.PE X (.BoolOp .Or (b::rest) pos) (EvE X.K cm u)):L2.PE X (.BoolOp .Or (a::b::rest) pos) (EvE X.K cm (eOr d u)):=
 D9 (L2.aN5 ha hb) λσ H Q ⟨ρ,A,σp,z,A',rl,rs,ev,k⟩=>by
  obtain⟨c,A1,e1,ev⟩:=A5 ev
  obtain⟨x,A0,e0,e1⟩:=A5 e1
  obtain⟨rfl,rfl⟩:=ay8 e1
  refine⟨ρ,A,σp,_,_,rl,rs,e0,λρ1 H1 v1 x1 rl1 rv1=>?_⟩
  cases rv1
  refine⟨c,rfl,?_⟩
  cases c with
  | true=>rw [if_pos rfl] at ev ⊢;cases ev;exact k ρ1 H1 _ x1 rl1 (.bl true)
  | false=>rw [if_neg (by simp)] at ev ⊢;exact⟨ρ1,_,σp,z,A',rl1,rs.mono x1,ev,λρ2 H2 v2 x2 rl2=>k ρ2 H2 v2 (x1.trans x2) rl2⟩
theorem r_nil:L2.PA X [] (EvA X.K cm aNil):=aq1 L2.ao3 λσ H Q ⟨ρ,A,σp,vs,A',rl,rs,ev,k⟩=>by
 cases ev
 exact k ρ H [] (Ext.refl _ _) rl .nil
theorem r_cons {e:Expr} {es:List Expr} {d:ED} {ds:AD} (h:L2.PE X e (EvE X.K cm d)) (hr:L2.PA X es (EvA X.K cm ds)) (hs:starEach (e::es) X.env=(false,eval e X.env)::starEach es X.env:=by exact D2 rfl):L2.PA X (e::es) (EvA X.K cm (aCons d ds)):=
 aq1 (L2.r6 h hr hs) λσ H Q ⟨ρ,A,σp,vs,A',rl,rs,ev,k⟩=>by
  obtain⟨x,A1,e1,ev⟩:=A5 ev
  obtain⟨xs,A2,e2,ev⟩:=A5 ev
  cases ev
  exact⟨ρ,A,σp,x,A1,rl,rs,e1,λρ1 H1 v1 x1 rl1 rv1=>⟨ρ1,A1,σp,xs,A',rl1,rs.mono x1,e2,λρ2 H2 vs2 x2 rl2 rv2=>k ρ2 H2 _ (x1.trans x2) rl2 (.cons (rv1.mono x2) rv2)⟩⟩
theorem Q1 {es:List Expr} {ds:AD} {x1:Nat} {pos:Pos} (h:L2.PA X es (EvA X.K cm ds)):L2.PE X (.Tuple es x1 pos) (EvE X.K cm (U1 ds)):=
 D9 (L2.aH2 h) λσ H Q ⟨ρ,A,σp,v,A',rl,rs,ev,k⟩=>by
  obtain⟨xs,A1,e1,ev⟩:=A5 ev
  obtain⟨c,ev⟩:=B6 ev
  cases ev
  refine⟨ρ,A,σp,xs,A',rl,rs,e1,λρ1 H1 vs1 x1 rl1 rv1=>⟨by rw [←rv1.length];exact N8 c,λp hp=>?_⟩⟩
  have e:Ext ρ1 H1 ρ1 (L2.upd H1 p (.tup vs1)):=Ext.same hp
  exact k ρ1 _ _ (x1.trans e) (rl1.tup hp) (.tup L2.B9 (rv1.mono e))
theorem r_lst {es:List Expr} {ds:AD} {pos:Pos} (h:L2.PA X es (EvA X.K cm ds)):L2.PE X (.List es pos) (EvE X.K cm (L7 ds)):=
 D9 (L2.aH3 h) λσ H Q ⟨ρ,A,σp,v,A',rl,rs,ev,k⟩=>by
  obtain⟨xs,A1,e1,ev⟩:=A5 ev
  obtain⟨c,ev⟩:=B6 ev
  cases ev
  refine⟨ρ,A,σp,xs,A1,rl,rs,e1,λρ1 H1 vs1 x1 rl1 rv1=>⟨by rw [←rv1.length];exact N8 c,λp hp=>?_⟩⟩
  have e:Ext ρ1 H1 (ρ1++[p]) (L2.upd H1 p (.lst vs1)):=Ext.new hp
  exact k (ρ1++[p]) _ _ (x1.trans e) (rl1.alloc hp ⟨_,L2.B9,rv1.mono e⟩ rfl) (.ref (by rw [←rl1.len];simp))
def EvL (K:PySem.W.Frag) (cm:Nat->Addr) (d:LD):L2.TO:=λσ H Q=>∃(ρ:List Addr) (A:PHp) (σp:PSt) (v:Option Int) (A':PHp),Rel K cm ρ A H/\RSt ρ H σp σ/\d σp A=.ok v A'/\
 ∀ρ' H',Ext ρ H ρ' H'->Rel K cm ρ' A' H'->Q v H'
theorem aq8 {e:Option Expr} {t t':L2.TO} (h:L2.PO X e t) (k:∀σ H Q,t' σ H Q->t σ H Q):L2.PO X e t':=λpins s σ H Q I q=>h pins s σ H Q I (k σ H Q q)
theorem r_lno:L2.PO X none (EvL X.K cm lNo):=aq8 L2.ax7 λσ H Q ⟨ρ,A,σp,v,A',rl,rs,ev,k⟩=>by
 cases ev;exact k ρ H (Ext.refl _ _) rl
theorem r_lat {e:Expr} {d:ED} (h:L2.PE X e (EvE X.K cm d)):L2.PO X (some e) (EvL X.K cm (lAt d)):=aq8 (L2.ax8 h) λσ H Q ⟨ρ,A,σp,v,A',rl,rs,ev,k⟩=>by
 obtain⟨x,A1,e1,ev1⟩:=A5 ev
 refine⟨ρ,A,σp,x,A1,rl,rs,e1,λρ1 H1 v1 x1 rl1 rv1=>?_⟩
 cases x with
 | int i=>cases ev1;cases rv1;exact⟨i,rfl,k ρ1 H1 x1 rl1⟩
 | _=>cases ev1
theorem r_cut {e:Expr} {lo hi:Option Expr} {d:ED} {dl dh:LD} {p2 pos:Pos} (he:L2.PE X e (EvE X.K cm d)) (hl:L2.PO X lo (EvL X.K cm dl)) (hu:L2.PO X hi (EvL X.K cm dh)):L2.PE X (.Subscript e (.Slice lo hi none p2) pos) (EvE X.K cm (V6 d dl dh)):=
 D9 (L2.z0 (L2.sl_list.or L2.ao5) he hl hu) λσ H Q ⟨ρ,A,σp,v,A',rl,rs,ev,k⟩=>by
  obtain⟨x,A1,e1,ev1⟩:=A5 ev
  obtain⟨l,A2,e2,ev2⟩:=A5 ev1
  obtain⟨h,A3,e3,ev3⟩:=A5 ev2
  refine⟨ρ,A,σp,x,A1,rl,rs,e1,λρ1 H1 v1 x1 rl1 rv1=>⟨ρ1,A1,σp,l,A2,rl1,rs.mono x1,e2,λρ2 H2 x2 rl2=>⟨ρ2,A2,σp,h,A3,rl2,(rs.mono x1).mono x2,e3,λρ3 H3 x3 rl3=>?_⟩⟩⟩
  have x13:=(x1.trans x2).trans x3
  have rv3:=rv1.mono (x2.trans x3)
  cases x with
  | ref n=>
    obtain⟨xs,A4,e4,ev4⟩:=A5 ev3
    obtain⟨rfl,a,vs,rfl,hs,r⟩:=E6 rl3 rv3 e4
    cases ev4
    refine .inl ⟨a,vs,rfl,hs,λp hp=>?_⟩
    have e:Ext ρ3 H3 (ρ3++[p]) (L2.upd H3 p (.lst (L2.j8 vs l h))):=Ext.new hp
    exact k (ρ3++[p]) _ _ (x13.trans e) (rl3.alloc hp ⟨_,L2.B9,(r.slc l h).mono e⟩ rfl) (.ref (by rw [←rl3.len];simp))
  | tup xs=>
    obtain⟨c,ev4⟩:=B6 ev3
    cases ev4
    cases rv3 with
    | tup ha r=>
      refine .inr ⟨_,_,rfl,L2.SqT.of ha,by rw [K8,K8,←r.length];exact c,λp hp=>?_⟩
      exact k ρ3 _ _ (x13.trans (Ext.same hp)) (rl3.tup hp) (.tup L2.B9 ((r.slc l h).mono (Ext.same hp)))
  | _=>cases ev3
theorem T5 {d:ED} {f:PV->M PV} {r:List L2.V->L2.Hp->L2.VK->Prop} {e:ED} (he:∀σ,e σ=bnd (d σ) f)
 (hf:∀ρ A H x z A' v (Q:L2.VK),Rel X.K cm ρ A H->RV ρ H x v->f x A=.ok z A'->(∀ρ' H' v',Ext ρ H ρ' H'->Rel X.K cm ρ' A' H'->RV ρ' H' z v'->Q v' H')->r [v] H Q)
 {σ:L2.St} {H:L2.Hp} {Q:L2.VK} (h:EvE X.K cm e σ H Q):L2.tCB r (EvA X.K cm (aCons d aNil)) σ H Q:=by
 obtain⟨ρ,A,σp,z,A',rl,rs,ev,k⟩:=h
 rw [he] at ev
 obtain⟨x,A1,e1,ev1⟩:=A5 ev
 refine⟨ρ,A,σp,[x],A1,rl,rs,by show bnd (d σp) _ A=_;rw [bnd_ok e1];rfl,λρ1 H1 vs1 x1 rl1 rv1=>?_⟩
 cases rv1 with
 | cons hv hr=>
   cases hr
   exact hf ρ1 A1 H1 x z A' _ Q rl1 hv ev1 λρ2 H2 v2 x2 rl2 rv2=>k ρ2 H2 v2 (x1.trans x2) rl2 rv2
theorem d3 {e:Expr} {d:ED} {p pos:Pos} (he:L2.PE X e (EvE X.K cm d)) (hg:L2.Gl X "len") (hm:X.mg "len" = none) (hs:starEach [e] X.env=(false,eval e X.env)::starEach [] X.env:=by exact D2 rfl):L2.PE X (.Call (.Name "len" p) [e] [] pos) (EvE X.K cm (t6 d)):=
 D9 (L2.T9 L2.s9 hg hm PySem.boot_len (r_cons he r_nil hs) (he:=hs)) λσ H Q h=>T5 (f:=λx=>bnd (Q6 x) λl=>ret (.int l.length)) (λ_=>rfl) (λρ A H x z A' v Q rl rx ev k=>by
  obtain⟨l,A1,e1,ev1⟩:=A5 ev
  obtain⟨rfl,a,xs,rfl,hq,r⟩:=z9 rl rx e1
  cases ev1
  exact⟨a,xs,rfl,hq,k ρ H _ (Ext.refl _ _) rl (by rw [←r.length];exact .int _)⟩) h
theorem R0 {o e:Expr} {d u:ED} {apos cpos:Pos} (ho:L2.PE X o (EvE X.K cm d)) (he:L2.PE X e (EvE X.K cm u))
 (hb:attributeBase o "append" X.env (eval o X.env)=eval o X.env:=by rfl) (hs:starEach [e] X.env=(false,eval e X.env)::starEach [] X.env:=by exact D2 rfl)
 (hfew:((backTo cpos (starEach [e] X.env)).all (λx=>!x.1)&&(backToKw cpos (keywordEach [] X.env)).all (λx=>x.1.isSome)&&decide ([e].length+([]:List Keyword).length+(if ([]:List Keyword).isEmpty then 0 else 1)<30))=true:=by rfl)
 (hline:(apos.endLine == cpos.line)=true:=by rfl):L2.PE X (.Call (.Attribute o "append" apos) [e] [] cpos) (EvE X.K cm (P3 d u)):=
 D9 (L2.ao8 PySem.F.plainAttrs_list PySem.F.slot_list_append PySem.F.type_list_append L2.aj5 ho (r_cons he r_nil hs) (hbase:=hb) (hfew:=hfew) (hline:=hline) (hs:=hs)) λσ H Q ⟨ρ,A,σp,v,A',rl,rs,ev,k⟩=>by
  obtain⟨x,A1,e1,ev1⟩:=A5 ev
  refine⟨ρ,A,σp,x,A1,rl,rs,e1,λρ1 H1 v1 x1 rl1 rv1=>?_⟩
  cases x with
  | ref n=>
    obtain⟨l0,A2,e2,ev2⟩:=A5 ev1
    obtain⟨rfl,hA,a,xs,rfl,hn,hH,r0⟩:=Q9 rl1 rv1 e2
    refine⟨.inl ⟨rfl,xs,L2.SqL.of hH⟩,?_⟩
    obtain⟨y,A3,e3,ev3⟩:=A5 ev2
    obtain⟨l,A4,e4,ev4⟩:=A5 ev3
    obtain⟨c,ev5⟩:=B6 ev4
    cases ev5
    refine⟨ρ1,_,σp,[y],A3,rl1,rs.mono x1,by show bnd (u σp) _ _=_;rw [bnd_ok e3];rfl,λρ2 H2 vs2 x2 rl2 rv2=>?_⟩
    cases rv2 with
    | cons hv hr=>
      cases hr
      obtain⟨rfl,hA2,a2,ys,e5,hn2,hH2,r2⟩:=Q9 rl2 (rv1.mono x2) e4
      cases e5
      refine⟨a,ys,_,rfl,rfl,hH2,by rw [←r2.length];exact aJ4 c,?_⟩
      refine k ρ2 _ _ ((x1.trans x2).trans (Ext.put rl2 hn2 hA2 rfl)) (rl2.put hn2 hA2 rfl rfl ⟨_,L2.B9,?_⟩) .non
      exact (r2.mono (Ext.put rl2 hn2 hA2 rfl)).append (.cons (hv.mono (Ext.put rl2 hn2 hA2 rfl)) .nil)
  | _=>cases ev1
theorem g_name {i:Nat} {e:Expr} (h:L2.PG X e (L2.gName i)):L2.PG X e (EvG X.K cm (gName i)):=ad4 h λv σ H Q ⟨ρ,A,σp,x,σp',A',rl,rs,rv,ev,k⟩=>by
 cases ev
 exact k ρ H _ (Ext.refl _ _) rl (rs.set i rv)
theorem aq9:L2.PGs X [] (ay6 X.K cm gNil):=af9 L2.ax0 λvs σ H Q ⟨ρ,A,σp,xs,σp',A',rl,rs,rv,ev,k⟩=>by
 cases xs with
 | nil=>cases ev;cases rv;exact⟨rfl,k ρ H _ (Ext.refl _ _) rl rs⟩
 | cons y ys=>cases ev
theorem W0 {e:Expr} {es:List Expr} {g:GD} {r:GDs} (h1:L2.PG X e (EvG X.K cm g)) (h2:L2.PGs X es (ay6 X.K cm r)) (hs:(assignEach (e::es) X.env).map (·.2)=assign e X.env::(assignEach es X.env).map (·.2):=by rfl):L2.PGs X (e::es) (ay6 X.K cm (gCons g r)):=
 af9 (L2.am7 h1 h2 hs) λvs σ H Q ⟨ρ,A,σp,xs,σp',A',rl,rs,rv,ev,k⟩=>by
  cases xs with
  | nil=>cases ev
  | cons y ys=>
    obtain⟨σ1,A1,e1,ev1⟩:=A5 ev
    cases rv with
    | cons hv hr=>
      exact⟨_,_,rfl,ρ,A,σp,y,σ1,A1,rl,rs,hv,e1,λρ1 H1 σ' x1 rl1 rs1=>⟨ρ1,A1,σ1,ys,σp',A',rl1,rs1,hr.mono x1,ev1,λρ2 H2 σ2 x2 rl2 rs2=>k ρ2 H2 σ2 (x1.trans x2) rl2 rs2⟩⟩
theorem ar0 {es:List Expr} {j n:Nat} {g:GDs} {pos:Pos} (hc:X.calm=true) (h:L2.PGs X es (ay6 X.K cm g)) (hn:(assignEach es X.env).length=n:=by rfl) (hst:(assignEach es X.env).findIdx? (·.1)=none:=by rfl):L2.PG X (.Tuple es j pos) (EvG X.K cm (gTup n g)):=
 ad4 (L2.aG1 hc h hn hst) λv σ H Q ⟨ρ,A,σp,x,σp',A',rl,rs,rv,ev,k⟩=>by
  cases x with
  | tup l=>
    obtain⟨c,ev1⟩:=B6 ev
    cases rv with
    | tup ha r=>exact⟨_,_,rfl,L2.SqT.of ha,by rw [←r.length];exact c,ρ,A,σp,l,σp',A',rl,rs,r,ev1,k⟩
  | _=>cases ev
theorem ay9 {st:Stmt}:L2.PS X st (EvS X.K cm ap2):=N5 L2.am6 λD σ H ⟨ρ,A,σp,f,A',rl,rs,ev,k⟩=>by cases ev
theorem E1:L2.PSs X [] (EvS X.K cm E7):=Y2 L2.aw8 λD σ H ⟨ρ,A,σp,f,A',rl,rs,ev,k⟩=>by
 cases ev;exact k ρ H (Ext.refl _ _) rl σ rs
theorem C2 {st:Stmt} {s:SD} (h:L2.PS X st (EvS X.K cm s)):L2.PSs X [st] (EvS X.K cm s):=L2.q8 h
theorem A8 {st:Stmt} {rest:List Stmt} {s r:SD} (h1:L2.PS X st (EvS X.K cm s)) (h2:L2.PSs X rest (EvS X.K cm r)):L2.PSs X (st::rest) (EvS X.K cm (C6 s r)):=
 Y2 (L2.y7 h1 h2) λD σ H ⟨ρ,A,σp,f,A',rl,rs,ev,k⟩=>by
  obtain⟨o,A1,e1,ev1⟩:=A5 ev
  refine⟨ρ,A,σp,o,A1,rl,rs,e1,λρ1 H1 x1 rl1=>?_⟩
  cases o with
  | nx σ1=>exact λσ' rs'=>⟨ρ1,A1,σ1,f,A',rl1,rs',ev1,λρ2 H2 x2 rl2=>k ρ2 H2 (x1.trans x2) rl2⟩
  | rt v=>cases ev1;exact λv' rv=>k ρ1 H1 x1 rl1 v' rv
  | bk σ1=>cases ev1;exact λσ' rs'=>k ρ1 H1 x1 rl1 σ' rs'
  | ct σ1=>cases ev1;exact λσ' rs'=>k ρ1 H1 x1 rl1 σ' rs'
theorem d5 {e:Expr} {d:ED} {pos:Pos} (h:L2.PE X e (EvE X.K cm d)) (hs:swapsWith e none pos.line X.env=pure false:=by rfl):L2.PS X (.Expr e pos) (EvS X.K cm (S5 d)):=
 N5 (L2.aw9 h hs) λD σ H ⟨ρ,A,σp,f,A',rl,rs,ev,k⟩=>by
  obtain⟨x,A1,e1,ev1⟩:=A5 ev
  cases ev1
  exact⟨ρ,A,σp,x,A',rl,rs,e1,λρ1 H1 v1 x1 rl1 rv1=>k ρ1 H1 x1 rl1 σ (rs.mono x1)⟩
theorem E5 {e:Expr} {d:ED} {pos:Pos} (h:L2.PE X e (EvE X.K cm d)):L2.PS X (.Return (some e) pos) (EvS X.K cm (sRet d)):=
 N5 (L2.aG0 h) λD σ H ⟨ρ,A,σp,f,A',rl,rs,ev,k⟩=>by
  obtain⟨x,A1,e1,ev1⟩:=A5 ev
  cases ev1
  exact⟨ρ,A,σp,x,A',rl,rs,e1,λρ1 H1 v1 x1 rl1 rv1=>k ρ1 H1 x1 rl1 v1 rv1⟩
theorem M7 {c:Expr} {a b:List Stmt} {t:TD} {s u:SD} {pos:Pos} (hc:L2.PT X c (EvT X.K cm t)) (ha:L2.PSs X a (EvS X.K cm s)) (hb:L2.PSs X b (EvS X.K cm u)):L2.PS X (.If c a b pos) (EvS X.K cm (sIf t s u)):=
 N5 (L2.aC3 hc ha hb) λD σ H ⟨ρ,A,σp,f,A',rl,rs,ev,k⟩=>by
  obtain⟨x,A1,e1,ev1⟩:=A5 ev
  refine⟨ρ,A,σp,x,A1,rl,rs,e1,λρ1 H1 x1 rl1=>?_⟩
  cases x with
  | true=>rw [if_pos rfl] at ev1 ⊢;exact⟨ρ1,A1,σp,f,A',rl1,rs.mono x1,ev1,λρ2 H2 x2 rl2=>k ρ2 H2 (x1.trans x2) rl2⟩
  | false=>rw [if_neg (by simp)] at ev1 ⊢;exact⟨ρ1,A1,σp,f,A',rl1,rs.mono x1,ev1,λρ2 H2 x2 rl2=>k ρ2 H2 (x1.trans x2) rl2⟩
theorem ar1 {d:ED} {g:GD} {te:L2.TE} {tg:L2.TG} (he:∀σ H Q,EvE X.K cm d σ H Q->te σ H Q) (hg:∀v σ H Q,EvG X.K cm g v σ H Q->tg v σ H Q) {D:L2.Y7} {σ:L2.St} {H:L2.Hp} (h:EvS X.K cm (E9 d g) D σ H):L2.aG3 te tg D σ H:=by
 obtain⟨ρ,A,σp,f,A',rl,rs,ev,k⟩:=h
 obtain⟨x,A1,e1,ev1⟩:=A5 ev
 obtain⟨σ1,A2,e2,ev2⟩:=A5 ev1
 cases ev2
 exact he _ _ _ ⟨ρ,A,σp,x,A1,rl,rs,e1,λρ1 H1 v1 x1 rl1 rv1=>hg _ _ _ _ ⟨ρ1,A1,σp,x,σ1,A',rl1,rs.mono x1,rv1,e2,λρ2 H2 σ2 x2 rl2 rs2=>k ρ2 H2 (x1.trans x2) rl2 σ2 rs2⟩⟩
theorem aD5 {tg e:Expr} {d:ED} {g:GD} {pos:Pos} (he:L2.PE X e (EvE X.K cm d)) (hg:L2.PG X tg (EvG X.K cm g)) (hs:swapsWithSole [tg] e pos.line X.env=pure false:=by rfl) (hw:swappedStores [tg] e X.env=pure none:=by rfl)
 (h1:(assignEach [tg] X.env).map (·.2)=[assign tg X.env]:=by rfl):L2.PS X (.Assign [tg] e pos) (EvS X.K cm (E9 d g)):=
 N5 (L2.aG4 he hg hs hw h1) λD σ H h=>ar1 (λ_ _ _ z=>z) (λ_ _ _ _ z=>z) h
theorem D8 {i:Nat} {x:Str} {e:Expr} {d:ED} {pos pos':Pos} (hN:X.N.Nodup) (hi:X.N[i]?=some x) (hx:L2.Loc X.env.scope x) (he:L2.PE X e (EvE X.K cm d)) (hs:swapsWith e (some (.Name x pos')) pos.line X.env=pure false:=by rfl)
 (hf:X.fn x=true\/X.env.scope.names.lookup x=some .local:=by first | exact .inl rfl | exact .inr rfl | assumption):L2.PS X (.Assign [.Name x pos'] e pos) (EvS X.K cm (E9 d (gName i))):=
 N5 (L2.aG5 hN hi hx he hs hf) λD σ H h=>ar1 (λ_ _ _ z=>z) (λv σ H Q ⟨ρ,A,σp,x,σp',A',rl,rs,rv,ev,k⟩=>by
  cases ev
  exact k ρ H _ (Ext.refl _ _) rl (rs.set i rv)) h
end
def SpF (K:PySem.W.Frag) (cm:Nat->Addr) (f:Fun) (n:Nat):L2.Sp:=λvs H Q _=>∃(ρ:List Addr) (A:PHp) (ps:List PV) (v:PV) (A':PHp),Rel K cm ρ A H/\RVs ρ H ps vs/\ps.length=n/\f ps A=.ok v A'/\
 ∀ρ' H' v',Ext ρ H ρ' H'->Rel K cm ρ' A' H'->RV ρ' H' v v'->Q v' H'
theorem RSt.start0 {ρ:List Addr} {H:L2.Hp} {ps:List PV} {vs:List L2.V} {N:List Str} (r:RVs ρ H ps vs):RSt ρ H (Ws.start N.length ps) (L2.start N vs):=by
 have hl:=r.length
 refine⟨by unfold Ws.start L2.start;simp [hl],λi p hp=>?_⟩
 unfold Ws.start at hp
 by_cases hi:i<ps.length
 ·rw [List.getElem?_append_left (by simpa using hi),List.getElem?_map] at hp
  rcases e:ps[i]? with _ | q
  ·rw [e] at hp;cases hp
  ·rw [e] at hp;cases hp
   obtain⟨v,h1,h2⟩:=r.get e
   refine⟨v,?_,h2⟩
   unfold L2.start
   rw [List.getElem?_append_left (by simp;omega),List.getElem?_map,h1];rfl
 ·rw [List.getElem?_append_right (by simpa using hi),List.getElem?_replicate] at hp
  split at hp <;> cases hp
section
variable {P:Program} {w:World} {K:PySem.W.Frag} {mg:Str->Option Value} {base:Heap} {cm:Nat->Addr}
theorem aP4 {x qual:Str} {st:Stmt} {f:Addr} {fd:FuncData} {N ps:List Str} {k:Nat} {s:SD} (F:L2.Fun K x qual st f fd) (S:L2.D6 N ps (L2.A6 st))
 (hbody:∀(cdv:Value) (A:Around) (outer:List Env) (s0:Shared) (H:L2.Hp) (E:L2.XK),L2.Room k (A.deeper (PyProof.Rows.envOfC qual (L2.A6 st) s0.heap.objs.size f cdv))->
  L2.PSs (L2.X5 L2.CX0 P w K mg base N qual (L2.A6 st) f cdv A outer s0 H E).nox (L2.C1 st) (EvS K cm s)) :
 L2.FnOk P w K mg base L2.CX0 (k+1) f fd ps (SpF K cm (fn N.length ps.length s) ps.length):=by
 refine F.ok S (λvs H Q E ⟨ρ,A,qs,v,A',rl,rv,hl,_,_⟩=>by rw [←rv.length];exact hl) λcdv A outer s0 H vs Q E hr h=>⟨_,hbody cdv A outer s0 H E hr,?_⟩
 obtain⟨ρ,B,qs,v,B',rl,rv,hl,ev,k⟩:=h
 obtain⟨_,ev1⟩:=B6 ev
 obtain⟨o,B1,e1,ev2⟩:=A5 ev1
 refine⟨ρ,B,Ws.start N.length qs,o,B1,rl,RSt.start0 rv,e1,λρ1 H1 x1 rl1=>?_⟩
 cases o with
 | nx σ1=>cases ev2;exact λσ' _=>k ρ1 H1 _ x1 rl1 .non
 | rt u=>cases ev2;exact λv' rv'=>k ρ1 H1 v' x1 rl1 rv'
 | bk σ1=>cases ev2
 | ct σ1=>cases ev2
end
section
variable {X:L2.Cx} {cm:Nat->Addr}
theorem az0 {f:Fun} {n:Nat} {ds:AD} (hn:∀vs A v A',f vs A=.ok v A'->vs.length=n) {σ:L2.St} {H:L2.Hp} {Q:L2.VK} (h:EvE X.K cm (J8 f ds) σ H Q):L2.aC6 (SpF X.K cm f n) [] L2.E0 (EvA X.K cm ds) σ H Q:=by
 obtain⟨ρ,A,σp,v,A',rl,rs,ev,k⟩:=h
 obtain⟨xs,A1,e1,ev1⟩:=A5 ev
 refine⟨ρ,A,σp,xs,A1,rl,rs,e1,λρ1 H1 vs1 x1 rl1 rv1=>?_⟩
 show SpF X.K cm f n (vs1++[]) H1 Q _
 rw [List.append_nil]
 exact⟨ρ1,A1,xs,v,A',rl1,rv1,hn _ _ _ _ ev1,ev1,λρ2 H2 v2 x2 rl2 rv2=>k ρ2 H2 v2 (x1.trans x2) rl2 rv2⟩
theorem N6 {n p:Nat} {s:SD} {vs:List PV} {A A':PHp} {v:PV} (h:fn n p s vs A=.ok v A'):vs.length=p:=(B6 h).1
theorem aJ5 {f:Fun} {n k:Nat} {fa:Addr} {fd:FuncData} {ps:List Str} {x:Str} {e:Expr} {es:List Expr} {ds:AD} {p pos:Pos} (F:L2.FnOk X.prog X.w X.K X.mg X.base L2.CX0 k fa fd ps (SpF X.K cm f n)) (hn:∀vs A v A',f vs A=.ok v A'->vs.length=n) (hr:L2.Room k X.A) (hg:L2.Gl X x) (hm:X.mg x=some (.ref fa)) (hk:PySem.W.keepIn X.K (.ref fa)=true) (hb:L2.Binds X.K fd ps [])
 (ha:L2.PA X (e::es) (EvA X.K cm ds)) (hdb:(x == ("__debug__" : Str))=false:=by decide) (he:starEach (e::es) X.env=(false,eval e X.env)::starEach es X.env:=by exact D2 rfl) (hpl:(backTo pos (starEach es X.env)).any (·.1)=false:=by rfl) :
 L2.PE X (.Call (.Name x p) (e::es) [] pos) (EvE X.K cm (J8 f ds)):=
 D9 (L2.ax5 F hr hg hm hk hb .nil L2.aO8 ha hdb he hpl) λσ H Q h=>az0 hn h
def Ite (K:PySem.W.Frag) (a:Addr):L2.It:=
 ⟨λi H=>∃xs x,L2.SqL K H a xs/\xs[i]?=some x,λi H x H'=>∃y p,(∀xs,L2.SqL K H a xs->xs[i]?=some y)/\H p=none/\x=.ref p/\H'=L2.upd H p (.tup [.int i,y]),λi H=>∃xs,L2.SqL K H a xs/\xs.length<=i⟩
def Itk (K:PySem.W.Frag) (k:Nat) (a:Addr):L2.It:=
 ⟨λi H=>∃xs x,L2.SqL K H a xs/\xs[i]?=some x,λi H x H'=>∃y p,(∀xs,L2.SqL K H a xs->xs[i]?=some y)/\H p=none/\x=.ref p/\H'=L2.upd H p (.tup [.int ((k+i:Nat):Int),y]),λi H=>∃xs,L2.SqL K H a xs/\xs.length<=i⟩
def Itf (vs:List L2.V):L2.It:=⟨λi _=>i<vs.length,λi H x H'=>H'=H/\vs[i]?=some x,λi _=>vs.length<=i⟩
def SqK (k:Bool) (K:PySem.W.Frag) (H:L2.Hp) (a:Addr) (xs:List L2.V):Prop:=match k with
 | true=>L2.SqT K H a xs
 | false=>L2.SqL K H a xs
def kindOf:PV->Bool
 | .tup _=>true
 | _=>false
def Itz (K:PySem.W.Frag) (k1 k2:Bool) (a b:Addr):L2.It:=
 ⟨λi H=>∃xs ys x y,SqK k1 K H a xs/\SqK k2 K H b ys/\xs[i]?=some x/\ys[i]?=some y,
  λi H v H'=>∃x y p,(∀xs,SqK k1 K H a xs->xs[i]?=some x)/\(∀ys,SqK k2 K H b ys->ys[i]?=some y)/\H p=none/\v=.ref p/\H'=L2.upd H p (.tup [x,y]),
  λi H=>∃xs ys,SqK k1 K H a xs/\SqK k2 K H b ys/\(xs.length<=i\/ys.length<=i)⟩
theorem n5 {K:PySem.W.Frag} {ρ:List Addr} {H:L2.Hp} {A:PHp} {l:List PV} {v:L2.V} {x:PV} {A':PHp} (rl:Rel K cm ρ A H) (r:RV ρ H x v) (h:Q6 x A=.ok l A'):A'=A/\∃a xs,v=.ref a/\SqK (kindOf x) K H a xs/\RVs ρ H l xs:=by
 cases x with
 | ref n=>
   obtain⟨e,a,xs,h1,h2,h3⟩:=E6 rl r h
   exact⟨e,a,xs,h1,h2,h3⟩
 | tup m=>
   cases h
   cases r with
   | tup h1 h2=>exact⟨rfl,_,_,rfl,L2.SqT.of h1,h2⟩
 | _=>cases h
def RIt (K:PySem.W.Frag) (ρ:List Addr) (H:L2.Hp):It->L2.It->Prop
 | .rng lo n,j=>j=L2.Itr lo n
 | .lst m,j=>∃a,ρ[m]?=some a/\j=L2.Itl K a
 | .tup l,j=>∃a vs,H a=some (.tup vs)/\RVs ρ H l vs/\j=L2.Itt K a
 | .enm m,j=>∃a,ρ[m]?=some a/\j=Ite K a
 | .fix l,j=>∃vs,RVs ρ H l vs/\j=Itf vs
 | .zip x y,j=>∃a b,RV ρ H x (.ref a)/\RV ρ H y (.ref b)/\j=Itz K (kindOf x) (kindOf y) a b
 | .enk k m,j=>∃a,ρ[m]?=some a/\j=Itk K k a
theorem RIt.mono {K:PySem.W.Frag} {ρ ρ':List Addr} {H H':L2.Hp} {J:It} {j:L2.It} (h:RIt K ρ H J j) (e:Ext ρ H ρ' H'):RIt K ρ' H' J j:=by
 cases J with
 | rng lo n=>exact h
 | lst m=>obtain⟨a,h1,h2⟩:=h;exact⟨a,u0 e.pre h1,h2⟩
 | tup l=>obtain⟨a,vs,h1,h2,h3⟩:=h;exact⟨a,vs,e.tup _ _ h1,h2.mono e,h3⟩
 | enm m=>obtain⟨a,h1,h2⟩:=h;exact⟨a,u0 e.pre h1,h2⟩
 | fix l=>obtain⟨vs,h1,h2⟩:=h;exact⟨vs,h1.mono e,h2⟩
 | zip x y=>obtain⟨a,b,h1,h2,h3⟩:=h;exact⟨a,b,h1.mono e,h2.mono e,h3⟩
 | enk k m=>obtain⟨a,h1,h2⟩:=h;exact⟨a,u0 e.pre h1,h2⟩
def EvI (K:PySem.W.Frag) (cm:Nat->Addr) (d:ID):L2.TI:=λσ H R=>∃(ρ:List Addr) (A:PHp) (σp:PSt) (J:It) (A':PHp),Rel K cm ρ A H/\RSt ρ H σp σ/\d σp A=.ok J A'/\
 ∀ρ' H' j,Ext ρ H ρ' H'->Rel K cm ρ' A' H'->RIt K ρ' H' J j->R j H'
def ad9 (K:PySem.W.Frag) (cm:Nat->Addr) (ρ:List Addr) (A:PHp) (H:L2.Hp) (j:L2.It) (i:Nat):Option PV->Prop
 | none=>j.stop i H
 | some v=>j.go i H/\∀y H',j.yld i H y H'->Ext ρ H ρ H'/\Rel K cm ρ A H'/\RV ρ H' v y
theorem u7 {K:PySem.W.Frag} {ρ:List Addr} {H:L2.Hp} {A A':PHp} {J:It} {j:L2.It} {i:Nat} {x:Option PV} (rl:Rel K cm ρ A H) (rj:RIt K ρ H J j) (e:item J i A=.ok x A') :
 A'=A/\ad9 K cm ρ A H j i x:=by
 cases J with
 | rng lo n=>
   cases e
   cases rj
   refine⟨rfl,?_⟩
   by_cases h:i<n
   ·show ad9 K cm ρ A H _ i (if i<n then some (PV.int (lo+i)) else none)
    rw [if_pos h]
    refine⟨h,λy H' ⟨e1,e2⟩=>?_⟩
    subst e1;subst e2
    exact⟨Ext.refl _ _,rl,.int _⟩
   ·show ad9 K cm ρ A H _ i (if i<n then some (PV.int (lo+i)) else none)
    rw [if_neg h]
    exact Nat.le_of_not_lt h
 | fix l=>
   cases e
   obtain⟨vs,r,rfl⟩:=rj
   refine⟨rfl,?_⟩
   rcases hi:l[i]? with _ | v
   ·show vs.length<=i
    rw [←r.length];exact List.getElem?_eq_none_iff.mp hi
   ·obtain⟨u,hu,rv⟩:=r.get hi
    refine⟨(List.getElem?_eq_some_iff.mp hu).1,λy H' ⟨e3,e4⟩=>?_⟩
    subst e3
    rw [hu] at e4;cases e4
    exact⟨Ext.refl _ _,rl,rv⟩
 | zip x y=>
   obtain⟨a,b,ra,rb,rfl⟩:=rj
   obtain⟨l,A1,e1,e2⟩:=A5 e
   obtain⟨rfl,a',xs,h1,q1,r1⟩:=n5 rl ra e1
   cases h1
   obtain⟨m,A2,e3,e4⟩:=A5 e2
   obtain⟨rfl,b',ys,h2,q2,r2⟩:=n5 rl rb e3
   cases h2
   cases e4
   refine⟨rfl,?_⟩
   rcases hi:l[i]? with _ | u
   ·exact⟨xs,ys,q1,q2,.inl (by rw [←r1.length];exact List.getElem?_eq_none_iff.mp hi)⟩
   ·rcases hj:m[i]? with _ | v
    ·exact⟨xs,ys,q1,q2,.inr (by rw [←r2.length];exact List.getElem?_eq_none_iff.mp hj)⟩
    ·obtain⟨u',hu,ru⟩:=r1.get hi
     obtain⟨v',hv,rv⟩:=r2.get hj
     refine⟨⟨xs,ys,u',v',q1,q2,hu,hv⟩,λz H' ⟨x',y',p,g1,g2,g3,g4,g5⟩=>?_⟩
     have g1:=g1 xs q1
     have g2:=g2 ys q2
     rw [hu] at g1;cases g1
     rw [hv] at g2;cases g2
     subst g4;subst g5
     exact⟨Ext.same g3,rl.tup g3,.tup L2.B9 (.cons (ru.mono (Ext.same g3)) (.cons (rv.mono (Ext.same g3)) .nil))⟩
 | lst m=>
   obtain⟨a,ha,rfl⟩:=rj
   obtain⟨l,A1,e1,e2⟩:=A5 e
   obtain⟨rfl,b,xs,hb,hs,r⟩:=E6 rl (.ref ha) e1
   cases hb
   cases e2
   refine⟨rfl,?_⟩
   rcases hi:l[i]? with _ | v
   ·exact⟨xs,hs,by rw [←r.length];exact List.getElem?_eq_none_iff.mp hi⟩
   ·obtain⟨u,hu,rv⟩:=r.get hi
    refine⟨⟨xs,u,hs,hu⟩,λy H' ⟨e3,e4⟩=>?_⟩
    subst e3
    have:=e4 xs hs
    rw [hu] at this;cases this
    exact⟨Ext.refl _ _,rl,rv⟩
 | tup l=>
   obtain⟨a,vs,ha,r,rfl⟩:=rj
   cases e
   refine⟨rfl,?_⟩
   rcases hi:l[i]? with _ | v
   ·exact⟨vs,L2.SqT.of ha,by rw [←r.length];exact List.getElem?_eq_none_iff.mp hi⟩
   ·obtain⟨u,hu,rv⟩:=r.get hi
    refine⟨⟨vs,u,L2.SqT.of ha,hu⟩,λy H' ⟨e3,e4⟩=>?_⟩
    subst e3
    have:=e4 vs (L2.SqT.of ha)
    rw [hu] at this;cases this
    exact⟨Ext.refl _ _,rl,rv⟩
 | enm m=>
   obtain⟨a,ha,rfl⟩:=rj
   obtain⟨l,A1,e1,e2⟩:=A5 e
   obtain⟨rfl,b,xs,hb,hs,r⟩:=E6 rl (.ref ha) e1
   cases hb
   cases e2
   refine⟨rfl,?_⟩
   rcases hi:l[i]? with _ | v
   ·exact⟨xs,hs,by rw [←r.length];exact List.getElem?_eq_none_iff.mp hi⟩
   ·obtain⟨u,hu,rv⟩:=r.get hi
    refine⟨⟨xs,u,hs,hu⟩,λy H' ⟨y',p,h2,h3,h4,h5⟩=>?_⟩
    have h2:=h2 xs hs
    rw [hu] at h2;cases h2
    subst h4;subst h5
    exact⟨Ext.same h3,rl.tup h3,.tup L2.B9 (.cons (.int _) (.cons (rv.mono (Ext.same h3)) .nil))⟩
 | enk k m=>
   obtain⟨a,ha,rfl⟩:=rj
   obtain⟨l,A1,e1,e2⟩:=A5 e
   obtain⟨rfl,b,xs,hb,hs,r⟩:=E6 rl (.ref ha) e1
   cases hb
   cases e2
   refine⟨rfl,?_⟩
   rcases hi:l[i]? with _ | v
   ·exact⟨xs,hs,by rw [←r.length];exact List.getElem?_eq_none_iff.mp hi⟩
   ·obtain⟨u,hu,rv⟩:=r.get hi
    refine⟨⟨xs,u,hs,hu⟩,λy H' ⟨y',p,h2,h3,h4,h5⟩=>?_⟩
    have h2:=h2 xs hs
    rw [hu] at h2;cases h2
    subst h4;subst h5
    exact⟨Ext.same h3,rl.tup h3,.tup L2.B9 (.cons (.int _) (.cons (rv.mono (Ext.same h3)) .nil))⟩
theorem W1 {J:It} {A A':PHp} {n:Nat} (h:P4 J A=.ok n A'):A'=A:=by
 have key:∀a,bnd (C7 a) (λl=>ret l.length) A=.ok n A'->A'=A:=λa h=>by
  obtain⟨l,A1,e1,e2⟩:=A5 h
  cases e2
  unfold C7 at e1
  rcases hA:A[a]? with _ | o
  ·rw [hA] at e1;cases e1
  ·cases o <;> rw [hA] at e1 <;> cases e1 <;> rfl
 cases J with
 | rng lo n=>cases h;rfl
 | lst m=>exact key m h
 | tup l=>cases h;rfl
 | fix l=>cases h;rfl
 | enm m=>exact key m h
 | enk k m=>exact key m h
 | zip x y=>
   cases x with
   | ref n=>
     exact key n h
   | tup l=>cases h;rfl
   | _=>cases h
theorem aa0 {tg iter:Expr} {body:List Stmt} {it:ID} {g:GD} {b:SD} {pos:Pos} (hp:PassesOwn (model X.prog X.w) X.A X.env X.xe) (hc:X.calm=true) (hi:L2.PI X tg iter (EvI X.K cm it)) (hg:L2.PG X tg (EvG X.K cm g)) (hb:L2.PSs X body (EvS X.K cm b))
 (hs:∀x,foldedSetIterable iter X.env x=pure x:=by intro _;rfl):L2.PS X (.For tg iter body [] pos) (EvS X.K cm (U2 it g b)):=
 N5 (L2.am9 hp hc hi hg hb hs) λD σ H ⟨ρ,A,σp,f,A',rl,rs,ev,k⟩=>by
  obtain⟨J,A1,e1,ev1⟩:=A5 ev
  obtain⟨n,A2,e2,ev2⟩:=A5 ev1
  obtain rfl:=W1 e2
  refine⟨ρ,A,σp,J,A2,rl,rs,e1,λρ1 H1 j x1 rl1 rj=>?_⟩
  refine⟨λi m σ' H'=>∃ρ' B σp',Ext ρ1 H1 ρ' H'/\Rel X.K cm ρ' B H'/\RSt ρ' H' σp' σ'/\J9 J g b (m+1) i σp' B=.ok f A',⟨n,ρ1,A2,σp,Ext.refl _ _,rl1,rs.mono x1,ev2⟩,?_⟩
  rintro i m σ' H' ⟨ρ',B,σp',x2,rl2,rs2,ev3⟩
  rw [K2] at ev3
  obtain⟨x,B1,e3,ev4⟩:=A5 ev3
  obtain⟨rfl,hit⟩:=u7 rl2 (rj.mono x2) e3
  cases x with
  | none=>
    cases ev4
    exact .inl ⟨hit,k ρ' H' (x1.trans x2) rl2 σ' rs2⟩
  | some v=>
    refine .inr ⟨hit.1,λσ3 H3=>∃ρ3 B3 σp3,Ext ρ1 H1 ρ3 H3/\Rel X.K cm ρ3 B3 H3/\RSt ρ3 H3 σp3 σ3/\J9 J g b m (i+1) σp3 B3=.ok f A',?_,λy H3 hy=>?_⟩
    ·rintro σ3 H3 ⟨ρ3,B3,σp3,x3,rl3,rs3,ev5⟩
     cases m with
     | zero=>rw [Z3] at ev5;cases ev5
     | succ m=>exact⟨m,Nat.lt_succ_self _,ρ3,B3,σp3,x3,rl3,rs3,ev5⟩
    ·obtain⟨x3,rl3,rv3⟩:=hit.2 y H3 hy
     obtain⟨σ4,B4,e4,ev5⟩:=A5 ev4
     obtain⟨o,B5,e5,ev6⟩:=A5 ev5
     refine⟨ρ',B1,σp',v,σ4,B4,rl3,rs2.mono x3,rv3,e4,λρ4 H4 σ5 x4 rl4 rs4=>⟨ρ4,B4,σ4,o,B5,rl4,rs4,e5,λρ5 H5 x5 rl5=>?_⟩⟩
     have x15:=(((x2.trans x3).trans x4).trans x5)
     cases o with
     | nx σ6=>exact λσ7 rs7=>⟨ρ5,B5,σ6,x15,rl5,rs7,ev6⟩
     | ct σ6=>exact λσ7 rs7=>⟨ρ5,B5,σ6,x15,rl5,rs7,ev6⟩
     | bk σ6=>cases ev6;exact λσ7 rs7=>k ρ5 H5 (x1.trans x15) rl5 σ7 rs7
     | rt u=>cases ev6;exact λv' rv'=>k ρ5 H5 (x1.trans x15) rl5 v' rv'
theorem ar2 {tg iter:Expr} {t t':L2.TI} (h:L2.PI X tg iter t) (k:∀σ H R,t' σ H R->t σ H R):L2.PI X tg iter t':=λpins s σ H R I q=>h pins s σ H R I (k σ H R q)
theorem i_rng1 {tg a:Expr} {d:ED} {p pos:Pos} (hg:L2.Gl X "range") (hm:X.mg "range" = none) (ha:L2.PE X a (EvE X.K cm d)) (hs:starEach [a] X.env=[(false,eval a X.env)]:=by rfl):L2.PI X tg (.Call (.Name "range" p) [a] [] pos) (EvI X.K cm (iRng1 d)):=
 ar2 (L2.aj0 hg hm (r_cons ha r_nil hs) hs) λσ H R ⟨ρ,A,σp,J,A',rl,rs,ev,k⟩=>by
  obtain⟨x,A1,e1,ev1⟩:=A5 ev
  refine⟨ρ,A,σp,[x],A1,rl,rs,by show bnd (d σp) _ A=_;rw [bnd_ok e1];rfl,λρ1 H1 vs1 x1 rl1 rv1=>?_⟩
  cases x with
  | int i=>
    obtain⟨c,ev2⟩:=B6 ev1
    cases ev2
    cases rv1 with
    | cons hv hr=>cases hr;cases hv;exact⟨i,rfl,c.1,c.2,k ρ1 H1 _ x1 rl1 rfl⟩
  | _=>cases ev1
def aP5 (K:PySem.W.Frag) (tl:L2.TE):L2.TI:=λσ H R=>tl σ H λx H1=>(∃a,x=.ref a/\(∃xs,L2.SqL K H1 a xs)/\R (L2.Itl K a) H1)\/(∃a,x=.ref a/\(∃xs,L2.SqT K H1 a xs)/\R (L2.Itt K a) H1)
theorem az1 {tg l:Expr} {tl:L2.TE} (hl:L2.PE X l tl):L2.PI X tg l (aP5 X.K tl):=by
 intro pins s σ H R I h
 have a1:=L2.ax1 (tg:=tg) hl
 have a2:=L2.aG6 (tg:=tg) hl
 refine L2.thn (hl pins s σ H _ I h) λv s1 ⟨x,H1,I1,r1,q1⟩=>?_
 rcases q1 with ⟨a,e,⟨xs,hq⟩,q⟩ | ⟨a,e,⟨xs,hq⟩,q⟩
 ·subst e
  cases r1
  obtain⟨its,rv,p,hz⟩:=I1.list hq
  refine wpAny_pyIter_list p.isList ?_
  refine⟨s1.heap.objs.size,[s1.heap.objs.size],_,_,H1,rfl,I1.kept (t':=s1.toks) λb o e=>Heap.get?_push_of_some _ e,L2.m5 a _,⟨_,Heap.get?_push_size _ rfl,rfl,rfl⟩,λb hb=>?_,q⟩
  have e:b=s1.heap.objs.size:=by simpa using hb
  subst e
  exact I1.fpOk (Nat.le_refl _) (I1.hok.fresh (Nat.le_refl _))
 ·subst e
  cases r1
  obtain⟨its,rv,p,hz⟩:=I1.tuple hq
  refine wpAny_pyIter_tuple (show s1.heap.IsTuple a its.toArray from p) ?_
  refine⟨s1.heap.objs.size,[s1.heap.objs.size],_,_,H1,rfl,I1.kept (t':=s1.toks) λb o e=>Heap.get?_push_of_some _ e,L2.Y8 a _,⟨_,Heap.get?_push_size _ rfl,rfl,rfl⟩,λb hb=>?_,q⟩
  have e:b=s1.heap.objs.size:=by simpa using hb
  subst e
  exact I1.fpOk (Nat.le_refl _) (I1.hok.fresh (Nat.le_refl _))
theorem ar3 {tg l:Expr} {d:ED} (hl:L2.PE X l (EvE X.K cm d)):L2.PI X tg l (EvI X.K cm (ap1 d)):=ar2 (az1 hl) λσ H R ⟨ρ,A,σp,J,A',rl,rs,ev,k⟩=>by
 obtain⟨x,A1,e1,ev1⟩:=A5 ev
 refine⟨ρ,A,σp,x,A1,rl,rs,e1,λρ1 H1 v1 x1 rl1 rv1=>?_⟩
 cases x with
 | ref n=>
   obtain⟨l,A2,e2,ev2⟩:=A5 ev1
   obtain⟨rfl,a,xs,rfl,hs,r⟩:=E6 rl1 rv1 e2
   cases ev2
   cases rv1 with
   | ref hn=>exact .inl ⟨a,rfl,⟨xs,hs⟩,k ρ1 H1 _ x1 rl1 ⟨a,hn,rfl⟩⟩
 | tup l=>
   cases ev1
   cases rv1 with
   | tup ha r=>exact .inr ⟨_,rfl,⟨_,L2.SqT.of ha⟩,k ρ1 H1 _ x1 rl1 ⟨_,_,ha,r,rfl⟩⟩
 | _=>cases ev1
end
section
variable {ρ:List Addr} {H:L2.Hp}
mutual
theorem RV.uniq:∀{x y:PV} {v:L2.V},RV ρ H x v->RV ρ H y v->P2 x=true->P2 y=true->x=y
 | _,_,_,.non,h,_,_=>by cases h;rfl
 | _,_,_,.bl b,_,n,_=>by simp [P2] at n
 | _,_,_,.int i,h,_,_=>by cases h;rfl
 | _,_,_,.str z,h,_,_=>by cases h;rfl
 | _,_,_,.tup h1 r1,h,n1,n2=>by
   cases h with
   | tup h2 r2=>
     rw [h1] at h2;cases h2
     rw [RVs.uniq r1 r2 (by simpa [P2] using n1) (by simpa [P2] using n2)]
   | ref h2=>simp [P2] at n2
 | _,_,_,.ref _,_,n,_=>by simp [P2] at n
theorem RVs.uniq:∀{l m:List PV} {vs:List L2.V},RVs ρ H l vs->RVs ρ H m vs->U0 l=true->U0 m=true->l=m
 | _,_,_,.nil,h,_,_=>by cases h;rfl
 | _,_,_,.cons h1 r1,h,n1,n2=>by
   cases h with
   | cons h2 r2=>
     simp only [U0,Bool.and_eq_true] at n1 n2
     rw [RV.uniq h1 h2 n1.1 n2.1,RVs.uniq r1 r2 n1.2 n2.2]
end
end
theorem U4:∀{l m:List PV},l.length≠m.length->H8 l m=false
 | [],[],h=>absurd rfl h
 | [],_::_,_=>rfl
 | _::_,[],_=>rfl
 | x::xs,y::ys,h=>by
   have:xs.length≠ys.length:=by simpa using h
   simp [H8,U4 this]
theorem U5:∀{l m:List PV},l.length=m.length->H8 l m=(List.range l.length).all λj=>eqv (l.getD j .non) (m.getD j .non)
 | [],[],_=>rfl
 | [],_::_,h=>by simp at h
 | _::_,[],h=>by simp at h
 | x::xs,y::ys,h=>by
   have e:xs.length=ys.length:=by simpa using h
   rw [List.length_cons,List.range_succ_eq_map,List.all_cons,List.all_map]
   simp only [H8,U5 e]
   rfl
theorem d6 {l m:List PV}:H8 l m=((List.range (min l.length m.length)).all (λj=>eqv (l.getD j .non) (m.getD j .non))&&l.length == m.length):=by
 by_cases h:l.length=m.length
 ·rw [U5 h,h];simp
 ·rw [U4 h,beq_eq_false_iff_ne.mpr h,Bool.and_false]
section
variable {X:L2.Cx} {pins:List (Addr×Obj)} {σ:L2.St} {H:L2.Hp} {s:Shared} {ρ:List Addr} {A:Around}
open PySem.SeqAt
theorem ag3 {x y:PV} {vx vy:L2.V} {u v:Value} (rx:RV ρ H x vx) (ry:RV ρ H y vy) (hx:G4 x=true) (hy:G4 y=true) (ux:L2.RelV vx u) (uy:L2.RelV vy v):EqAt A s u v (eqv x y):=by
 have key:=L2.ao7 (A:=A) (s:=s) ux uy (by cases rx <;> simp_all [G4,L2.n0]) (by cases ry <;> simp_all [G4,L2.n0])
 have e:L2.eqV vx vy=eqv x y:=by
  cases rx <;> cases ry <;> simp_all [G4,L2.eqV,eqv] <;> (try (exact (Bool.beq_eq_decide_eq _ _)))
 rw [←e];exact key
theorem W2 {f:PV->Bool} {l m:List PV} {a b:Addr} {vs ws:List L2.V} (I:L2.Inv X pins σ H s) (ha:H a=some (.tup vs)) (hb:H b=some (.tup ws)) (r1:RVs ρ H l vs) (r2:RVs ρ H m ws) (hl:l.all f=true) (hm:m.all f=true) (hf:∀x,f x=true->P2 x=true) (hu:A.units<cLine)
 (ih:∀x y vx vy u v,RV ρ H x vx->RV ρ H y vy->f x=true->f y=true->L2.RelV vx u->L2.RelV vy v->EqAt A.in1 s u v (eqv x y)) :
 (a≠b->RcAt A s (.ref a) (.ref b) (H8 l m))/\RcAt A s (.ref a) (.ref b) (H8 l m)/\EqAt A s (.ref a) (.ref b) (H8 l m):=by
 obtain⟨_,its,ri,pi⟩:=I.hok a _ ha
 obtain⟨_,its2,ri2,pi2⟩:=I.hok b _ hb
 have rc:RcAt A s (.ref a) (.ref b) (H8 l m):=by
  have h:=RcAt.tuples (A:=A) (s:=s) (l:=a) (b:=b) (items:=its.toArray) (items2:=its2.toArray) (e:=λj=>eqv (l.getD j .non) (m.getD j .non)) pi pi2 hu (λj h1 h2=>by
   simp only [List.size_toArray] at h1 h2
   have l1:j<vs.length:=by rw [ri.length];exact h1
   have l2:j<ws.length:=by rw [ri2.length];exact h2
   obtain⟨x,ex,rx⟩:=r1.get' (i:=j) (v:=vs[j]) (by simp [l1])
   obtain⟨y,ey,ry⟩:=r2.get' (i:=j) (v:=ws[j]) (by simp [l2])
   obtain⟨u,eu,ru⟩:=ri.get (i:=j) (x:=vs[j]) (by simp [l1])
   obtain⟨v,ev,rv⟩:=ri2.get (i:=j) (x:=ws[j]) (by simp [l2])
   have d1:l.getD j .non=x:=by rw [List.getD_eq_getElem?_getD,ex];rfl
   have d2:m.getD j .non=y:=by rw [List.getD_eq_getElem?_getD,ey];rfl
   have q1:its.toArray[j]=u:=by
    rw [List.getElem?_eq_getElem h1] at eu
    simpa using Option.some.inj eu
   have q2:its2.toArray[j]=v:=by
    rw [List.getElem?_eq_getElem h2] at ev
    simpa using Option.some.inj ev
   rw [d1,d2,q1,q2]
   exact ih x y _ _ u v rx ry (List.all_eq_true.mp hl x (List.mem_of_getElem? ex)) (List.all_eq_true.mp hm y (List.mem_of_getElem? ey)) ru rv)
  rw [d6]
  have z1:its.toArray.size=l.length:=by rw [List.size_toArray,←ri.length,r1.length]
  have z2:its2.toArray.size=m.length:=by rw [List.size_toArray,←ri2.length,r2.length]
  rw [z1,z2] at h
  exact h
 refine⟨λ_=>rc,rc,?_⟩
 by_cases hab:a=b
 ·subst hab
  rw [ha] at hb;cases hb
  have e:=RVs.uniq r1 r2 (K6 hf l hl) (K6 hf m hm)
  subst e
  rw [(R6 l l (K6 hf l hl)).mpr rfl]
  exact EqAt.same _
 ·exact EqAt.of_refs hab rc
theorem I9 {x y:PV} {vx vy:L2.V} {u v:Value} (I:L2.Inv X pins σ H s) (rx:RV ρ H x vx) (ry:RV ρ H y vy) (hu:A.units<cLine) (ux:L2.RelV vx u) (uy:L2.RelV vy v)
 (h:(∃l,x=.tup l/\G4 y=true)\/(∃m,y=.tup m/\G4 x=true)):EqAt A s u v (eqv x y)/\RcAt A s u v (eqv x y)/\RcNeAt A s u v (!eqv x y):=by
 rcases h with ⟨l,rfl,hy⟩ | ⟨m,rfl,hx⟩
 ·cases rx with
  | tup ha r=>
    obtain⟨_,its,ri,pi⟩:=I.hok _ _ ha
    cases ux
    cases ry with
    | non=>cases uy;exact⟨EqAt.tuple_none pi hu,RcAt.tuple_none pi hu,RcNeAt.tuple_none pi hu⟩
    | int i=>obtain⟨t,rfl⟩:=uy;exact⟨EqAt.tuple_int _ _ pi hu,RcAt.tuple_int _ _ pi hu,RcNeAt.tuple_int _ _ pi hu⟩
    | str i=>obtain⟨t,rfl⟩:=uy;exact⟨EqAt.tuple_str _ _ pi hu,RcAt.tuple_str _ _ pi hu,RcNeAt.tuple_str _ _ pi hu⟩
    | bl b=>simp [G4] at hy
    | tup h2 r2=>simp [G4] at hy
    | ref h2=>simp [G4] at hy
 ·cases ry with
  | tup ha r=>
    obtain⟨_,its,ri,pi⟩:=I.hok _ _ ha
    cases uy
    cases rx with
    | non=>cases ux;exact⟨EqAt.none_tuple pi hu,RcAt.none_tuple pi hu,RcNeAt.none_tuple pi hu⟩
    | int i=>obtain⟨t,rfl⟩:=ux;exact⟨EqAt.int_tuple _ _ pi hu,RcAt.int_tuple _ _ pi hu,RcNeAt.int_tuple _ _ pi hu⟩
    | str i=>obtain⟨t,rfl⟩:=ux;exact⟨EqAt.str_tuple _ _ pi hu,RcAt.str_tuple _ _ pi hu,RcNeAt.str_tuple _ _ pi hu⟩
    | bl b=>simp [G4] at hx
    | tup h2 r2=>simp [G4] at hx
    | ref h2=>simp [G4] at hx
theorem N9 (A:Around) (n:Nat) (h:A.units+(n+1)<cLine):A.in1.units+n<cLine:=by
 show A.units+1+n<cLine;omega
theorem aP6 (I:L2.Inv X pins σ H s) (A:Around) (hu:A.units+1<cLine) (x y:PV) (vx vy:L2.V) (u v:Value) (rx:RV ρ H x vx) (ry:RV ρ H y vy) (hx:af6 x=true) (hy:af6 y=true) (ux:L2.RelV vx u) (uy:L2.RelV vy v):EqAt A s u v (eqv x y):=by
 cases x with
 | tup l=>
   cases y with
   | tup m=>
     cases rx with
     | tup ha r1=>
       cases ry with
       | tup hb r2=>
         cases ux;cases uy
         exact (W2 I ha hb r1 r2 hx hy z7 (by omega) (λx y vx vy u v rx ry h1 h2 u1 u2=>ag3 rx ry h1 h2 u1 u2)).2.2
   | _=>exact (I9 I rx ry (by omega) ux uy (.inl ⟨_,rfl,hy⟩)).1
 | _=>
   cases y with
   | tup m=>exact (I9 I rx ry (by omega) ux uy (.inr ⟨_,rfl,hx⟩)).1
   | _=>exact ag3 rx ry hx hy ux uy
theorem aD6 (I:L2.Inv X pins σ H s) (A:Around) (hu:A.units+2<cLine) (x y:PV) (vx vy:L2.V) (u v:Value) (rx:RV ρ H x vx) (ry:RV ρ H y vy) (hx:X0 x=true) (hy:X0 y=true) (ux:L2.RelV vx u) (uy:L2.RelV vy v):EqAt A s u v (eqv x y):=by
 cases x with
 | tup l=>
   cases y with
   | tup m=>
     cases rx with
     | tup ha r1=>
       cases ry with
       | tup hb r2=>
         cases ux;cases uy
         exact (W2 I ha hb r1 r2 hx hy aD1 (by omega) (λx y vx vy u v rx ry h1 h2 u1 u2=>aP6 I A.in1 (N9 A 1 (by omega)) x y vx vy u v rx ry h1 h2 u1 u2)).2.2
   | _=>exact (I9 I rx ry (by omega) ux uy (.inl ⟨_,rfl,hy⟩)).1
 | _=>
   cases y with
   | tup m=>exact (I9 I rx ry (by omega) ux uy (.inr ⟨_,rfl,hx⟩)).1
   | _=>exact ag3 rx ry hx hy ux uy
theorem aD7 (I:L2.Inv X pins σ H s) (A:Around) (hu:A.units+3<cLine) (x y:PV) (vx vy:L2.V) (u v:Value) (rx:RV ρ H x vx) (ry:RV ρ H y vy) (hx:plain x=true) (hy:plain y=true) (ux:L2.RelV vx u) (uy:L2.RelV vy v):EqAt A s u v (eqv x y):=by
 cases x with
 | tup l=>
   cases y with
   | tup m=>
     cases rx with
     | tup ha r1=>
       cases ry with
       | tup hb r2=>
         cases ux;cases uy
         exact (W2 I ha hb r1 r2 hx hy aD2 (by omega) (λx y vx vy u v rx ry h1 h2 u1 u2=>aD6 I A.in1 (N9 A 2 (by omega)) x y vx vy u v rx ry h1 h2 u1 u2)).2.2
   | _=>exact (I9 I rx ry (by omega) ux uy (.inl ⟨_,rfl,hy⟩)).1
 | _=>
   cases y with
   | tup m=>exact (I9 I rx ry (by omega) ux uy (.inr ⟨_,rfl,hx⟩)).1
   | _=>exact ag3 rx ry hx hy ux uy
end
end Ws
namespace Ws
open PySem PySem.SeqAt
section
variable {X:L2.Cx} {cm:Nat->Addr} {pins:List (Addr×Obj)} {σ:L2.St} {H:L2.Hp} {s:Shared} {ρ:List Addr} {A:Around}
theorem rc0 {x y:PV} {vx vy:L2.V} {u v:Value} (rx:RV ρ H x vx) (ry:RV ρ H y vy) (hx:G4 x=true) (hy:G4 y=true) (ux:L2.RelV vx u) (uy:L2.RelV vy v):RcAt A s u v (eqv x y)/\RcNeAt A s u v (!eqv x y):=by
 have hb:∀(i j:Int),(i == j)=decide (i=j):=λi j=>by rw [Bool.beq_eq_decide_eq]
 have hs:∀(i j:Str),(i == j)=decide (i=j):=λi j=>by rw [Bool.beq_eq_decide_eq]
 cases rx with
 | non=>
   cases ux
   cases ry with
   | non=>cases uy;exact⟨RcAt.none_none,RcNeAt.none_none⟩
   | int i=>obtain⟨t,rfl⟩:=uy;exact⟨RcAt.none_int _ _,RcNeAt.none_int _ _⟩
   | str i=>obtain⟨t,rfl⟩:=uy;exact⟨RcAt.none_str _ _,RcNeAt.none_str _ _⟩
   | _=>simp [G4] at hy
 | int i=>
   obtain⟨t,rfl⟩:=ux
   cases ry with
   | non=>cases uy;exact⟨RcAt.int_none _ _,RcNeAt.int_none _ _⟩
   | int j=>obtain⟨t',rfl⟩:=uy;simp only [eqv,←hb];exact⟨RcAt.int_int _ _ _ _,RcNeAt.int_int _ _ _ _⟩
   | str j=>obtain⟨t',rfl⟩:=uy;exact⟨RcAt.int_str _ _ _ _,RcNeAt.int_str _ _ _ _⟩
   | _=>simp [G4] at hy
 | str i=>
   obtain⟨t,rfl⟩:=ux
   cases ry with
   | non=>cases uy;exact⟨RcAt.str_none _ _,RcNeAt.str_none _ _⟩
   | int j=>obtain⟨t',rfl⟩:=uy;exact⟨RcAt.str_int _ _ _ _,RcNeAt.str_int _ _ _ _⟩
   | str j=>obtain⟨t',rfl⟩:=uy;simp only [eqv,←hs];exact⟨RcAt.str_str _ _ _ _,RcNeAt.str_str _ _ _ _⟩
   | _=>simp [G4] at hy
 | _=>simp [G4] at hx
theorem d7 {f:PV->Bool} {l m:List PV} {vs ws:List L2.V} {its its2:List Value} (r1:RVs ρ H l vs) (r2:RVs ρ H m ws) (ri:L2.Vals vs its) (ri2:L2.Vals ws its2) (hl:l.all f=true) (hm:m.all f=true)
 (ih:∀x y vx vy u v,RV ρ H x vx->RV ρ H y vy->f x=true->f y=true->L2.RelV vx u->L2.RelV vy v->EqAt A s u v (eqv x y)) :
 ∀j (h1:j<its.toArray.size) (h2:j<its2.toArray.size),EqAt A s its.toArray[j] its2.toArray[j] (eqv (l.getD j .non) (m.getD j .non)):=λj h1 h2=>by
 simp only [List.size_toArray] at h1 h2
 have l1:j<vs.length:=by rw [ri.length];exact h1
 have l2:j<ws.length:=by rw [ri2.length];exact h2
 obtain⟨x,ex,rx⟩:=r1.get' (i:=j) (v:=vs[j]) (by simp [l1])
 obtain⟨y,ey,ry⟩:=r2.get' (i:=j) (v:=ws[j]) (by simp [l2])
 obtain⟨u,eu,ru⟩:=ri.get (i:=j) (x:=vs[j]) (by simp [l1])
 obtain⟨v,ev,rv⟩:=ri2.get (i:=j) (x:=ws[j]) (by simp [l2])
 have d1:l.getD j .non=x:=by rw [List.getD_eq_getElem?_getD,ex];rfl
 have d2:m.getD j .non=y:=by rw [List.getD_eq_getElem?_getD,ey];rfl
 have q1:its.toArray[j]=u:=by
  rw [List.getElem?_eq_getElem h1] at eu
  simpa using Option.some.inj eu
 have q2:its2.toArray[j]=v:=by
  rw [List.getElem?_eq_getElem h2] at ev
  simpa using Option.some.inj ev
 rw [d1,d2,q1,q2]
 exact ih x y _ _ u v rx ry (List.all_eq_true.mp hl x (List.mem_of_getElem? ex)) (List.all_eq_true.mp hm y (List.mem_of_getElem? ey)) ru rv
def ae0 (K:PySem.W.Frag) (g:Bool->Bool):L2.R2:=λvx vy H Q=>∃(ρ:List Addr),
 (∃x y,RV ρ H x vx/\RV ρ H y vy/\plain x=true/\plain y=true/\Q (.bl (g (eqv x y))) H)\/(∃b c,vx=.bl b/\vy=.bl c/\Q (.bl (g (b == c))) H)\/
 (∃a b l m xs ys,vx=.ref a/\vy=.ref b/\L2.SqL K H a xs/\L2.SqL K H b ys/\RVs ρ H l xs/\RVs ρ H m ys/\L6 l=true/\L6 m=true/\Q (.bl (g (H8 l m))) H)
theorem ag4 (hr:X.A.units+64<cLine) {vx vy:L2.V} {u v:Value} {Q:L2.VK} {g:Bool->Bool} (I:L2.Inv X pins σ H s) (ux:L2.RelV vx u) (uy:L2.RelV vy v) (h:ae0 X.K g vx vy H Q):∃b,RcAt X.A s u v b/\RcNeAt X.A s u v (!b)/\Q (.bl (g b)) H:=by
 obtain⟨ρ,h⟩:=h
 rcases h with ⟨x,y,rx,ry,px,py,q⟩ | ⟨b,c,rfl,rfl,q⟩ | ⟨a,b,l,m,xs,ys,rfl,rfl,h1,h2,r1,r2,p1,p2,q⟩
 ·refine⟨eqv x y,?_,?_,q⟩ <;>
  (cases x with
  | tup l=>
    cases y with
    | tup m=>
      cases rx with
      | tup ha r1=>
        cases ry with
        | tup hb r2=>
          cases ux;cases uy
          obtain⟨_,its,ri,pi⟩:=I.hok _ _ ha
          obtain⟨_,its2,ri2,pi2⟩:=I.hok _ _ hb
          have z1:its.toArray.size=l.length:=by rw [List.size_toArray,←ri.length,r1.length]
          have z2:its2.toArray.size=m.length:=by rw [List.size_toArray,←ri2.length,r2.length]
          have hi:=d7 (A:=X.A.in1) (s:=s) r1 r2 ri ri2 (show l.all X0=true from px) (show m.all X0=true from py) (λx y vx vy u v rx ry h1 h2 u1 u2=>aD6 I X.A.in1 (N9 X.A 2 (by omega)) x y vx vy u v rx ry h1 h2 u1 u2)
          first
           | (have h:=RcAt.tuples (A:=X.A) (s:=s) (e:=λj=>eqv (l.getD j .non) (m.getD j .non)) pi pi2 (by omega) hi
              rw [z1,z2,←d6] at h;exact h)
           | (have h:=RcNeAt.tuples (A:=X.A) (s:=s) (e:=λj=>eqv (l.getD j .non) (m.getD j .non)) pi pi2 (by omega) hi
              rw [z1,z2,←d6] at h;exact h)
    | _=>first | exact (I9 I rx ry (by omega) ux uy (.inl ⟨_,rfl,py⟩)).2.1 | exact (I9 I rx ry (by omega) ux uy (.inl ⟨_,rfl,py⟩)).2.2
  | _=>
    cases y with
    | tup m=>first | exact (I9 I rx ry (by omega) ux uy (.inr ⟨_,rfl,px⟩)).2.1 | exact (I9 I rx ry (by omega) ux uy (.inr ⟨_,rfl,px⟩)).2.2
    | _=>first | exact (rc0 rx ry px py ux uy).1 | exact (rc0 rx ry px py ux uy).2)
 ·cases ux;cases uy
  exact⟨b == c,RcAt.bool_bool _ _,RcNeAt.bool_bool _ _,q⟩
 ·cases ux;cases uy
  obtain⟨its,ri,pi,_⟩:=I.list h1
  obtain⟨its2,ri2,pi2,_⟩:=I.list h2
  have z1:its.toArray.size=l.length:=by rw [List.size_toArray,←ri.length,r1.length]
  have z2:its2.toArray.size=m.length:=by rw [List.size_toArray,←ri2.length,r2.length]
  refine⟨H8 l m,?_,?_,q⟩
  ·by_cases hlm:l.length=m.length
   ·have hi:=d7 (A:=X.A.in1) (s:=s) r1 r2 ri ri2 p1 p2 (λx y vx vy u v rx ry h1 h2 u1 u2=>aD7 I X.A.in1 (N9 X.A 3 (by omega)) x y vx vy u v rx ry h1 h2 u1 u2)
    have h:=RcAt.lists (A:=X.A) (s:=s) (e:=λj=>eqv (l.getD j .non) (m.getD j .non)) pi.isList pi2.isList (by rw [z1,z2,hlm]) (by omega) hi
    rw [z1,←U5 hlm] at h;exact h
   ·rw [U4 hlm]
    exact RcAt.lists_lengths pi.isList pi2.isList (by rw [z1,z2];exact bne_iff_ne.mpr hlm) (by omega)
  ·by_cases hlm:l.length=m.length
   ·have hi:=d7 (A:=X.A.in1) (s:=s) r1 r2 ri ri2 p1 p2 (λx y vx vy u v rx ry h1 h2 u1 u2=>aD7 I X.A.in1 (N9 X.A 3 (by omega)) x y vx vy u v rx ry h1 h2 u1 u2)
    have h:=RcNeAt.lists (A:=X.A) (s:=s) (e:=λj=>eqv (l.getD j .non) (m.getD j .non)) pi.isList pi2.isList (by rw [z1,z2,hlm]) (by omega) hi
    rw [z1,←U5 hlm] at h;exact h
   ·rw [U4 hlm]
    exact RcNeAt.lists_lengths pi.isList pi2.isList (by rw [z1,z2];exact bne_iff_ne.mpr hlm) (by omega)
theorem op_eqP (hr:X.A.units+64<cLine):L2.OpR X (compareOp .Eq) (ae0 X.K id):=by
 intro pins s σ H x y v u Q I rx ry q
 obtain⟨b,h1,_,h3⟩:=ag4 hr I rx ry q
 exact h1 _ _ _ _ ⟨.bl b,H,I,rfl,h3⟩
theorem u8 (hr:X.A.units+64<cLine):L2.OpR X (compareOp .NotEq) (ae0 X.K not):=by
 intro pins s σ H x y v u Q I rx ry q
 obtain⟨b,_,h2,h3⟩:=ag4 hr I rx ry q
 exact h2 _ _ _ _ ⟨.bl (!b),H,I,rfl,h3⟩
theorem u9 {x y:PV} {B B':PHp} {b:Bool} {vx vy:L2.V} {Q:L2.VK} {g:Bool->Bool} (rl:Rel X.K cm ρ B H) (rx:RV ρ H x vx) (ry:RV ρ H y vy) (h:pEq x y B=.ok b B') (q:Q (.bl (g b)) H):B'=B/\ae0 X.K g vx vy H Q:=by
 have gen:∀x y,RV ρ H x vx->RV ρ H y vy->C3 (t4 x y=true\/(plain x=true/\plain y=true)) (ret (eqv x y)) B=.ok b B'->B'=B/\ae0 X.K g vx vy H Q:=λx y rx ry h=>by
  obtain⟨c,h⟩:=B6 h
  cases h
  refine⟨rfl,ρ,?_⟩
  rcases c with c | c
  ·cases x with
   | bl b1=>
     cases y with
     | bl b2=>cases rx;cases ry;exact .inr (.inl ⟨b1,b2,rfl,rfl,q⟩)
     | _=>simp [t4] at c
   | _=>simp [t4] at c
  ·exact .inl ⟨x,y,rx,ry,c.1,c.2,q⟩
 cases x with
 | ref n=>
   cases y with
   | ref k=>
     obtain⟨l,B1,e1,h1⟩:=A5 h
     obtain⟨rfl,a,xs,rfl,hs,r⟩:=E6 rl rx e1
     obtain⟨m,B2,e2,h2⟩:=A5 h1
     obtain⟨rfl,a2,ys,rfl,hs2,r2⟩:=E6 rl ry e2
     obtain⟨c,h3⟩:=B6 h2
     cases h3
     exact⟨rfl,ρ,.inr (.inr ⟨a,a2,l,m,xs,ys,rfl,rfl,hs,hs2,r,r2,c.1,c.2,q⟩)⟩
   | _=>exact gen _ _ rx ry h
 | _=>cases y <;> exact gen _ _ rx ry h
theorem ok_eq:K3 X.K cm oEq (ae0 X.K id):=λρ B H x y z B' vx vy Q rl rx ry ev k=>by
 obtain⟨b,B1,e1,ev1⟩:=A5 ev
 cases ev1
 have hB:B'=B:=(u9 (g:=id) (Q:=λ_ _=>True) rl rx ry e1 trivial).1
 subst hB
 exact (u9 (g:=id) rl rx ry e1 (k ρ H _ (Ext.refl _ _) rl (.bl b))).2
theorem ag5:K3 X.K cm oNe (ae0 X.K not):=λρ B H x y z B' vx vy Q rl rx ry ev k=>by
 obtain⟨b,B1,e1,ev1⟩:=A5 ev
 cases ev1
 have hB:B'=B:=(u9 (g:=not) (Q:=λ_ _=>True) rl rx ry e1 trivial).1
 subst hB
 exact (u9 (g:=not) rl rx ry e1 (k ρ H _ (Ext.refl _ _) rl (.bl _))).2
structure Kit (K:PySem.W.Frag):Prop where
 t (a b:String) (ha:a∈["NoneType","bool","int","str","list","tuple"]) (hb:b∈["int","bool","tuple","list"]):PySem.W.kitOne K (.type a) (.type b)=some (a == b||(a == "bool"&&b == "int"))
end
end Ws
namespace Ws
open PySem
theorem ae1 {X:L2.Cx} {pins:List (Addr×Obj)} {σ:L2.St} {H:L2.Hp} {s:Shared} {h':Heap} {t':Nat} {fp:List Addr} {T:Addr} {o:L2.HO} (I:L2.Inv X pins σ H s) (hf:∀b∈fp,L2.T8 X pins H b)
 (k:∀b u,b∉fp->s.heap.get? b=some u->h'.get? b=some u) (hT:s.heap.objs.size<=T) (new:L2.ObjOk X.prog X.w (L2.upd H T o) h' T o):L2.Inv X pins σ (L2.upd H T o) { s with heap:=h',toks:=t' }:=by
 have hn:H T=none:=I.hok.fresh hT
 have neT:∀b u,s.heap.get? b=some u->b≠T:=λb u e=>Nat.ne_of_lt (Nat.lt_of_lt_of_le (Heap.lt_size e) hT)
 have nfp:∀b u,H b=some u->b∉fp:=λb u e z=>by rw [(hf b z).1] at e;cases e
 refine I.step (g':=s.gens) (d':=s.drawn) (ch:=fp) (λb hb=>?_) (λb u _ _ hc e _=>k b u hc e) (λb u _ _ hc e _=>⟨u.slots,k b u hc e⟩) (λb u hc e n=>by rw [L2.B0 (neT b u e)];exact n) (λb u hc e=>⟨u,k b u hc e⟩)
  (λb xs e=>by rw [L2.B0 (L2.C9 e hn)];exact e) (λb u xs e=>by rw [L2.B0 (L2.C9 e hn)];exact e) (λb ps e=>⟨#[],by rw [L2.B0 (L2.C9 e hn),e];simp⟩) (λm hm=>?_) (λb u e=>?_) I.bare
 ·obtain⟨_,f1,_,f3,f4,f5⟩:=hf b hb
  exact⟨f3,f1,f4,f5⟩
 ·obtain⟨ob,es,ep,ho,r⟩:=hm
  exact⟨ob,es,ep,k _ ob (λz=>(hf _ z).2.1 rfl) ho,r⟩
 ·by_cases hb:b=T
  ·subst hb;rw [L2.B9] at e;cases e;exact new
  ·rw [L2.B0 hb] at e
   refine (I.hok b u e).stay (λc v hc q=>k c v ?_ q) (λc q=>by rw [L2.B0 (L2.C9 q hn)];exact q) λc xs q=>by rw [L2.B0 (L2.C9 q hn)];exact q
   rcases hc with rfl | hc
   ·exact nfp c u e
   ·exact nfp c _ hc
theorem W3 {X:L2.Cx} {pins:List (Addr×Obj)} {σ:L2.St} {H:L2.Hp} {s:Shared} {h':Heap} {t':Nat} {fp:List Addr} (I:L2.Inv X pins σ H s) (hf:∀b∈fp,L2.T8 X pins H b)
 (k:∀b u,b∉fp->s.heap.get? b=some u->h'.get? b=some u):L2.Inv X pins σ H { s with heap:=h',toks:=t' }:=by
 have nfp:∀b u,H b=some u->b∉fp:=λb u e z=>by rw [(hf b z).1] at e;cases e
 refine I.step (g':=s.gens) (d':=s.drawn) (ch:=fp) (λb hb=>?_) (λb u _ _ hc e _=>k b u hc e) (λb u _ _ hc e _=>⟨u.slots,k b u hc e⟩) (λb u hc e n=>n) (λb u hc e=>⟨u,k b u hc e⟩)
  (λb xs e=>e) (λb u xs e=>e) (λb ps e=>⟨#[],by rw [e];simp⟩) (λm hm=>?_) (λb u e=>?_) I.bare
 ·obtain⟨_,f1,_,f3,f4,f5⟩:=hf b hb
  exact⟨f3,f1,f4,f5⟩
 ·obtain⟨ob,es,ep,ho,r⟩:=hm
  exact⟨ob,es,ep,k _ ob (λz=>(hf _ z).2.1 rfl) ho,r⟩
 ·refine (I.hok b u e).stay (λc v hc q=>k c v ?_ q) (λc q=>q) λc xs q=>q
  rcases hc with rfl | hc
  ·exact nfp c u e
  ·exact nfp c _ hc
structure Def (P:Program) (w:World) (K:PySem.W.Frag) (mg:Str->Option Value) (base:Heap) (cm:Nat->Addr) (x:Str) (k:Nat) (ps:List Str) (f:Fun) (n:Nat):Prop where
 ex:∃(fa:Addr) (fd:FuncData),L2.FnOk P w K mg base L2.CX0 k fa fd ps (SpF K cm f n)/\mg x=some (.ref fa)/\PySem.W.keepIn K (.ref fa)=true/\L2.Binds K fd ps []
 len:∀vs A v A',f vs A=.ok v A'->vs.length=n
section
variable {X:L2.Cx} {cm:Nat->Addr}
theorem r_callD {f:Fun} {n k k':Nat} {ps:List Str} {x:Str} {e:Expr} {es:List Expr} {ds:AD} {p pos:Pos} (D:Def X.prog X.w X.K X.mg X.base cm x k ps f n) (hk:k<=k') (hr:L2.Room k' X.A) (hg:L2.Gl X x)
 (ha:L2.PA X (e::es) (EvA X.K cm ds)) (hdb:(x == ("__debug__" : Str))=false:=by decide) (he:starEach (e::es) X.env=(false,eval e X.env)::starEach es X.env:=by exact D2 rfl) (hpl:(backTo pos (starEach es X.env)).any (·.1)=false:=by rfl) :
 L2.PE X (.Call (.Name x p) (e::es) [] pos) (EvE X.K cm (J8 f ds)):=by
 obtain⟨fa,fd,F,hm,hkp,hb⟩:=D.ex
 exact aJ5 F D.len (hr.mono hk) hg hm hkp hb ha hdb he hpl
theorem aJ6 {x:Str} {i:Int} {pos:Pos} (hg:L2.Gl X x) (hm:∃t,X.mg x=some (.int i t)) (hd:(x == ("__debug__" : Str))=false:=by decide):L2.PE X (.Name x pos) (EvE X.K cm (eK (.int i))):=by
 obtain⟨t,hm⟩:=hm
 exact r_k (L2.p9 hg hm (show L2.RelV (.int i) (.int i t) from ⟨t,rfl⟩) hd) λ_ _=>.int i
end
section
variable {prog:Program} {w:World} {A:Around} {R:Result->Shared->Prop} {s:Shared}
abbrev ag6 (ifs:List Expr) (env:Env):Sem Bool:=forIn ifs true λc r=>if r=true then do let ok ←isTrue c env (eval c env);pure (ForInStep.yield ok) else pure (ForInStep.yield r)
theorem ak1 {elt target iter:Expr} {ifs:List Expr} {scope:Scope} {pos:Pos} {it acc:Value} {env:Env} (I:Nat->Shared->Prop)
 (turn:∀n s,I n s->wpAny (model prog w) A (pyNext it) (λr s₁=>match r with
  | none=>R (.ok .next) s₁
  | some v=>wpAny (model prog w) A (letOwnedTupleGo target it v) (λ_ s₀=>wpAny (model prog w) A (assign target env v) (λ_ s₂=>
   wpAny (model prog w) A (ag6 ifs env) (λok s₃=>
    if ok=true then wpAny (model prog w) A (eval elt env) (λx s₄=>
     wpAny (model prog w) A (call (.builtin "list.append") [acc,x]) (λ_ s₅=>∃m,m<n/\I m s₅) (λ_ _=>False) s₄) (λ_ _=>False) s₃
    else ∃m,m<n/\I m s₃) (λ_ _=>False) s₂) (λ_ _=>False) s₀) (λ_ _=>False) s₁) (λ_ _=>False) s)
 (n:Nat) (h:I n s):codeAny (model prog w) A (.compLoop (.ListComp elt [⟨target,iter,ifs,0⟩] scope pos) 0 it acc env) R s:=by
 have fe:∀{E':Value->Shared->Prop} {e:Value} {s':Shared},False->E' e s':=λh=>h.elim
 refine codeAny_loop rfl I (λn s hI=>?_) n h
 show wpAny _ A ((compTurn (.ListComp elt [⟨target,iter,ifs,0⟩] scope pos) 0 it acc env).onRaise (λx=>do noteFrame x env;theTreesLotGoes x)) _ _ s
 refine wpAny_noted ?_
 rw [compTurn_list]
 refine wpAny_bind (wpAny_standAt (wpAny_bind (wpAny_mono (turn n s hI) (λr s₁ h₁=>?_) λ_ _ h'=>h'.elim)))
 cases r with
 | none=>exact wpAny_pure h₁
 | some v=>
   refine wpAny_bind (wpAny_mono h₁ (λ_ s₀ h₀=>?_) λ_ _ h'=>h'.elim)
   refine wpAny_bind (wpAny_mono h₀ (λ_ s₂ h₂=>wpAny_bind (wpAny_mono h₂ (λok s₃ h₃=>?_) λ_ _ h'=>h'.elim)) λ_ _ h'=>h'.elim)
   cases ok with
   | false=>exact wpAny_pure ⟨rfl,h₃⟩
   | true=>
     exact wpAny_bind (wpAny_bind (wpAny_mono h₃ (λx s₄ h₄=>wpAny_bind (wpAny_mono h₄ (λ_ s₅ h₅=>wpAny_pure (wpAny_pure ⟨rfl,h₅⟩)) λ_ _ h'=>h'.elim)) λ_ _ h'=>h'.elim))
end
def blk (X:L2.Cx) (N:List Str) (scope:Scope) (cl:List (Str×Addr)) (C:Addr) (s₀:Shared) (H₀:L2.Hp) (fp:List Addr):L2.Cx where
 prog:=X.prog
 w:=X.w
 K:=X.K
 mg:=X.mg
 base:=X.base
 A:=X.A
 N:=N
 s₀:=s₀
 H₀:=H₀
 env:=compEnvC scope cl C X.env
 outer:=X.stack
 stack:=X.stack
 ex:=fp
 fn:=λ_=>false
 calm:=X.calm
 pn:=[]
 xe:=λ_ _=>False
inductive FreeOk (X:L2.Cx) (scope:Scope) (cl:List (Str×Addr)):List Str->List (Option Nat)->Prop where
 | nil:FreeOk X scope cl [] []
 | own {x:Str} {N:List Str} {js:List (Option Nat)} (h:FreeOk X scope cl N js):FreeOk X scope cl (x::N) (none::js)
 | free {x:Str} {j:Nat} {N:List Str} {js:List (Option Nat)} (h1:X.N[j]?=some x) (h2:X.env.kindOf x=some .cell\/X.env.kindOf x=some .free) (h3:L2.Vis X.env.scope x) (h4:cl.lookup x=X.env.cells.lookup x) (h5:(relabel scope X.env).names.lookup x=some .cell\/(relabel scope X.env).names.lookup x=some .free) (h:FreeOk X scope cl N js):FreeOk X scope cl (x::N) (some j::js)
theorem FreeOk.len {X:L2.Cx} {scope:Scope} {cl:List (Str×Addr)}:∀{N:List Str} {js:List (Option Nat)},FreeOk X scope cl N js->js.length=N.length
 | _,_,.nil=>rfl
 | _,_,.own h=>by simp [h.len]
 | _,_,.free _ _ _ _ _ h=>by simp [h.len]
theorem FreeOk.get {X:L2.Cx} {scope:Scope} {cl:List (Str×Addr)}:∀{N:List Str} {js:List (Option Nat)} {i j:Nat} {x:Str},FreeOk X scope cl N js->N[i]?=some x->js[i]?=some (some j)->X.N[j]?=some x/\(X.env.kindOf x=some .cell\/X.env.kindOf x=some .free)/\L2.Vis X.env.scope x/\cl.lookup x=X.env.cells.lookup x/\((relabel scope X.env).names.lookup x=some .cell\/(relabel scope X.env).names.lookup x=some .free)
 | _,_,_,_,_,.nil,h,_=>by simp at h
 | _,_,0,_,_,.own _,_,h=>by simp at h
 | _,_,i+1,_,_,.own h,h1,h2=>FreeOk.get (i:=i) h (by simpa using h1) (by simpa using h2)
 | _,_,0,_,_,.free a b c d e _,h1,h2=>by simp at h1 h2;subst h1;subst h2;exact⟨a,b,c,d,e⟩
 | _,_,i+1,_,_,.free _ _ _ _ _ h,h1,h2=>FreeOk.get (i:=i) h (by simpa using h1) (by simpa using h2)
theorem ag7 {α:Type} {js:List (Option Nat)} {σ:List (Option α)} {i:Nat} {v:α} (h:(bst js σ)[i]?=some (some v)):∃j,js[i]?=some (some j)/\σ[j]?=some (some v):=by
 unfold bst at h
 rw [List.getElem?_map] at h
 rcases e:js[i]? with _ | (_ | j)
 ·rw [e] at h;cases h
 ·rw [e] at h;cases h
 ·rw [e] at h
  refine⟨j,rfl,?_⟩
  have h':σ.getD j none=some v:=Option.some.inj h
  rw [List.getD_eq_getElem?_getD] at h'
  rcases e2:σ[j]? with _ | o
  ·rw [e2] at h';cases h'
  ·rw [e2] at h';exact congrArg some h'
theorem RSt.bst {ρ:List Addr} {H:L2.Hp} {σp:PSt} {σ:L2.St} (h:RSt ρ H σp σ) (js:List (Option Nat)):RSt ρ H (Ws.bst js σp) (Ws.bst js σ):=by
 refine⟨by simp [Ws.bst],λi p hp=>?_⟩
 obtain⟨j,h1,h2⟩:=ag7 hp
 obtain⟨v,h3,h4⟩:=h.get j p h2
 refine⟨v,?_,h4⟩
 unfold Ws.bst
 rw [List.getElem?_map,h1]
 show some (σ.getD j none)=_
 rw [List.getD_eq_getElem?_getD,h3];rfl
structure az2 (X:L2.Cx) (scope:Scope) (cl:List (Str×Addr)):Prop where
 kind:scope.kind=.function
 clos:closureFor scope X.env=pure cl
 nocell:∀y∈scope.names,y.2≠.cell
 names:∀y∈scope.names,y.2=.local->scope.names.lookup y.1=some .local
 sub:∀p∈cl,X.env.cells.lookup p.1=some p.2
 has:∀y∈scope.names,y.2=.free->(cl.lookup y.1).isSome=true
theorem aa1 {X:L2.Cx} {scope:Scope} {cl:List (Str×Addr)} (S:az2 X scope cl) {x:Str} (h:(relabel scope X.env).names.lookup x=some .cell\/(relabel scope X.env).names.lookup x=some .free):∃c,cl.lookup x=some c:=by
 have key:∀k,(x,k)∈(relabel scope X.env).names->k=.cell\/k=.free->∃c,cl.lookup x=some c:=λk hm hk=>by
  unfold relabel at hm
  obtain⟨⟨n,k'⟩,hy,e⟩:=List.mem_map.mp hm
  dsimp only at e
  have hfree:n=x/\k'=.free:=by
   split at e
   ·rename_i hc
    cases e
    simp only [Bool.and_eq_true,beq_iff_eq] at hc
    exact⟨rfl,hc.1.1⟩
   ·cases e
    rcases hk with rfl | rfl
    ·exact absurd rfl (S.nocell _ hy)
    ·exact⟨rfl,rfl⟩
  obtain⟨rfl,rfl⟩:=hfree
  exact Option.isSome_iff_exists.mp (S.has _ hy rfl)
 rcases h with h | h
 ·exact key _ (PySem.mem_of_lookup h) (.inl rfl)
 ·exact key _ (PySem.mem_of_lookup h) (.inr rfl)
section
variable {X:L2.Cx} {cm:Nat->Addr} {pins:List (Addr×Obj)} {σ:L2.St} {H:L2.Hp} {s:Shared}
theorem ak2 {N:List Str} {js:List (Option Nat)} {scope:Scope} {cl:List (Str×Addr)} {C:Addr} {fp:List Addr} {h':Heap} {t':Nat} {m:Str->Option Value} (S:az2 X scope cl) (Fr:FreeOk X scope cl N js) (I:L2.Inv X pins σ H s) (hf:∀b∈fp,L2.T8 X pins H b) (hfl:∀b∈fp,b<s.heap.objs.size)
 (hC:s.heap.objs.size<=C) (kp:∀b u,s.heap.get? b=some u->h'.get? b=some u) (hns:h'.Ns C m):L2.Inv (blk X N scope cl C s H fp) [] (Ws.bst js σ) H { s with heap:=h',toks:=t' }:=by
 have I1:L2.Inv X pins σ H { s with heap:=h',toks:=t' }:=I.kept kp
 have sub:∀x c,cl.lookup x=some c->X.env.cells.lookup x=some c:=λx c e=>S.sub (x,c) (PySem.mem_of_lookup e)
 refine⟨⟨I.ok.mod,S.kind,I.ok.glob,I.ok.blt,hC,λx y c h1 h2=>I.ok.inj x y c (sub x c h1) (sub y c h2),λx hx=>aa1 S hx,λx c h=>(nomatch h),I.ok.hd,I.ok.frames,.inl rfl,λb hb=>⟨Nat.ne_of_lt (Nat.lt_of_lt_of_le (hfl b hb) hC),λx c e=>(hf b hb).2.2.2.2.1 x c (sub x c e)⟩,
  I.bs,Nat.le_trans I.ok.bsz I.sz,λb o e hb=>?_,λb hb hz=>?_,I.stack,I.stkFree⟩,rfl,I.bare,L2.Un.kept kp,⟨m,hns,λi x v h1 h2 h3=>?_⟩,λx c e=>I1.cell x c (sub x c e),I.hok.fresh hC,λx c e=>I.freeC x c (sub x c e),λp hp=>absurd (show p∈([]:List (Addr×Obj)) from hp) (by simp),I1.hok,by simp [Ws.bst,Fr.len,blk]⟩
 ·rcases (hf b hb).2.2.2.1 with z | z
  ·exact I.ok.noex b o e z
  ·exact absurd (Nat.lt_of_lt_of_le (Heap.lt_size e) (Nat.le_trans I.ok.bsz z)) (Nat.lt_irrefl _)
 ·rcases List.mem_cons.mp (I.stkSub b hz) with z | z
  ·exact (hf b hb).2.1 z
  ·exact (hf b hb).2.2.1 z
 ·obtain⟨j,j1,j2⟩:=ag7 h2
  obtain⟨a1,a2,a3,a4,a5⟩:=Fr.get h1 j1
  obtain⟨m0,_,hl⟩:=I1.loc
  obtain⟨u,ru,lk⟩:=hl j x v a1 j2 a3
  refine⟨u,ru,?_⟩
  rcases lk with ⟨q,_⟩ | ⟨_,c,e1,e2⟩
  ·rcases a2 with a2 | a2 <;> (rw [a2] at q;cases q)
  ·exact .inr ⟨a5,c,a4.trans e1,e2⟩
theorem aP7 {D:Addr} {o:L2.HO} {fp:List Addr} (I:L2.Inv X pins σ H s) (hD:L2.T8 X pins H D) (new:L2.ObjOk X.prog X.w (L2.upd H D o) s.heap D o):L2.Inv X pins σ (L2.upd H D o) s:=by
 have hn:=hD.1
 have ne:∀b u,H b=some u->b≠D:=λb u e z=>by rw [z,hn] at e;cases e
 obtain⟨hp,g,d,tk,os⟩:=s
 refine I.step (g':=g) (d':=d) (t':=tk) (h':=hp) (ch:=[D]) (λb hb=>?_) (λb u _ _ _ e _=>e) (λb u _ _ _ e _=>⟨u.slots,e⟩) (λb u hc e n=>by rw [L2.B0 (λz=>hc (by simp [z]))];exact n) (λb u _ e=>⟨u,e⟩)
  (λb xs e=>by rw [L2.B0 (ne b _ e)];exact e) (λb u xs e=>by rw [L2.B0 (ne b _ e)];exact e) (λb ps e=>⟨#[],by rw [L2.B0 (ne b _ e),e];simp⟩) (λm hm=>hm) (λb u e=>?_) I.bare
 ·have e:b=D:=by simpa using hb
  subst e
  exact⟨hD.2.2.2.1,hD.2.1,hD.2.2.2.2.1,hD.2.2.2.2.2⟩
 ·by_cases hb:b=D
  ·subst hb;rw [L2.B9] at e;cases e;exact new
  ·rw [L2.B0 hb] at e
   exact (I.hok b u e).stay (λc v _ q=>q) (λc q=>by rw [L2.B0 (ne c _ q)];exact q) λc xs q=>by rw [L2.B0 (ne c _ q)];exact q
end
section
variable {X:L2.Cx} {cm:Nat->Addr}
def PTs (X:L2.Cx) (ifs:List Expr) (t:L2.TT):Prop:=
 ∀(pins:List (Addr×Obj)) (s:Shared) (σ:L2.St) (H:L2.Hp) (Q:Bool->L2.Hp->Prop),L2.Inv X pins σ H s->t σ H Q->wpAny (model X.prog X.w) X.A (ag6 ifs X.env) (L2.TP X pins σ Q) X.xe s
theorem v7:PTs X [] (EvT X.K cm Z4):=λpins s σ H Q I ⟨ρ,A,σp,b,A',rl,rs,ev,k⟩=>by
 cases ev
 exact wpAny_tests_nil ⟨H,I,k ρ H (Ext.refl _ _) rl⟩
theorem ak3 {elt tg iter:Expr} {ifs:List Expr} {scope:Scope} {pos:Pos} {cl:List (Str×Addr)} {N:List Str} {js:List (Option Nat)} {g:GD} {t:TD} {e:ED} {pins:List (Addr×Obj)} {σ:L2.St} {H:L2.Hp} {s:Shared}
 {it:Addr} {fp:List Addr} {tn:Nat->Heap->Prop} {j:L2.It} {J:It} {ρ:List Addr} {A A':PHp} {σp:PSt} {n:Nat} {ys:List PV} {RR:Value->Addr->Result->Shared->Prop} {E:Value->Shared->Prop}
 (hc:X.calm=true) (S:az2 X scope cl) (Fr:FreeOk X scope cl N js)
 (hg:∀C s0 H0 fp,L2.PG (blk X N scope cl C s0 H0 fp) tg (EvG X.K cm g)) (ht:∀C s0 H0 fp,PTs (blk X N scope cl C s0 H0 fp) ifs (EvT X.K cm t)) (he:∀C s0 H0 fp,L2.PE (blk X N scope cl C s0 H0 fp) elt (EvE X.K cm e))
 (I:L2.Inv X pins σ H s) (T:L2.ac1 X.prog X.w X.K tg j fp it tn) (st:tn 0 s.heap) (hf:∀b∈fp,L2.T8 X pins H b) (rj:RIt X.K ρ H J j) (rl:Rel X.K cm ρ A H) (rs:RSt ρ H σp σ)
 (ev:Q7 J g t e (n+1) 0 (Ws.bst js σp) A=.ok ys A') (hy:ys.length<=LIM)
 (hRR:∀D C s' m,s'.heap.Ns C m->C≠X.env.locals->(∀h'',Heap.SameBut C s'.heap h''->∃ρ' H',Ext ρ H ρ' H'/\Rel X.K cm ρ' (A'++[.lst ys]) H'/\ρ'[A'.length]?=some D/\L2.Inv X pins σ H' { s' with heap:=h'' }/\L2.T8 X pins H' C)->RR (.ref D) C (.ok .next) s') :
 wpAny (model X.prog X.w) X.A (newList []) (λacc s₃=>wpAny (model X.prog X.w) X.A (newFunctionEnv scope X.env.globals cl [] X.env.qual none .none (some X.env)) (λcenv s₄=>
  codeAny (model X.prog X.w) X.A (.compStart (.ListComp elt [⟨tg,iter,ifs,0⟩] scope pos) 0 (.ref it) acc { cenv with scope:=relabel scope X.env }) (RR acc cenv.locals) s₄) E s₃) E s:=by
 refine wpAny_newObj_type (wpAny_newFunctionEnv S.nocell (by intro y hy;simp at hy) (λh₁ hns₁ hsb₁=>?_) S.kind)
 dsimp only at hns₁ hsb₁ ⊢
 generalize hH2:s.heap.push { cls:=.type "list",dict:=none,data:=.seq ([]:List Value).toArray }=H2 at hns₁ hsb₁ ⊢
 have hCz:H2.objs.size=s.heap.objs.size+1:=by rw [←hH2,Heap.size_push]
 have hfl:∀b∈fp,b<s.heap.objs.size:=λb hb=>by
  obtain⟨o,ho,_⟩:=T.obj 0 _ st b hb
  exact Heap.lt_size ho
 have hDC:s.heap.objs.size≠H2.objs.size:=by rw [hCz];exact Nat.ne_of_lt (Nat.lt_succ_self _)
 have hCle:s.heap.objs.size<=H2.objs.size:=by rw [hCz];exact Nat.le_succ _
 have old:∀b o,s.heap.get? b=some o->h₁.get? b=some o:=λb o q=>hsb₁.extBut b o (by rw [hCz];exact Nat.ne_of_lt (Nat.lt_succ_of_lt (Heap.lt_size q))) (Heap.get?_push_of_some _ (hH2 ▸ Heap.get?_push_of_some _ q))
 have hacc:h₁.PlainList s.heap.objs.size #[]:=⟨_,hsb₁.extBut _ _ hDC (Heap.get?_push_of_some _ (hH2 ▸ Heap.get?_push_size _ rfl))⟩
 generalize hDe:s.heap.objs.size=D at *
 generalize hCe:H2.objs.size=C at *
 let Y:=blk X N scope cl C s H fp
 have hDfp:∀b∈fp,b≠D:=λb hb=>Nat.ne_of_lt (hfl b hb)
 have lt_of:∀b o,s.heap.get? b=some o->b<D:=λb o q=>by rw [←hDe];exact Heap.lt_size q
 have nD:D∉L2.frs X.stack:=λz=>by
  obtain⟨_,o,ho,_⟩:=I.stack.mem z
  exact Nat.lt_irrefl _ (lt_of _ _ ho)
 have cellD:∀x c,X.env.cells.lookup x=some c->c<D:=λx c q=>by
  obtain⟨v,o,ho,_⟩:=I.cell x c q
  exact lt_of _ _ ho
 have subc:∀x c,cl.lookup x=some c->X.env.cells.lookup x=some c:=λx c q=>S.sub (x,c) (PySem.mem_of_lookup q)
 have fpY:∀(ps:List (Addr×Obj)) (H':L2.Hp),(∀p∈ps,∀b∈fp,p.1≠b)->(∀b∈fp,H' b=none)->∀b∈fp,L2.T8 Y ps H' b:=λps H' hps hn b hb=>
  ⟨hn b hb,Nat.ne_of_lt (Nat.lt_of_lt_of_le (hfl b hb) hCle),λhz=>(List.mem_cons.mp (I.stkSub b hz)).elim (hf b hb).2.1 (hf b hb).2.2.1,.inl hb,λx c q=>(hf b hb).2.2.2.2.1 x c (subc x c q),λp hp=>hps p (by simpa [Y,blk] using hp) b hb⟩
 have I0:L2.Inv Y [] (Ws.bst js σ) H { s with heap:=h₁,toks:=s.toks+([]:List (Str×Value)).length }:=ak2 S Fr I hf (λb hb=>by rw [hDe];exact hfl b hb) (by rw [hDe];exact hCle) old hns₁
 have st1:tn 0 h₁:=T.keep 0 _ _ st λb hb o q=>old b o q
 have loop:∀s₃:Shared,s₃={ s with heap:=h₁,toks:=s.toks+([]:List (Str×Value)).length }->
  codeAny (model X.prog X.w) X.A (.compLoop (.ListComp elt [⟨tg,iter,ifs,0⟩] scope pos) 0 (.ref it) (.ref D) (compEnvC scope cl C X.env)) (RR (.ref D) C) s₃:=by
  rintro s₃ rfl
  refine ak1 (λm s'=>∃i σ' H' ρ' B σp' rest accp accv its,L2.Inv Y [] σ' H' s'/\tn i s'.heap/\(∀b∈fp,H' b=none)/\Ext ρ H ρ' H'/\Rel X.K cm ρ' B H'/\RSt ρ' H' σp' σ'/\Q7 J g t e (m+1) i σp' B=.ok rest A'/\
   s'.heap.PlainList D (List.toArray its)/\H' D=none/\L2.Vals accv its/\RVs ρ' H' accp accv/\accp++rest=ys) ?_ n ⟨0,_,H,ρ,A,Ws.bst js σp,ys,[],[],[],I0,st1,λb hb=>(hf b hb).1,Ext.refl _ _,rl,rs.bst js,ev,hacc,by rw [←hDe];exact I.hok.fresh (Nat.le_refl _),.nil,.nil,rfl⟩
  rintro m s' ⟨i,σ',H',ρ',B,σp',rest,accp,accv,its,I1,st',fn',x1,rl1,rs1,ev1,pl,hDn,va,ra,hys⟩
  obtain⟨nD0,hDo⟩:=id pl
  have dD:∀v,({ cls:=.type "list",data:=.seq its.toArray nD0 }:Obj).data≠.cell v:=λv z=>nomatch z
  have I2:L2.Inv Y [(D,{ cls:=.type "list",data:=.seq its.toArray nD0 })] σ' H' s':=I1.pins_of λp hp=>by
   have e:p=(D,{ cls:=.type "list",data:=.seq its.toArray nD0 }):=by simpa using hp
   subst e
   exact⟨hDo,hDn,hDC,nD,dD⟩
  have f2:=fpY [(D,{ cls:=.type "list",data:=.seq its.toArray nD0 })] H' (λp hp b hb=>by
   have e:p=(D,{ cls:=.type "list",data:=.seq its.toArray nD0 }):=by simpa using hp
   subst e
   exact (hDfp b hb).symm) fn'
  rw [X2] at ev1
  obtain⟨x,B1,e1,ev2⟩:=A5 ev1
  obtain⟨rfl,hit⟩:=u7 rl1 (rj.mono x1) e1
  cases x with
  | none=>
    cases ev2
    rw [List.append_nil] at hys
    subst hys
    refine L2.thn (T.done Y rfl rfl rfl hc i _ s' σ' H' (λ_ _=>False) I2 f2 st' hit) λr s1 ⟨hr,I3⟩=>?_
    subst hr
    have hD3:=I3.pin (D,{ cls:=.type "list",data:=.seq its.toArray nD0 }) (by simp)
    obtain⟨mC,hnC,_⟩:=id I3.loc
    refine hRR D C s1 mC hnC (λz=>?_) λh2 sb=>?_
    ·have:=I.lt
     rw [←z,hDe] at this
     exact absurd (Nat.lt_of_lt_of_le this hCle) (Nat.lt_irrefl _)
    ·have ch:∀b∈fp,(b∈X.ex\/X.s₀.heap.objs.size<=b)/\b≠X.env.locals/\(∀x c,X.env.cells.lookup x=some c->c≠b)/\∀p∈X.pn++pins,p.1≠b:=λb hb=>⟨(hf b hb).2.2.2.1,(hf b hb).2.1,(hf b hb).2.2.2.2.1,(hf b hb).2.2.2.2.2⟩
     have IX:L2.Inv X pins σ H' s1:=I.call' I3.os I3.base I3.hok I3.bare ch
     have fpn:∀(H'':L2.Hp) b,D<=b->H'' b=none->L2.T8 X pins H'' b:=λH'' b hb hn=>by
      rw [←hDe] at hb
      exact I.fpOk (H':=H'') hb hn
     have IX2:L2.Inv X pins σ H' { s1 with heap:=h2 }:=IX.turned (t':=s1.toks) (λb o hb q=>(sb.2 b hb).trans q) I3.free (fpn H' C hCle I3.free).2.1 (fpn H' C hCle I3.free).2.2.2.1 (fpn H' C hCle I3.free).2.2.2.2.1 (fpn H' C hCle I3.free).2.2.2.2.2
     have hlen:accv.length<=sizeLine:=by rw [←ra.length];exact N8 hy
     have IX3:L2.Inv X pins σ (L2.upd H' D (.lst accv)) { s1 with heap:=h2 }:=aP7 (fp:=fp) IX2 (fpn H' D (Nat.le_refl _) hDn) ⟨hlen,its,nD0,va,(sb.2 D hDC).trans hD3.1⟩
     have ex:Ext ρ' H' (ρ'++[D]) (L2.upd H' D (.lst accv)):=Ext.new hDn
     refine⟨ρ'++[D],L2.upd H' D (.lst accv),x1.trans ex,rl1.alloc hDn ⟨accv,L2.B9,ra.mono ex⟩ rfl,by rw [←rl1.len];simp,IX3,fpn _ C hCle ?_⟩
     rw [L2.B0 (Ne.symm hDC)];exact I3.free
  | some v=>
    refine L2.thn (T.item Y rfl rfl rfl hc i _ s' σ' H' (λ_ _=>False) I2 f2 st' hit.1) λr s1 ⟨u,hr,h4⟩=>?_
    subst hr
    refine L2.thn h4 λ_ s2 ⟨xv,H3,I3,ru,hyl,st3,fn3⟩=>?_
    obtain⟨x2,rl3,rv3⟩:=hit.2 xv H3 hyl
    have f3:=fpY [(D,{ cls:=.type "list",data:=.seq its.toArray nD0 })] H3 (λp hp b hb=>by
     have e:p=(D,{ cls:=.type "list",data:=.seq its.toArray nD0 }):=by simpa using hp
     subst e
     exact (hDfp b hb).symm) fn3
    have I4:=I3.pinned f3 (T.obj _ _ st3)
    obtain⟨σ4,B4,e4,ev3⟩:=A5 ev2
    obtain⟨b5,B5,e5,ev4⟩:=A5 ev3
    refine L2.thn (hg C s H fp _ s2 σ' H3 xv u (λσ5 H5=>∃ρ5,Ext ρ' H3 ρ5 H5/\Rel X.K cm ρ5 B4 H5/\RSt ρ5 H5 σ4 σ5) I4 ru ⟨ρ',B1,σp',v,σ4,B4,rl3,rs1.mono x2,rv3,e4,λρ5 H5 σ5 x5 rl5 rs5=>⟨ρ5,x5,rl5,rs5⟩⟩) λ_ s5 ⟨σ5,H5,I5,ρ5,x5,rl5,rs5⟩=>?_
    refine L2.thn (ht C s H fp _ s5 σ5 H5 (λb H6=>b=b5/\∃ρ6,Ext ρ5 H5 ρ6 H6/\Rel X.K cm ρ6 B5 H6) I5 ⟨ρ5,B4,σ4,b5,B5,rl5,rs5,e5,λρ6 H6 x6 rl6=>⟨rfl,ρ6,x6,rl6⟩⟩) λok s6 ⟨H6,I6,hok,ρ6,x6,rl6⟩=>?_
    subst hok
    have x16:Ext ρ' H' ρ6 H6:=(x2.trans x5).trans x6
    have unpin:∀{σ7:L2.St} {H7:L2.Hp} {s7:Shared},L2.Inv Y ([(D,{ cls:=.type "list",data:=.seq its.toArray nD0 })]++L2.Y9 fp s2.heap) σ7 H7 s7->(s7.heap.get? D=some { cls:=.type "list",data:=.seq its.toArray nD0 }/\H7 D=none)/\(∀b∈fp,H7 b=none)/\(∀b∈fp,∀o,s2.heap.get? b=some o->s7.heap.get? b=some o):=λ{σ7 H7 s7} I7=>by
     have p1:=I7.pin (D,{ cls:=.type "list",data:=.seq its.toArray nD0 }) (List.mem_append_right _ (List.mem_append_left _ (by simp)))
     refine⟨⟨p1.1,p1.2.1⟩,λb hb=>?_,λb hb o q=>?_⟩
     ·obtain⟨o,q,_⟩:=T.obj _ _ st3 b hb
      exact (I7.pin (b,o) (List.mem_append_right _ (List.mem_append_right _ (L2.P1 hb q)))).2.1
     ·exact (I7.pin (b,o) (List.mem_append_right _ (List.mem_append_right _ (L2.P1 hb q)))).1
    have bare0:∀{ps:List (Addr×Obj)} {σ7:L2.St} {H7:L2.Hp} {s7:Shared},L2.Inv Y ps σ7 H7 s7->L2.Inv Y [] σ7 H7 s7:=λI7=>I7.pins_of λp hp=>absurd hp (by simp)
    cases ok with
    | false=>
      rw [if_neg (by simp)]
      rw [if_neg (by simp)] at ev4
      cases m with
      | zero=>rw [X1] at ev4;cases ev4
      | succ m=>
        obtain⟨⟨u1,u2⟩,u3,u4⟩:=unpin I6
        exact⟨m,Nat.lt_succ_self _,i+1,σ5,H6,ρ6,B5,σ4,rest,accp,accv,its,bare0 I6,T.keep _ _ _ st3 u4,u3,x1.trans x16,rl6,rs5.mono x6,ev4,⟨nD0,u1⟩,u2,va,ra.mono x16,hys⟩
    | true=>
      rw [if_pos rfl]
      rw [if_pos rfl] at ev4
      obtain⟨y,B7,e7,ev5⟩:=A5 ev4
      obtain⟨more,B8,e8,ev6⟩:=A5 ev5
      cases ev6
      refine L2.thn (he C s H fp _ s6 σ5 H6 (λyv H7=>∃ρ7,Ext ρ6 H6 ρ7 H7/\Rel X.K cm ρ7 B7 H7/\RV ρ7 H7 y yv) I6 ⟨ρ6,B5,σ4,y,B7,rl6,rs5.mono x6,e7,λρ7 H7 yv x7 rl7 rv7=>⟨ρ7,x7,rl7,rv7⟩⟩) λyu s7 ⟨yv,H7,I7,ry,ρ7,x7,rl7,rv7⟩=>?_
      obtain⟨⟨u1,u2⟩,u3,u4⟩:=unpin I7
      have hlen:its.length<=sizeLine:=by
       rw [←va.length,←ra.length]
       refine N8 (Nat.le_trans ?_ hy)
       rw [←hys,List.length_append];exact Nat.le_add_right _ _
      refine wpAny_list_append_plain (items:=its.toArray) ⟨nD0,u1⟩ (λh8 pl8 sb8=>?_) (by rw [List.size_toArray];exact hlen)
      have I8:L2.Inv Y [] σ5 H7 { s7 with heap:=h8 }:=(bare0 I7).turned (t':=s7.toks) (λb o hb q=>(sb8.2 b hb).trans q) u2 hDC (.inr (by show s.heap.objs.size<=D;rw [hDe];exact Nat.le_refl _)) (λx c q=>Nat.ne_of_lt (cellD x c (subc x c q))) (λp hp=>absurd (show p∈([]:List (Addr×Obj)) from hp) (by simp))
      cases m with
      | zero=>rw [X1] at e8;cases e8
      | succ m=>
        have x17:=x16.trans x7
        refine⟨m,Nat.lt_succ_self _,i+1,σ5,H7,ρ7,B7,σ4,more,accp++[y],accv++[yv],its++[yu],I8,T.keep _ _ _ st3 λb hb o q=>(sb8.2 b (hDfp b hb)).trans (u4 b hb o q),u3,x1.trans x17,rl7,(rs5.mono x6).mono x7,e8,by simpa using pl8,u2,va.append (.cons ry .nil),(ra.mono x17).append (.cons rv7 .nil),by rw [←hys];simp⟩
 exact codeAny_compStart_list (loop _ rfl) (T.self X.A 0 _ _ _ st1 (loop _ rfl))
theorem v8 {elt tg iter:Expr} {ifs:List Expr} {scope:Scope} {pos:Pos} {cl:List (Str×Addr)} {N:List Str} (js:List (Option Nat)) {it:ID} {g:GD} {t:TD} {e:ED} (hc:X.calm=true) (S:az2 X scope cl) (Fr:FreeOk X scope cl N js) (hi:L2.PI X tg iter (EvI X.K cm it))
 (hg:∀C s0 H0 fp,L2.PG (blk X N scope cl C s0 H0 fp) tg (EvG X.K cm g)) (ht:∀C s0 H0 fp,PTs (blk X N scope cl C s0 H0 fp) ifs (EvT X.K cm t)) (he:∀C s0 H0 fp,L2.PE (blk X N scope cl C s0 H0 fp) elt (EvE X.K cm e))
 (hs:∀x,foldedSetIterable iter X.env x=pure x:=by intro _;rfl):L2.PE X (.ListComp elt [⟨tg,iter,ifs,0⟩] scope pos) (EvE X.K cm (Z5 it (Ws.bst js) g t e)):=by
 intro pins s σ H Q I ⟨ρ,A,σp,v,A',rl,rs,ev,k⟩
 obtain⟨J,A1,e1,ev1⟩:=A5 ev
 obtain⟨n,A2,e2,ev2⟩:=A5 ev1
 obtain rfl:=W1 e2
 obtain⟨ys,A3,e3,ev3⟩:=A5 ev2
 obtain⟨c,ev4⟩:=B6 ev3
 cases ev4
 rw [eval_ListComp]
 refine wpAny_comprehension_free (use:=none) rfl hs S.clos S.kind S.names (wpAny_mono (hi pins s σ H (λj H1=>∃ρ1,Ext ρ H ρ1 H1/\Rel X.K cm ρ1 A2 H1/\RIt X.K ρ1 H1 J j) I ⟨ρ,A,σp,J,A2,rl,rs,e1,λρ1 H1 j x1 rl1 rj=>⟨ρ1,x1,rl1,rj⟩⟩) (λxv s1 h1=>wpAny_mono h1 (λitv s2 h2=>?_) λ_ _ z=>z) λ_ _ z=>z)
 obtain⟨itA,fp,tn,j,H1,rfl,I1,T,st,hf,ρ1,x1,rl1,rj⟩:=h2
 refine ak3 (RR:=λacc C=>compPost (model X.prog X.w) X.A X.xe none (L2.EP X pins σ Q) acc C) hc S Fr hg ht he I1 T st hf rj rl1 (rs.mono x1) e3 c λD C s' m hn hCL hfin=>⟨m,hn,λh'' sb=>?_⟩
 obtain⟨ρ2,H2,x2,rl2,hD,I2,_⟩:=hfin h'' sb
 exact⟨.ref D,H2,I2,rfl,k ρ2 H2 _ (x1.trans x2) rl2 (.ref hD)⟩
end
theorem R1 {α:Type} {P:α->Prop}:∀x∈([]:List α),P x:=λ_ h=>nomatch h
theorem fa_cons {α:Type} {P:α->Prop} {a:α} {l:List α} (h:P a) (r:∀x∈l,P x):∀x∈a::l,P x:=λx hx=>(List.mem_cons.mp hx).elim (λe=>e ▸ h) (r x)
end Ws
namespace Ws
open PySem PySem.W PyProof.Rows
end Ws
namespace Ws
open PySem
theorem az3 (K:PySem.W.Frag):Kit K:=⟨λa b ha hb=>by
 simp only [List.mem_cons,List.not_mem_nil,or_false] at ha hb
 rcases ha with rfl | rfl | rfl | rfl | rfl | rfl <;> rcases hb with rfl | rfl | rfl | rfl <;> with_unfolding_all rfl⟩
def ag8 (K:PySem.W.Frag):L2.Sp:=λvs H Q _=>∃(a:Addr) (ns:List Int),vs=[.ref a]/\L2.SqL K H a (ns.map L2.V.int)/\ns.length<=63/\L2.aI1 H/\∀H',Q (.bl true) H'
theorem aJ7 {K:PySem.W.Frag} {cm:Nat->Addr} {f:Fun} (h:∀ns:List Int,∃A',f [.ref 0] [.ro (ns.map .int)]=.ok (.bl true) A') (vs:List L2.V) (H:L2.Hp) (Q:L2.VK) (E:L2.XK) (q:ag8 K vs H Q E):SpF K cm f 1 vs H Q E:=by
 obtain⟨a,ns,rfl,hS,_,hO,k⟩:=q
 obtain⟨A',e⟩:=h ns
 have fz:Fz K H a (ns.map L2.V.int):=by
  rcases hS with (hS | hS) | hS
  ·rcases hO a with z | ⟨o,xs,z⟩ <;> (rw [hS] at z;cases z)
  ·exact .inl hS
  ·exact .inr hS
 refine⟨[a],[.ro (ns.map .int)],[.ref 0],.bl true,A',⟨rfl,λn o b h1 h2=>?_,λm n b o p h1 h2 h3 h4 m1 m2=>?_⟩,.cons (.ref rfl) .nil,rfl,e,λρ' H' v' _ _ rv=>by cases rv;exact k H'⟩
 ·cases n with
  | zero=>simp at h1 h2;subst h1;subst h2;exact⟨_,fz,RVs.ints ns⟩
  | succ n=>simp at h1
 ·cases m with
  | zero=>cases n with
    | zero=>rfl
    | succ n=>simp at h4
  | succ m=>simp at h3
end Ws
namespace Ws
open PySem PySem.W
def az4 (ok:Thread->Bool) (stp:SharedT->Thread->Option (SharedT×Thread)) (n:Nat):SharedT->Thread->Option SharedT:=
 @Nat.rec (λ_=>SharedT->Thread->Option SharedT) (λ_ _=>none)
  (λ_ ih s t=>@Bool.rec (λ_=>Option SharedT) (@Bool.rec (λ_=>Option SharedT) none (@Option.rec _ (λ_=>Option SharedT) none (λr=>ih r.1 r.2) (stp s t)) (ok t)) (some s) (through t)) n
theorem az5 {tb:String->Option Builtin} {p:Program} {w:World} {m:Nat} {an:Option Value}:∀(n:Nat) (S:SharedT) (t:Thread) (R:SharedT),
 az4 (stepOk m an) (stepT (denote tb) p w) n S t=some R->topRun tb p w m an n S.abs t=some R.abs:=by
 intro n
 induction n with
 | zero=>intro S t R h;cases h
 | succ n ih=>
   intro S t R h
   unfold topRun
   have h':@Bool.rec (λ_=>Option SharedT) (@Bool.rec (λ_=>Option SharedT) none (@Option.rec _ (λ_=>Option SharedT) none (λr=>az4 (stepOk m an) (stepT (denote tb) p w) n r.1 r.2) (stepT (denote tb) p w S t)) (stepOk m an t)) (some S) (through t)=some R:=h
   cases a:through t with
   | true=>rw [a] at h';cases h';rfl
   | false=>
     rw [a] at h'
     cases b:stepOk m an t with
     | false=>rw [b] at h';cases h'
     | true=>
       rw [b] at h'
       cases c:stepT (denote tb) p w S t with
       | none=>rw [c] at h';cases h'
       | some r=>
         rw [c] at h'
         obtain⟨S1,t1⟩:=r
         show (match step (denote tb) p w S.abs t with | .go s' t'=>topRun tb p w m an n s' t' | .halt _ _=>none)=_
         rw [stepT_spec c]
         exact ih S1 t1 R h'
def ar4:List Obj->Nat->BT->BT
 | [],_,t=>t
 | o::r,n,t=>ar4 r (n+1) (t.ins n o)
def ar5 (w:World) (os:OsState):SharedT:=⟨ar4 (boot_heap w.params).objs.toList 0 .nil,11,(boot_heap w.params).life,#[],boot_drawn,boot_toks,os⟩
theorem ar6 (w:World) (os:OsState):(ar5 w os).abs=⟨boot_heap w.params,#[],boot_drawn,boot_toks,os⟩:=by kernel_rfl
theorem az6 (P:Params):((boot_heap P).isNs mainGlobals,(boot_heap P).objs.size,(boot_heap P).nsMap mainGlobals "__annotations__")=(true,11,some (.ref 6)):=by kernel_rfl
def aa2 (h:Heap):Frag:=(List.range h.objs.size).filterMap λa=>(h.get? a).map λo=>(a,o)
def ag9 (S:SharedT):Frag:=(List.range S.n).filterMap λa=>(alive ((S.tree.get a).getD default)).map λo=>(a,o)
theorem W4 {h:Heap}:∀(l:List Nat) {a:Addr} {o:Obj},(l.filterMap λa=>(h.get? a).map λo=>(a,o)).lookup a=some o->h.get? a=some o
 | [],_,_,e=>by cases e
 | b::l,a,o,e=>by
   rw [List.filterMap_cons] at e
   cases q:h.get? b with
   | none=>rw [q] at e;exact W4 l e
   | some x=>
     rw [q] at e
     change ((b,x)::_).lookup a=some o at e
     rw [List.lookup_cons] at e
     by_cases z:(a == b)=true
     ·rw [z] at e;cases e;rw [beq_iff_eq.mp z];exact q
     ·have z':(a == b)=false:=by simpa using z
      rw [z'] at e;exact W4 l e
theorem az7 (h:Heap):(aa2 h).In h:=λa o e=>W4 _ e
theorem ar7 (S:SharedT):aa2 S.abs.heap=ag9 S:=by
 have hs:S.abs.heap.objs.size=S.n:=absHeap_size ..
 unfold aa2 ag9
 rw [hs]
 have key:∀l:List Nat,(∀a∈l,a<S.n)->(l.filterMap λa=>(S.abs.heap.get? a).map λo=>(a,o))=l.filterMap λa=>(alive ((S.tree.get a).getD default)).map λo=>(a,o):=by
  intro l
  induction l with
  | nil=>intro _;rfl
  | cons a l ih=>
    intro h
    have ha:S.abs.heap.get? a=alive ((S.tree.get a).getD default):=by
     show (absHeap S.tree S.n S.life).get? a=_
     unfold Heap.get?
     rw [absHeap_at,if_pos (h a (.head _))]
     cases (S.tree.get a).getD default with
     | mk c d dt sl=>cases dt <;> rfl
    rw [List.filterMap_cons,List.filterMap_cons,ha,ih λb hb=>h b (.tail _ hb)]
 exact key _ λa ha=>List.mem_range.mp ha
def Kw (p:Program) (N:Nat) (w:World):Frag:=match openEnds treeTable p w N with
 | some s=>aa2 s.heap
 | none=>[]
def lk {α:Type} (sn:Program->List Str->List Str->(Shared->Bool)->Bool->Shared->α) (p q:Program) (loose:List Str) (Xt:Shared->Bool) (w:World) (s:Shared):Bool×α:=
 (staticsOk (importedModules p.main.body) (boot_heap w.params) s.heap&&namesBound p s.heap&&gensDone s&&laidKept (boot_heap w.params) s.heap,sn q loose (importedModules p.main.body) Xt true s)
theorem az8 {p p':Program} {q:Program->Program} {loose:List Str} {Xt:Program->Shared->Bool} {N:Nat} {β:Type} {ob:Frag->β} {va:Program->β}
 {ok:Nat->Option Value->Thread->Bool} {st:(Code->Sem Fin)->Program->World->SharedT->Thread->Option (SharedT×Thread)} {dn:(String->Option Builtin)->Code->Sem Fin} {tb:String->Option Builtin}
 {sn:Program->List Str->List Str->(Shared->Bool)->Bool->Shared->_}
 (hp:p=p') (hok:stepOk=ok) (hst:stepT=st) (hdn:denote=dn) (htb:treeTable=tb) (hsn:openSeen=sn)
 (op:∀w:World,(fencedOpening treeTable p w N).map (λs=>(s.heap,s.gens,s.drawn,s.toks))=some (boot_heap w.params,#[],boot_drawn,boot_toks))
 (ck:∀(w:World) (os:OsState),(az4 (ok 11 (some (.ref 6))) (st (dn tb) p' w) N (ar5 w os) (topStub p')).map (λS=>(lk sn p' (q p') loose (Xt p') w S.abs,ob (ag9 S)))=some ((true,openGood (q p') loose),va p')) :
 LeftO p (q p) loose (Xt p) (λs=>aa2 s.heap) (Kw p N) N/\∀w,ob (Kw p N w)=va p:=by
 subst hp hok hst hdn htb hsn
 have key:∀w,∃s,openEnds treeTable p w N=some s/\openSeen (q p) loose (importedModules p.main.body) (Xt p) true s=openGood (q p) loose/\ob (aa2 s.heap)=va p:=by
  intro w
  obtain⟨⟨h,gs,d,k,os⟩,e,e'⟩:=Option.map_eq_some_iff.mp (op w)
  simp only [Prod.mk.injEq] at e'
  obtain⟨rfl,rfl,rfl,rfl⟩:=e'
  obtain⟨S,r,c⟩:=Option.map_eq_some_iff.mp (ck w os)
  simp only [lk,Prod.mk.injEq] at c
  obtain⟨⟨c1,c2⟩,c3⟩:=c
  have r1:=az5 N _ _ _ r
  rw [ar6] at r1
  have b:=az6 w.params
  simp only [Prod.mk.injEq] at b
  obtain⟨b1,b2,b3⟩:=b
  refine⟨S.abs,?_,c2,by rw [ar7];exact c3⟩
  unfold openEnds
  rw [e]
  show topFrom treeTable p w N _=_
  unfold topFrom
  dsimp only
  rw [b1,b2,b3,r1]
  show (match staticsOk (importedModules p.main.body) (boot_heap w.params) S.abs.heap&&namesBound p S.abs.heap&&gensDone S.abs&&laidKept (boot_heap w.params) S.abs.heap with | true=>some S.abs | false=>none)=_
  rw [c1]
 refine⟨λw=>?_,λw=>?_⟩
 ·obtain⟨s,e,c2,_⟩:=key w
  rw [e]
  show some _=some _
  unfold Kw
  rw [e]
  exact congrArg some (Prod.ext c2 rfl)
 ·obtain⟨s,e,_,c3⟩:=key w
  unfold Kw
  rw [e]
  exact c3
def aP8:Stmt->Pos
 | .FunctionDef _ _ _ _ _ _ _ _ _ p=>p
 | _=>⟨0,0,0,0⟩
theorem ar8 {l:OpenLaw} {q:Program} {loose:List Str} {N:Nat} {d:DefRec}
 (left:LeftO l.row.prog q loose (λs=>xlAt q [] s&&recOk (RowW.records l.row.toRowW) s) (λs=>aa2 s.heap) (Kw l.row.prog N) N)
 (hdef:defOf q l.row.name=some (d,[])) (hp:l.row.prog.theDef l.row.name=some (d.params,d.body,d.scope)) (hk:kwWritten? d.params.kwonlyargs d.params.kw_defaults=some [])
 (hwr:(!l.row.writes||l.row.records.isEmpty)=true) (k1:l.row.wellSaid=true) (ok:(chainsOk q&&opensWell l.row.prog&&(frees l.row.toRowW&&l.row.within.isEmpty))=true) (hb:l.row.prog.bare) (hw:l.row.toRowW.promised)
 (call:WalkO q loose (XL q []) (λw h=>(Kw l.row.prog N w).In h) l.row.toRowW d [] λf vs=>PySem.call f vs):l.row.Holds:=
 holds_open left (λw s e=>by rw [←e];exact az7 _) (λw h h' x k=>x.keeps k) (λs e=>xl_of s (Bool.and_eq_true_iff.mp e).1) XL.keeps hdef hp hk (λs e=>recFacts_of (Bool.and_eq_true_iff.mp e).2) hwr k1 ok hb hw call
theorem p1 {α β:Type} {a a':α} {b b':β} (h:(a,b)=(a',b')):a=a':=(Prod.mk.inj h).1
theorem p2 {α β:Type} {a a':α} {b b':β} (h:(a,b)=(a',b')):b=b':=(Prod.mk.inj h).2
theorem s2 {α β γ:Type} {a a':α} {b b':β} {c c':γ} (h:(a,b,c)=(a',b',c')):c=c':=p2 (p2 h)
theorem s4 {α β γ δ ε:Type} {a a':α} {b b':β} {c c':γ} {d d':δ} {e e':ε} (h:(a,b,c,d,e)=(a',b',c',d',e')):e=e':=s2 (s2 h)
end Ws
namespace Ws
open PySem
theorem ak4 {l:PySem.W.OpenLaw} {q:Program} {loose:List Str} {XP:(Str->Option Value)->Heap->Prop} {YP:World->Heap->Prop} {d:DefRec} {K:World->PySem.W.Frag} {k:Nat} {x:Str} (hn:l.most=some 63) (hdf:d.params.defaults=[]) (hr:L2.Room k PySem.callerA)
 (hY:∀(w:World) (h:Heap),YP w h->(K w).In h)
 (F:∀(w:World) (mg:Str->Option Value) (fa:Addr) (h:Heap),(K w).In h->h.Ns mainGlobals mg->mg d.name=some (.ref fa)->
  ∃fd:FuncData,(∀(s:Shared) (u:Value),BindsTo s fd ⟨[u],[]⟩ [(x,u)])/\∀base:Heap,(K w).In base->base.Ns mainGlobals mg->L2.FnOk l.prog w (K w) mg base L2.CX0 k fa fd [x] (ag8 (K w))) :
 PySem.W.WalkO q loose XP YP l.row.toRowW d [] (λf vs=>PySem.call f vs):=by
 refine Att.z3 hn hdf λw s₀ s₁ mg mb fa o pm cd doc a vs ns G Y ho hd hcd hmg hobj hints hlen hg=>?_
 obtain⟨fd,hb,hF⟩:=F w mg fa _ (hY w _ Y) G.T.g hmg
 exact L2.ao9 (hY w _ Y) G.T.g G.T.b G.T.builtins G.T.nolimit hg hobj hints (Nat.le_trans hlen (by decide)) hr hF hb (λH hO hS=>⟨a,ns,rfl,hS,hlen,hO,λ_=>rfl⟩) λH e s' z=>z
end Ws
open PySem PySem.Spec PyProof.Rows
namespace Ws
end Ws
namespace Ws
open PySem
end Ws
namespace Ws
open PySem PySem.W PyProof.Rows
section
variable {X:L2.Cx} {cm:Nat->Addr}
theorem ah0:∀{bs:List Bool} {us:List Value},L2.Vals (bs.map L2.V.bl) us->∀(i:Nat) (v:Value),us[i]?=some v->∃b,bs[i]?=some b/\v=.bool b
 | [],_,.nil,i,v,h=>by simp at h
 | b::bs,_,.cons r t,0,v,h=>by
   cases r
   simp at h;subst h
   exact⟨b,rfl,rfl⟩
 | b::bs,_,.cons r t,i+1,v,h=>ah0 t i v (by simpa using h)
theorem ak5 (bs:List Bool):((List.range bs.length).all λi=>(bs[i]?).getD true)=bs.all id:=by
 induction bs with
 | nil=>rfl
 | cons b r ih=>
   rw [List.length_cons,List.range_succ_eq_map,List.all_cons,List.all_map,List.all_cons,←ih]
   rfl
def aT9 (K:PySem.W.Frag):List L2.V->L2.Hp->L2.VK->Prop:=λvs H Q=>∃(a:Addr) (bs:List Bool),vs=[.ref a]/\L2.SqL K H a (bs.map L2.V.bl)/\Q (.bl (bs.all id)) H
theorem ak6 (hcalm:X.calm=true):L2.S4 X (.builtin "all") (aT9 X.K):=by
 intro pins s σ H xs us Q I r h
 obtain⟨a,bs,rfl,hq,q⟩:=h
 obtain⟨u,rfl,rx⟩:=L2.Q5 r
 cases rx
 obtain⟨its,ri,pl,hz⟩:=I.list hq
 have hil:=pl.isList
 have hal:a<s.heap.objs.size:=by
  obtain⟨_,e,_⟩:=hil
  exact Heap.lt_size e
 have hlen:its.length=bs.length:=by
  have:=ri.length
  simpa using this.symm
 refine call_all_walk (wpAny_pyIter_list hil ⟨s.heap.objs.size,[s.heap.objs.size,a],[s.heap.objs.size],its.toArray.size,_,_,λi=>(bs[i]?).getD true,rfl,
  Walks.list (A:=X.A.in1) (I.ok.hd hcalm) _ a (Nat.ne_of_lt hal) its.toArray,⟨⟨_,Heap.get?_push_size _ rfl,rfl,rfl⟩,hil.push _⟩,?_,?_⟩)
 ·intro i v s2 Q2 E2 hP hQ2
  obtain⟨b,e1,rfl⟩:=ah0 ri i v (by simpa using hP)
  have hQ3:Q2 ((bs[i]?).getD true) s2:=hQ2
  rw [e1] at hQ3
  exact wpAny_truthy_bool hQ3
 ·intro h2 tk hk
  have e1:its.toArray.size=bs.length:=by rw [List.size_toArray];exact hlen
  rw [e1,ak5]
  exact⟨.bl _,H,I.kept (t':=tk) (λb o e=>hk b o (λhm=>by rw [List.mem_singleton.mp hm] at e;exact absurd (Heap.lt_size e) (Nat.lt_irrefl _)) (Heap.get?_push_of_some _ e)),rfl,q⟩
theorem n6:∀{l:List PV} {bs:List Bool},S6 l=some bs->l=bs.map .bl
 | [],bs,h=>by simp [S6] at h;subst h;rfl
 | x::r,bs,h=>by
   cases x with
   | bl b=>
     simp only [S6,Option.map_eq_some_iff] at h
     obtain⟨m,h1,rfl⟩:=h
     rw [n6 h1];rfl
   | _=>simp [S6] at h
theorem ah1:∀{ρ:List Addr} {H:L2.Hp} {bs:List Bool} {xs:List L2.V},RVs ρ H (bs.map PV.bl) xs->xs=bs.map L2.V.bl
 | _,_,[],_,.nil=>rfl
 | _,_,b::bs,_,.cons h t=>by cases h;rw [ah1 t];rfl
theorem aD8 {e:Expr} {d:ED} {p pos:Pos} (hcalm:X.calm=true) (he:L2.PE X e (EvE X.K cm d)) (hg:L2.Gl X "all") (hm:X.mg "all" = none) (hs:starEach [e] X.env=(false,eval e X.env)::starEach [] X.env:=by exact D2 rfl):L2.PE X (.Call (.Name "all" p) [e] [] pos) (EvE X.K cm (ay2 d)):=
 D9 (L2.T9 (ak6 hcalm) hg hm (by rfl) (r_cons he r_nil hs) (he:=hs)) λσ H Q h=>T5 (f:=λx=>match x with | .ref n=>bnd (C7 n) λl=>(match S6 l with | some bs=>ret (.bl (bs.all id)) | none=>stuck) | _=>stuck) (λ_=>rfl) (λρ A H x z A' v Q rl rx ev k=>by
  cases x with
  | ref n=>
    obtain⟨l,A1,e1,ev1⟩:=A5 ev
    obtain⟨rfl,a,xs,rfl,hq,hv⟩:=E6 rl rx e1
    cases hb:S6 l with
    | none=>rw [hb] at ev1;cases ev1
    | some bs=>
      rw [hb] at ev1
      cases ev1
      rw [n6 hb] at hv
      exact⟨a,bs,rfl,by rw [←ah1 hv];exact hq,k ρ H _ (Ext.refl _ _) rl (.bl _)⟩
  | _=>cases ev) h
theorem r_neg {i:Int} {j:Nat} {pos pos':Pos}:L2.PE X (.UnaryOp .USub (.Constant (.int i) j pos) pos') (EvE X.K cm (eK (.int (-i)))):=
 D9 (L2.aO0 L2.aH0 L2.am5) λσ H Q ⟨ρ,A,σp,v,A',rl,rs,ev,k⟩=>by
  cases ev
  exact⟨i,rfl,k ρ H _ (Ext.refl _ _) rl (.int _)⟩
end
end Ws
namespace Ws
open PySem
end Ws
namespace Ws
open PySem PySem.W PyProof.Rows
section
variable {X:L2.Cx} {cm:Nat->Addr}
def az9 (K:PySem.W.Frag):List L2.V->L2.Hp->L2.VK->Prop:=λvs H Q=>∃(a:Addr) (xs:List L2.V),vs=[.ref a]/\L2.SqL K H a xs/\∀p,H p=none->Q (.ref p) (L2.upd H p (.tup xs))
theorem aa3:L2.S4 X (.type "tuple") (az9 X.K):=by
 intro pins s σ H xs us Q I r h
 obtain⟨a,ys,rfl,hq,q⟩:=h
 obtain⟨u,rfl,rx⟩:=L2.Q5 r
 cases rx
 obtain⟨its,ri,pl,hz⟩:=I.list hq
 have hl:ys.length=its.length:=ri.length
 refine call_tuple_list pl.isList (λh' hk=>?_) (by rw [List.size_toArray,←hl];exact hz)
 have I1:=I.kept (t':=s.toks) hk
 exact⟨.ref h'.objs.size,_,I1.laid (t':=s.toks) (a:=h'.objs.size) (o:=.tup ys) (λb o e=>Heap.get?_push_of_some _ e) (Nat.le_refl _) ⟨hz,its,ri,_,Heap.get?_push_size _ rfl,rfl,_,rfl⟩,rfl,q _ (I1.hok.fresh (Nat.le_refl _))⟩
theorem ak7 {e:Expr} {d:ED} {p pos:Pos} (he:L2.PE X e (EvE X.K cm d)) (hg:L2.Gl X "tuple") (hm:X.mg "tuple" = none) (hv:bootBuiltins "tuple" = some (.type "tuple")) (hs:starEach [e] X.env=(false,eval e X.env)::starEach [] X.env:=by exact D2 rfl):L2.PE X (.Call (.Name "tuple" p) [e] [] pos) (EvE X.K cm (Z6 d)):=
 D9 (L2.R5 aa3 hg hm hv (r_cons he r_nil hs) (he:=hs)) λσ H Q h=>T5 (f:=λx=>match x with | .ref n=>bnd (C7 n) λl=>C3 (l.length<=LIM) (ret (.tup l)) | _=>stuck) (λ_=>rfl) (λρ A H x z A' v Q rl rx ev k=>by
  cases x with
  | ref n=>
    obtain⟨l,A1,e1,ev1⟩:=A5 ev
    obtain⟨rfl,a,xs,rfl,hq,hv⟩:=E6 rl rx e1
    obtain⟨c,ev2⟩:=B6 ev1
    cases ev2
    refine⟨a,xs,rfl,hq,λp hp=>?_⟩
    have ex:Ext ρ H ρ (L2.upd H p (.tup xs)):=Ext.same hp
    exact k ρ _ _ ex (rl.tup hp) (.tup L2.B9 (hv.mono ex))
  | _=>cases ev) h
end
section
variable {prog:Program} {w:World} {A:Around} {E:Value->Shared->Prop} {s:Shared}
theorem ak8 {t sl:Addr} {items:Array Value} {vl vu:Value} {lo hi:Option Int} {Q:Value->Shared->Prop} (ht:IsTup s.heap t items) (hs:s.heap.IsSliceOf sl vl vu .none) (pl:IsPart vl lo) (pu:IsPart vu hi)
 (hw:HT.sIx items.size 0 lo=0/\HT.sIx items.size items.size hi=items.size) (h:Q (.ref t) s):wpAny (model prog w) A (getItem (.ref t) (.ref sl)) Q E s:=by
 obtain⟨os,hos,hcs,hds⟩:=id hs
 have hTs:s.TypeIs (.ref sl) "slice":=⟨os,hos,hcs⟩
 unfold getItem
 try with_reducible refine wpAny_holding ?_
 first | refine wpAny_bind (wpAny_pure ?_) | skip
 refine wpAny_bind (wpAny_sequenceKey ht.typeIs (by decide) ?_)
 refine wpAny_bind (wpAny_callSpecial?_slot (name:=Str.ofString "__getitem__") ht.typeIs PyProof.Rows.slot_tuple_getitem (wpAny_call_entry PyProof.Rows.slot_tuple_getitem ht.typeIs entry_tuple_getitem ?_ (args_tuple_getitem _ _)))
 show wpAny _ _ (Builtin.Tuple.tupleItemsOf (.ref t)>>=_) _ _ s
 refine wpAny_bind (tupleItemsOf_ ht ?_)
 refine wpAny_bind (wpAny_typeOf hTs ?_)
 rw [if_pos (by decide)]
 refine wpAny_bind (HT.sliceApplied_gen hs pl pu ?_)
 have hyes:(((HT.sIx items.size 0 lo:Nat):Int) == 0&&(1:Int) == 1&&(HT.sIx items.size items.size hi - HT.sIx items.size 0 lo) == items.size)=true:=by
  rw [hw.1,hw.2];simp
 show wpAny _ _ (if (((HT.sIx items.size 0 lo:Nat):Int) == 0&&(1:Int) == 1&&(HT.sIx items.size items.size hi - HT.sIx items.size 0 lo) == items.size)=true then _ else _) _ _ s
 rw [if_pos hyes]
 refine wpAny_bind (m:=Builtin.Tuple.tupleIsExact _) (wpAny_bind (wpAny_typeOf ht.typeIs (wpAny_pure ?_)))
 rw [if_pos (by decide)]
 exact wpAny_bind (wpAny_rule (wpAny_pure ⟨_,rfl,wpAny_pure h⟩))
end
section
variable {X:L2.Cx} {cm:Nat->Addr}
def aU0 (K:PySem.W.Frag):L2.V->Option Int->Option Int->L2.Hp->L2.VK->Prop:=λx lo hi H Q=>∃a xs,x=.ref a/\L2.SqT K H a xs/\(HT.sIx xs.length 0 lo=0/\HT.sIx xs.length xs.length hi=xs.length)/\Q (.ref a) H
theorem ar9:L2.SlR X (aU0 X.K):=by
 intro pins s σ H x v vl vu lo hi sl Q I rx hs pl pu h
 obtain⟨a,xs,rfl,hx,hw,q⟩:=h
 cases rx
 obtain⟨its,r,ht,hz⟩:=I.tuple hx
 have hlen:its.toArray.size=xs.length:=by rw [List.size_toArray];exact r.length.symm
 exact⟨"tuple",_,PyProof.Rows.slot_tuple_getitem.lookup,ht.typeIs,ak8 ht hs pl pu (by rw [hlen];exact hw) ⟨.ref a,H,I,rfl,q⟩⟩
theorem aA0 {α:Type} (xs:List α) {lo hi:Option Int} (h:G0 xs.length 0 lo=0/\G0 xs.length xs.length hi=xs.length):cut xs lo hi=xs:=by
 unfold cut;rw [h.1,h.2];simp
theorem r_cut2 {e:Expr} {lo hi:Option Expr} {d:ED} {dl dh:LD} {p2 pos:Pos} (he:L2.PE X e (EvE X.K cm d)) (hl:L2.PO X lo (EvL X.K cm dl)) (hu:L2.PO X hi (EvL X.K cm dh)):L2.PE X (.Subscript e (.Slice lo hi none p2) pos) (EvE X.K cm (X3 d dl dh)):=
 D9 (L2.z0 ((L2.sl_list.or L2.ao5).or ar9) he hl hu) λσ H Q ⟨ρ,A,σp,v,A',rl,rs,ev,k⟩=>by
  obtain⟨x,A1,e1,ev1⟩:=A5 ev
  obtain⟨l,A2,e2,ev2⟩:=A5 ev1
  obtain⟨h,A3,e3,ev3⟩:=A5 ev2
  refine⟨ρ,A,σp,x,A1,rl,rs,e1,λρ1 H1 v1 x1 rl1 rv1=>⟨ρ1,A1,σp,l,A2,rl1,rs.mono x1,e2,λρ2 H2 x2 rl2=>⟨ρ2,A2,σp,h,A3,rl2,(rs.mono x1).mono x2,e3,λρ3 H3 x3 rl3=>?_⟩⟩⟩
  have x13:=(x1.trans x2).trans x3
  have rv3:=rv1.mono (x2.trans x3)
  cases x with
  | ref n=>
    obtain⟨xs,A4,e4,ev4⟩:=A5 ev3
    obtain⟨rfl,a,vs,rfl,hs,r⟩:=E6 rl3 rv3 e4
    cases ev4
    refine .inl (.inl ⟨a,vs,rfl,hs,λp hp=>?_⟩)
    have e:Ext ρ3 H3 (ρ3++[p]) (L2.upd H3 p (.lst (L2.j8 vs l h))):=Ext.new hp
    exact k (ρ3++[p]) _ _ (x13.trans e) (rl3.alloc hp ⟨_,L2.B9,(r.slc l h).mono e⟩ rfl) (.ref (by rw [←rl3.len];simp))
  | tup xs=>
    cases ev3
    by_cases c:G0 xs.length 0 l=0/\G0 xs.length xs.length h=xs.length
    ·cases rv3 with
     | tup ha r=>
       refine .inr ⟨_,_,rfl,L2.SqT.of ha,by rw [K8,K8,←r.length];exact c,k ρ3 _ _ x13 rl3 ?_⟩
       rw [aA0 xs c]
       exact .tup ha r
    ·cases rv3 with
     | tup ha r=>
       refine .inl (.inr ⟨_,_,rfl,L2.SqT.of ha,by rw [K8,K8,←r.length];exact c,λp hp=>?_⟩)
       exact k ρ3 _ _ (x13.trans (Ext.same hp)) (rl3.tup hp) (.tup L2.B9 ((r.slc l h).mono (Ext.same hp)))
  | _=>cases ev3
def aD9 (K:PySem.W.Frag):L2.R2:=λx y H Q=>∃a b ys,x=.ref a/\y=.ref b/\L2.SqT K H a []/\L2.SqT K H b ys/\Q (.ref b) H
theorem aA1:L2.OpR X (binaryOp .Add) (aD9 X.K):=by
 intro pins s σ H x y v u Q I rx ry h
 obtain⟨a,b,ys,rfl,rfl,ha,hb,q⟩:=h
 cases rx
 cases ry
 obtain⟨its,r1,p1,_⟩:=I.tuple ha
 obtain⟨its2,r2,p2,_⟩:=I.tuple hb
 cases r1
 obtain⟨⟨cls,dd,data,sl⟩,ho,hc,n,hd⟩:=id p1
 obtain⟨⟨cls2,dd2,data2,sl2⟩,ho2,hc2,n2,hd2⟩:=id p2
 simp only at hc hd hc2 hd2
 subst hc hd hc2 hd2
 exact concat_meets ⟨_,ho,rfl⟩ ⟨_,ho2,rfl⟩ noFill_tuple_add seq_tuple_add PySem.F.slot_tuple_add PySem.F.entry_tuple_add (PySem.F.args_tuple_add_2 _ _)
  (tuple_addW0 a b #[] its2.toArray n n2 dd dd2 sl sl2 rfl) ⟨ho,ho2,⟨.ref b,H,I,rfl,q⟩⟩
def aE0 (K:PySem.W.Frag):L2.R2:=λx y H Q=>aq4 K x y H Q\/aD9 K x y H Q
theorem op_add4:L2.OpR X (binaryOp .Add) (aE0 X.K):=op_add3.or aA1
theorem ok_add2:K3 X.K cm K0 (aE0 X.K):=λρ A H x y z A' vx vy Q rl rx ry ev k=>by
 cases x with
 | tup l=>
   cases y with
   | tup m=>
     by_cases hl:l=[]
     ·subst hl
      obtain⟨c,ev⟩:=B6 ev
      cases ev
      cases rx with
      | tup h1 r1=>
        cases r1
        cases ry with
        | tup h2 r2=>exact .inr ⟨_,_,_,rfl,rfl,L2.SqT.of h1,L2.SqT.of h2,k ρ H _ (Ext.refl _ _) rl (.tup h2 r2)⟩
     ·obtain⟨c,ev⟩:=B6 ev
      cases ev
      exact .inl (ok_add ρ _ H (.tup l) (.tup m) _ _ vx vy Q rl rx ry (show C3 _ _ _=_ by rw [J4 ⟨hl,c⟩];rfl) k)
   | _=>cases ev
 | int i=>exact .inl (ok_add ρ A H (.int i) y z A' vx vy Q rl rx ry (by cases y <;> exact ev) k)
 | ref n=>exact .inl (ok_add ρ A H (.ref n) y z A' vx vy Q rl rx ry (by cases y <;> exact ev) k)
 | _=>cases y <;> cases ev
end
end Ws
namespace Ws
open PySem PySem.W PyProof.Rows PySem.Calls
structure as0 (h:Heap) (C:Addr) (newId:String):Prop where
 obj:∃nm q N bs bm hdct sn sub ab col dd k0 k1 k2 k3 k5,h.get? C=some (excClassObj nm q C N bs bm hdct sn sub ab col dd k0 k1 k2 k3 k5 newId)/\bm.contains (.type "ValueError")=true/\bm.contains (.type "BaseException")=true/\bm.contains (.type "AttributeError")=false/\bm.contains (.type "NameError")=false
abbrev aa4 (C t:Addr):Obj:={ cls:=.ref C,data:=.fields #[.ref t,.none,.none,.none,.bool false,.none] }
section
variable {prog:Program} {w:World} {A:Around} {R:Result->Shared->Prop} {h:Heap} {g:Array GenState} {d:Drawn} {t:Nat} {os:OsState} {C fI:Addr} {rest:List Value}
theorem VEF:ExcBaseFacts "ValueError" "ValueError.__new__" "ValueError.__init__" [.type "ValueError",.type "Exception",.type "BaseException",.type "object"]:=PySem.F.excBase_ValueError
theorem aP9 (Y:as0 h C "ValueError.__new__") (hq:R (.ok (.ret (.ref (h.objs.size+1)))) ⟨(h.push { cls:=.type "tuple",data:=.seq rest.toArray }).push (aa4 C h.objs.size),g,d,t,os⟩) (hrest:rest.length<=sizeLine) :
 codeAny (model prog w) A (.call (.builtin "ValueError.__new__") ⟨.ref C::rest,[]⟩) R ⟨h,g,d,t,os⟩:=by
 obtain⟨nm,q,N,bs,bm,hdct,sn,sub,ab,col,dd,k0,k1,k2,k3,k5,hC,c1,c2,c3,c4⟩:=Y.obj
 have hcB:(Value.ref C::bm).contains (.type "ValueError")=true:=by rw [List.contains_cons,c1,Bool.or_true]
 have hcA:(Value.ref C::bm).contains (.type "AttributeError")=false:=by rw [List.contains_cons,c3];rfl
 have hcN:(Value.ref C::bm).contains (.type "NameError")=false:=by rw [List.contains_cons,c4];rfl
 have hstar:=VEF.noStar
 refine codeAny_call_builtin_code (Code.quiet_builtin _ VEF.quiet) ?_
 simp only [checkBuiltinCall,VEF.newKind,VEF.newSplit,VEF.newRow]
 repeat (first | refine wpAny_loadPart_at hC ?_ | (refine wpAny_isSubtype_exc hC ?_;rw [hcB]) | refine wpAny_staticBase_exc hC ?_ | refine wpAny_madeBy_exc hC ?_ | simp only [bne_self_eq_false,Bool.false_eq_true,if_false] | wp_step)
 have hends:=VEF.ends
 refine codeAny_builtinAt VEF.entry ?_
 unfold Builtin.«BaseException.__new__»
 refine PySem.wpAt_bind ?_
 show PySem.wpAt _ _ _ (stack>>=_) _ _ _
 refine PySem.wpAt_bind (PySem.wpAt_stack λp below=>PySem.wpAt_of_wpAny ?_)
 wp_walk
 refine PySem.wpAt_of_wpAny ?_
 rw [VEF.owner]
 repeat (first | with_reducible refine wpAny_madeHere_exc VEF.canon hC ?_ | with_reducible refine wpAny_loadPart_at hC ?_ | (with_reducible refine wpAny_isSubtype_exc hC ?_;first | rw [hcB] | rw [hcA] | rw [hcN]) | wp_step)
 show R _ _
 rw [Heap.size_push]
 exact hq
theorem aJ8 (Y:as0 h C "ValueError.__new__") (hi:Looks (model prog w) h (typeLookup (.ref C) "__init__") (some (.ref fI))) (hb:∀self,Looks (model prog w) h (bindSpecial (.ref fI) self) (.ref fI,[self])) (hrest:rest.length<=sizeLine)
 (hq:codeAny (model prog w) (A.under (.builtin "type.__call__" ⟨.ref C::rest,[]⟩)) (.call (.ref fI) ⟨.ref (h.objs.size+1)::rest,[]⟩) (InitBack (h.objs.size+1) R) ⟨(h.push { cls:=.type "tuple",data:=.seq rest.toArray }).push (aa4 C h.objs.size),g,d,t,os⟩) :
 codeAny (model prog w) A (.call (.ref C) ⟨rest,[]⟩) R ⟨h,g,d,t,os⟩:=by
 have Y0:=Y
 obtain⟨nm,q,N,bs,bm,hdct,sn,sub,ab,col,dd,k0,k1,k2,k3,k5,hC,c1,c2,c3,c4⟩:=Y.obj
 have f1:=tc_lookup
 have f2:=tc_bind (.ref C)
 have hT:(⟨h,g,d,t,os⟩:Shared).TypeIs (.ref C) "type":=⟨_,hC,rfl⟩
 refine codeAny_of_tree ?_
 show wpAny _ _ (callAny (.ref C) _) _ _ _
 repeat (any_goals (first | assumption | with_reducible refine wpAny_loadPart_at hC ?_ | wp_step))
 refine⟨rfl,?_⟩
 refine codeAny_call_builtin_at (Code.quiet_builtin _ (by decide +kernel)) entry_typeCall (wpAny_check_type_call_sub hC ?_)
 repeat (first | with_reducible refine wpAny_loadPart_at hC ?_ | with_reducible refine wpAny_madeBy_exc hC ?_ | with_reducible refine wpAny_call ?_ | wp_step)
 refine aP9 (rest:=rest) Y0 ?_ hrest
 show wpAny _ _ _ _ _ _
 have kp:∀b o,h.get? b=some o->((h.push { cls:=.type "tuple",data:=.seq rest.toArray }).push (aa4 C h.objs.size)).get? b=some o:=λb o e=>Heap.get?_push_of_some _ (Heap.get?_push_of_some _ e)
 have hC₁:=kp _ _ hC
 have hget:((h.push { cls:=.type "tuple",data:=.seq rest.toArray }).push (aa4 C h.objs.size)).get? (h.objs.size+1)=some (aa4 C h.objs.size):=by heap_get
 have hcC:(Value.ref C::bm).contains (.ref C)=true:=by simp
 unfold isInstance
 repeat (first | with_reducible refine wpAny_loadPart_at hget ?_ | (with_reducible refine wpAny_isSubtype_exc hC₁ ?_;rw [hcC]) | wp_step)
 have i1:=hi.keeps kp
 have b1:=(hb (.ref (h.objs.size+1))).keeps kp
 show wpAny _ _ (typeLookup (.ref C) "__init__") _ _ _
 refine i1.here ?_
 refine wpAny_holding (wpAny_bind (b1.here ?_))
 refine wpAny_bind (wpAny_call ?_)
 refine codeAny_mono hq λr s' z=>?_
 rcases r with e | (v | _ | _ | _) <;> first | exact z | exact z.elim | skip
 obtain⟨rfl,z⟩:=z
 exact wpAny_pure (wpAny_pure z)
end
end Ws
namespace Ws
open PySem PySem.W PyProof.Rows PySem.Calls Builtin Builtin.ObjectAttr
def as1:List Value:=[.type "ValueError",.type "Exception",.type "BaseException",.type "object"]
def J5:List Value->Bool
 | .ref _::r=>J5 r
 | l=>l == as1
theorem aa5 (self:Value):refuseLoop self "__setattr__" as1=pure ():=by kernel_rfl
theorem d8 (self:Value):∀{l:List Value},J5 l=true->refuseLoop self "__setattr__" l=pure ()
 | .ref c::r,e=>by rw [refuseLoop_ref];exact d8 self (by cases r <;> exact e)
 | [],e=>by cases e
 | .type n::r,e=>by rw [show Value.type n::r=as1 from beq_iff_eq.mp e];exact aa5 self
 | .none::r,e=>by cases e
 | .bool _::r,e=>by cases e
 | .int _ _::r,e=>by cases e
 | .str _ _::r,e=>by cases e
 | .bytes _ _::r,e=>by cases e
 | .float _ _::r,e=>by cases e
 | .builtin _::r,e=>by cases e
 | .ellipsis::r,e=>by cases e
 | .notImplemented::r,e=>by cases e
theorem ah2:∀{l:List Value},J5 l=true->l.contains (.type "object")=true
 | .ref c::r,e=>by rw [List.contains_cons,ah2 (l:=r) (by cases r <;> exact e),Bool.or_true]
 | [],e=>by cases e
 | .type n::r,e=>by rw [show Value.type n::r=as1 from beq_iff_eq.mp e];rfl
 | .none::r,e=>by cases e
 | .bool _::r,e=>by cases e
 | .int _ _::r,e=>by cases e
 | .str _ _::r,e=>by cases e
 | .bytes _ _::r,e=>by cases e
 | .float _ _::r,e=>by cases e
 | .builtin _::r,e=>by cases e
 | .ellipsis::r,e=>by cases e
 | .notImplemented::r,e=>by cases e
section
variable {prog:Program} {w:World} {A:Around} {E:Value->Shared->Prop} {R:Result->Shared->Prop} {s:Shared} {K:Frag} {x C:Addr} {ox:Obj} {cd:ClassData} {name:Str} {v:Value}
theorem aU1 {tk:Tok} (X:K.In s.heap) (I:InstAt s.heap x ox C none) (hc:clsIn K C=some cd) (ho:J5 cd.mro=true) (hh:cd.hasDict=true) (ht:findIn K (.ref C) name=some none) {vs:Array Value} (hdat:ox.data=.fields vs) (hdic:ox.dict=none)
 (h:∀h',h'.get? x=some { ox with dict:=some s.heap.objs.size }->h'.Ns1 s.heap.objs.size (λy=>if y=name then some v else none)->(∀b o,b≠x->s.heap.get? b=some o->h'.get? b=some o)->R (.ok (.ret .none)) { s with heap:=h',toks:=s.toks+1 }) :
 codeAny (model prog w) A (.call (.builtin "object.__setattr__") ⟨[.ref x,.str name tk,v],[]⟩) R s:=by
 have SF:=PySem.F.store_object
 have ne:cd.mro.isEmpty=false:=by cases q:cd.mro with
  | nil=>rw [q] at ho;cases ho
  | cons _ _=>rfl
 have sub:Looks (model prog w) s.heap (isInstance (.ref x) (.type "object")) true:=I.type.andThen (looks_mroIn X (by unfold mroIn;rw [hc,Option.bind_some,if_neg (by rw [ne];decide),ah2 ho]))
 refine codeAny_call_builtin SF.slot.plain SF.entry (@check_slot (model prog w) _ _ s "object.__setattr__" "object" "__setattr__" (.ref x) [.str name tk,v] [] _ SF.kind SF.split sub (SF.args (.ref x) (.str name tk) v) ?_)
 have hm:Looks (model prog w) s.heap (mroOf (.ref C)) cd.mro:=(looks_clsIn X hc).andThen .now
 rw [osa_eq,refuse_eq]
 refine wpAny_bind (wpAny_bind (I.type.here (wpAny_bind (hm.here ?_))))
 rw [d8 _ ho]
 refine wpAny_pure (wpAny_bind (I.type.here (wpAny_bind ((looks_findIn X ht).here (wpAny_bind (wpAny_pure ?_))))))
 obtain⟨hx,hcl,hn,_⟩:=I
 obtain⟨oc,odi,oda,osl⟩:=ox
 dsimp only at hcl hdat hdic
 subst hcl hdat hdic
 refine wpAny_bind (wpAny_pure (wpAny_bind (wpAny_bind (wpAny_loadPart hx (wpAny_bind ((looks_clsIn X hc).here ?_))))))
 rw [hh]
 show wpAny _ _ (PySem.alloc { cls:=Value.type "dict",data:=Data.dict #[] }>>=_) _ _ _
 refine wpAny_bind (wpAny_alloc ?_)
 have hx1:(s.heap.push { cls:=Value.type "dict",data:=Data.dict #[] }).get? x=some { cls:=.ref C,data:=.fields vs,slots:=osl }:=Heap.get?_push_of_some _ hx
 have hxlt:x<s.heap.objs.size:=Heap.lt_size hx
 refine wpAny_bind (wpAny_update hx1 ?_)
 show wpAny _ _ (pure (some s.heap.objs.size)) _ _ _
 refine wpAny_pure ?_
 have hd1:(s.heap.push { cls:=Value.type "dict",data:=Data.dict #[] }).get? s.heap.objs.size=some { cls:=Value.type "dict",data:=Data.dict #[] }:=Heap.get?_push_size _ rfl
 have hd2:((s.heap.push { cls:=Value.type "dict",data:=Data.dict #[] }).update x λo=>{ cls:=o.cls,dict:=some s.heap.objs.size,data:=o.data,slots:=o.slots }).get? s.heap.objs.size=some { cls:=Value.type "dict",data:=Data.dict #[] }:=by
  rw [Heap.get?_update_other _ _ (Nat.ne_of_lt hxlt)];exact hd1
 have hx2:((s.heap.push { cls:=Value.type "dict",data:=Data.dict #[] }).update x λo=>{ cls:=o.cls,dict:=some s.heap.objs.size,data:=o.data,slots:=o.slots }).get? x=some { cls:=.ref C,dict:=some s.heap.objs.size,data:=.fields vs,slots:=osl }:=by
  rw [Heap.get?_update_self _ hx1 rfl]
 have hns:((s.heap.push { cls:=Value.type "dict",data:=Data.dict #[] }).update x λo=>{ cls:=o.cls,dict:=some s.heap.objs.size,data:=o.data,slots:=o.slots }).Ns1 s.heap.objs.size (λ_=>none):=⟨_,#[],_,hd2,rfl,(λe he=>absurd he (by simp)),List.Pairwise.nil,λ_=>rfl⟩
 have kp:∀b o,b≠x->s.heap.get? b=some o->((s.heap.push { cls:=Value.type "dict",data:=Data.dict #[] }).update x λo=>{ cls:=o.cls,dict:=some s.heap.objs.size,data:=o.data,slots:=o.slots }).get? b=some o:=λb o hb e=>by
  rw [Heap.get?_update_other _ _ (Ne.symm hb)];exact Heap.get?_push_of_some _ e
 generalize (s.heap.push { cls:=Value.type "dict",data:=Data.dict #[] }).update x (λo=>{ cls:=o.cls,dict:=some s.heap.objs.size,data:=o.data,slots:=o.slots })=h2 at hd2 hx2 hns kp
 refine wpAny_bind (wpAny_pure (wpAny_bind ?_))
 refine wpAny_nsSet1 (s:={ s with heap:=h2 }) hns λh' hn2 hs2=>?_
 obtain⟨oD,esD,epD,hoD,hdD,hcD⟩:=hn2.count (PySem.Within.cons name v (ns:=[]) (λ_ z=>absurd rfl z))
 refine wpAny_bind (wpAny_lookBehind hoD (by rw [hdD];exact pastItsLine_dict (Nat.le_trans hcD (by simp))) ?_)
 refine wpAny_pure (h _ ((hs2.2 _ (Nat.ne_of_lt hxlt)).trans hx2) hn2 λb o hb e=>?_)
 exact (hs2.2 _ (Nat.ne_of_lt (Heap.lt_size e))).trans (kp b o hb e)
end
end Ws
namespace Ws
open PySem PySem.W PyProof.Rows PySem.Calls
def tbV:Option Addr->Value
 | none=>.none
 | some T=>.ref T
def aJ9 (C:Addr) (d tb:Option Addr) (e:Addr) (h:Heap):Prop:=∃oe vs,h.get? e=some oe/\oe.cls=.ref C/\oe.dict=d/\oe.data=.fields vs/\vs[1]?=some (tbV tb)/\vs[2]?=some .none
def XO (C:Addr) (d tb:Option Addr) (e:Addr):L2.HO:=.ext (aJ9 C d tb e)
def aQ0 (T:Addr) (fl:Value) (h:Heap):Prop:=∃oT ts,h.get? T=some oT/\oT.data=.fields ts/\ts[3]?=some fl
def TO (T:Addr) (fl:Value):L2.HO:=.ext (aQ0 T fl)
theorem as2 {P:Program} {w:World} {H:L2.Hp} {h:Heap} {C e:Addr} {d tb:Option Addr} (x:aJ9 C d tb e h):L2.ObjOk P w H h e (XO C d tb e):=by
 obtain⟨oe,vs,h1,h2⟩:=id x
 refine⟨x,⟨oe,h1⟩,λg1 g2 y k=>?_⟩
 obtain⟨o,ws,z1,z2⟩:=y
 exact⟨o,ws,k _ z1,z2⟩
theorem as3 {P:Program} {w:World} {H:L2.Hp} {h:Heap} {T:Addr} {fl:Value} (x:aQ0 T fl h):L2.ObjOk P w H h T (TO T fl):=by
 obtain⟨oe,vs,h1,h2⟩:=id x
 refine⟨x,⟨oe,h1⟩,λg1 g2 y k=>?_⟩
 obtain⟨o,ws,z1,z2⟩:=y
 exact⟨o,ws,k _ z1,z2⟩
theorem ah3 {X:L2.Cx} {pins:List (Addr×Obj)} {σ:L2.St} {H:L2.Hp} {s:Shared} {C e:Addr} {d tb:Option Addr} (I:L2.Inv X pins σ H s) (h:H e=some (XO C d tb e)):aJ9 C d tb e s.heap:=(I.hok e _ h).1
structure XK (K:PySem.W.Frag) (C fI:Addr):Prop where
 obj:∃nm q N bs bm hdct sn sub ab col dd k0 k1 k2 k3 k5,K.lookup C=some (excClassObj nm q C N bs bm hdct sn sub ab col dd k0 k1 k2 k3 k5 "ValueError.__new__")/\J5 bm=true/\hdct=true
 init:findIn K (.ref C) "__init__" = some (some (.ref fI))
 fn:isFn K (.ref fI)=true
 kp:keepIn K (.ref C)=true
 sa:findIn K (.ref C) "__setattr__" = some (some (.builtin "object.__setattr__"))
 na:findIn K (.ref C) "at" = some none
theorem v9:∀{l:List Value},J5 l=true->l.contains (.type "ValueError")=true/\l.contains (.type "BaseException")=true/\l.contains (.type "AttributeError")=false/\l.contains (.type "NameError")=false
 | .ref c::r,e=>by
   obtain⟨h1,h2,h3,h4⟩:=v9 (l:=r) (by cases r <;> exact e)
   refine⟨?_,?_,?_,?_⟩ <;> rw [List.contains_cons] <;> first | rw [h1] | rw [h2] | rw [h3] | rw [h4]
   ·exact Bool.or_true _
   ·exact Bool.or_true _
   ·rfl
   ·rfl
 | [],e=>by cases e
 | .type n::r,e=>by rw [show Value.type n::r=as1 from beq_iff_eq.mp e];exact⟨rfl,rfl,rfl,rfl⟩
 | .none::r,e=>by cases e
 | .bool _::r,e=>by cases e
 | .int _ _::r,e=>by cases e
 | .str _ _::r,e=>by cases e
 | .bytes _ _::r,e=>by cases e
 | .float _ _::r,e=>by cases e
 | .builtin _::r,e=>by cases e
 | .ellipsis::r,e=>by cases e
 | .notImplemented::r,e=>by cases e
theorem XK.cls {K:PySem.W.Frag} {C fI:Addr} {h:Heap} (x:XK K C fI) (X:K.In h):as0 h C "ValueError.__new__":=by
 obtain⟨nm,q,N,bs,bm,hdct,sn,sub,ab,col,dd,k0,k1,k2,k3,k5,hC,ho,_⟩:=x.obj
 exact⟨nm,q,N,bs,bm,hdct,sn,sub,ab,col,dd,k0,k1,k2,k3,k5,X _ _ hC,v9 ho⟩
theorem XK.cd {K:PySem.W.Frag} {C fI:Addr} (x:XK K C fI):∃cd,clsIn K C=some cd/\J5 cd.mro=true/\cd.hasDict=true:=by
 obtain⟨nm,q,N,bs,bm,hdct,sn,sub,ab,col,dd,k0,k1,k2,k3,k5,hC,ho,hd⟩:=x.obj
 refine⟨_,by unfold clsIn;rw [hC],?_,hd⟩
 exact ho
theorem U6 {P:Program} {w:World} {fs:List Addr} {H H':L2.Hp} {h h':Heap} (ch:List Addr) (ok:L2.HOk P w H h) (hx:∀b∈ch,∃φ,H b=some (.ext φ)) (frf:∀b∈fs,H b=none)
 (k:∀b u,b∉ch->b∉fs->h.get? b=some u->h'.get? b=some u) (sl:∀b u,b∈fs->h.get? b=some u->∃sl,h'.get? b=some { u with slots:=sl })
 (th:∀b∈ch,∃o,h'.get? b=some o) (h1:∀b u,b∉ch->H b=some u->H' b=some u) (h2:∀b,b<h.objs.size->H b=none->H' b=none)
 (new:∀b u,b∈ch\/h.objs.size<=b->H' b=some u->L2.ObjOk P w H' h' b u):L2.Un fs [] H H' h h'/\L2.HOk P w H' h':=by
 have nch:∀b,H b=none->b∉ch:=λb n z=>by obtain⟨φ,e⟩:=hx b z;rw [n] at e;cases e
 have nfs:∀b u,H b=some u->b∉fs:=λb u e z=>by rw [frf b z] at e;cases e
 have nx:∀b u,H b=some u->(∀φ,u≠.ext φ)->b∉ch:=λb u e q z=>by obtain⟨φ,e'⟩:=hx b z;rw [e] at e';exact q φ (Option.some.inj e')
 refine⟨⟨λb o e n hb _=>k b o (nch b n) hb e,λb o e n hb _=>sl b o hb e,λb o e n _=>h2 b (Heap.lt_size e) n,λb o e _=>?_,λb xs e=>h1 b _ (nx b _ e (by intro φ q;cases q)) e,λb o u e=>h1 b _ (nx b _ e (by intro φ q;cases q)) e,λb ps e=>⟨#[],by rw [h1 b _ (nx b _ e (by intro φ q;cases q)) e];simp⟩⟩,λb u e=>?_⟩
 ·by_cases hb:b∈ch
  ·exact th b hb
  ·by_cases hf:b∈fs
   ·obtain⟨s,q⟩:=sl b o hf e;exact⟨_,q⟩
   ·exact⟨o,k b o hb hf e⟩
 ·by_cases hb:b∈ch
  ·exact new b u (.inl hb) e
  ·by_cases hz:h.objs.size<=b
   ·exact new b u (.inr hz) e
   ·rcases hH:H b with _ | v
    ·rw [h2 b (by omega) hH] at e;cases e
    ·have e2:=h1 b v hb hH
     rw [e] at e2;cases e2
     refine (ok b u hH).stay (λc o hc q=>k c o ?_ ?_ q) (λc q=>h1 c _ (nx c _ q (by intro φ z;cases z)) q) λc xs q=>h1 c _ (nx c _ q (by intro φ z;cases z)) q
     ·rcases hc with rfl | hc
      ·exact hb
      ·exact nx c _ hc (by intro φ z;cases z)
     ·rcases hc with rfl | hc
      ·exact nfs _ _ hH
      ·exact nfs _ _ hc
section
variable {X:L2.Cx} {o value:Expr} {pos pos':Pos} {to tv:L2.TE}
def aQ1 (K:PySem.W.Frag) (to tv:L2.TE):L2.TS:=λD σ H=>tv σ H λy H1=>to σ H1 λx H2=>∃e C fI,x=.ref e/\H2 e=some (XO C none none e)/\XK K C fI/\∀d,H2 d=none->d≠e->D.nx σ (L2.upd (L2.upd H2 e (XO C (some d) none e)) d (.xd [("at",y)]))
theorem aK0 (ha:L2.PE X o to) (hv:L2.PE X value tv) (hs:swapsWith value (some (.Attribute o "at" pos')) pos.line X.env=pure false):L2.PS X (.Assign [.Attribute o "at" pos'] value pos) (aQ1 X.K to tv):=by
 intro pins s σ H D I h
 refine plainObj_wpAny_Assign_Attribute (L2.thn (hv pins s σ H _ I h) λu s1 ⟨y,H1,I1,ry,q⟩=>L2.thn (ha pins s1 σ H1 _ I1 q) λov s2 ⟨x,H2,I2,rx,e,C,fI,ex,ee,xk,q2⟩=>?_) hs
 subst ex
 obtain rfl:ov=Value.ref e:=rx
 obtain⟨oe,vs,h1,h2,h3,h4,h5⟩:=ah3 I2 ee
 obtain⟨cd,c1,c2,c3⟩:=xk.cd
 have J:InstAt s2.heap e oe C none:=⟨h1,h2,by unfold notCls;rw [h4],by rw [h3];trivial⟩
 refine set_plain I2.kIn J xk.sa (aU1 (s:={ s2 with toks:=s2.toks+1 }) I2.kIn J c1 c2 c3 xk.na h4 h3 λh' g1 g2 g3=>?_)
 have hd0:H2 s2.heap.objs.size=none:=I2.hok.fresh (Nat.le_refl _)
 have hne:s2.heap.objs.size≠e:=Nat.ne_of_gt (Heap.lt_size h1)
 refine⟨σ,_,?_,q2 s2.heap.objs.size hd0 hne⟩
 have hyr:L2.RelV y u:=ry
 obtain⟨u1,u2⟩:=U6 (P:=X.prog) (w:=X.w) (fs:=[]) (H:=H2) (H':=L2.upd (L2.upd H2 e (XO C (some s2.heap.objs.size) none e)) s2.heap.objs.size (.xd [("at",y)])) (h:=s2.heap) (h':=h') [e] I2.hok (λb hb=>by
  rw [List.mem_singleton.mp hb];exact⟨_,ee⟩) (λ_ z=>nomatch z) (λb o hb _ q=>g3 b o (λz=>hb (by simp [z])) q) (λ_ _ z=>nomatch z) (λb hb=>by rw [List.mem_singleton.mp hb];exact⟨_,g1⟩)
  (λb v hb q=>by rw [L2.B0 (L2.C9 q hd0),L2.B0 (λz=>hb (by simp [z]))];exact q)
  (λb hb q=>by rw [L2.B0 (Nat.ne_of_lt hb),L2.B0 (λz=>by rw [z,ee] at q;cases q)];exact q)
  (λb v hb q=>by
   by_cases hbd:b=s2.heap.objs.size
   ·rw [hbd,L2.B9] at q
    cases q
    rw [hbd]
    refine⟨_,g2,λf=>?_⟩
    by_cases hf:f="at"
    ·subst hf;simp [List.lookup,L2.RelO];exact hyr
    ·have:(f == "at")=false:=beq_eq_false_iff_ne.mpr hf
     simp [List.lookup,hf,this,L2.RelO]
   ·rw [L2.B0 hbd] at q
    by_cases hbe:b=e
    ·rw [hbe,L2.B9] at q
     cases q
     rw [hbe]
     exact as2 ⟨_,vs,g1,h2,rfl,h4,h5⟩
    ·rw [L2.B0 hbe] at q
     rcases hb with hb | hb
     ·exact absurd (List.mem_singleton.mp hb) hbe
     ·rw [I2.hok.fresh hb] at q;cases q)
 exact I2.un (u1.mono (λ_ z=>nomatch z) λ_ z=>z) u2
end
theorem d9 (f:Array Value->Array Value) (o:Obj):(Obj.mapFields f o).dict=o.dict:=by
 obtain⟨c,d,dt,sl⟩:=o
 cases dt <;> rfl
def L9 (fl:Value) (H:L2.Hp) (e C:Addr) (v:L2.V):Prop:=∃d tb,H e=some (XO C (some d) tb e)/\H d=some (.xd [("at",v)])/\∀T,tb=some T->H T=some (TO T fl)/\T≠e
def Calm (H H':L2.Hp):Prop:=∀b u,H b=some u->(∀φ,u≠.ext φ)->H' b=some u
theorem Calm.refl (H:L2.Hp):Calm H H:=λ_ _ e _=>e
theorem Calm.trans {H H1 H2:L2.Hp} (a:Calm H H1) (b:Calm H1 H2):Calm H H2:=λc u e n=>b c u (a c u e n) n
section
variable {M:Model} {A:Around} {E:Value->Shared->Prop} {s:Shared} {P:Program} {w:World}
theorem as4 {base:Heap} {env:Env} {outer:List Env} {L e:Addr} {oe:Obj} {vs:Array Value} {head:Value} {hadNext:Bool} {Q:Unit->Shared->Prop}
 (hfr:A.frames=some (env::outer)) (hl:s.heap.FunFrames base (env::outer)) (hf:env.frame=some L)
 (he:s.heap.get? e=some oe) (hd:oe.data=.fields vs) (hsz:1<vs.size)
 (h:∀h' T oT ts,(∀b o,b≠e->b∉L2.frs (env::outer)->s.heap.get? b=some o->h'.get? b=some o)->(∀b o,b≠e->b∈L2.frs (env::outer)->s.heap.get? b=some o->∃sl,h'.get? b=some { o with slots:=sl })->
  s.heap.objs.size<=T->h'.get? e=some (Obj.mapFields (·.setIfInBounds 1 (Value.ref T)) oe)->h'.get? T=some oT->oT.data=.fields ts->ts[3]?=some (rawInt L)->Q () { s with heap:=h' }) :
 wpAny M A (do let a ←frameOf env;let pl ←entryPlaceOf L hadNext;let b ←EntryCells.newEntry head a .none (rawInt L) .none pl;setField (.ref e) 1 b) Q E s:=by
 have hene:e∉(env::outer).filterMap (·.frame):=λhm=>by
  obtain⟨_,o,ho,hnf⟩:=hl.mem hm
  rw [he] at ho;injection ho with ho;subst ho;exact hnf vs hd
 refine wpAny_bind (wpAny_frameOf_fun hfr hl hf λh₁ hs₁=>?_)
 refine wpAny_bind (wpAny_entryPlaceOf λpl hpl=>?_)
 unfold EntryCells.newEntry newFields
 refine wpAny_bind (wpAny_newObj_type ?_ (hpl.sizeOk5 _ _ _ _ _))
 have he₁:h₁.get? e=some oe:=(hs₁.2.1 e hene).trans he
 have he₂:=Heap.get?_push_of_some (h:=h₁) { cls:=.type "traceback",dict:=none,data:=.fields ([head,.ref L,.none,rawInt L,.none]++(if pl.isEmpty then List.replicate 6 Value.none else pl)).toArray } he₁
 have hTe:h₁.objs.size≠e:=Nat.ne_of_gt (Heap.lt_size he₁)
 have hd₃:=Obj.data_mapFields hd (·.setIfInBounds 1 (Value.ref h₁.objs.size))
 have he₃:=Heap.get?_update_self (Obj.mapFields (·.setIfInBounds 1 (Value.ref h₁.objs.size))) he₂ (Obj.isFreed_of_fields hd₃)
 have hT₃:=(Heap.get?_update_other (h₁.push { cls:=.type "traceback",dict:=none,data:=.fields ([head,.ref L,.none,rawInt L,.none]++(if pl.isEmpty then List.replicate 6 Value.none else pl)).toArray })
  (Obj.mapFields (·.setIfInBounds 1 (Value.ref h₁.objs.size))) (Ne.symm hTe)).trans (Heap.get?_push_size h₁ rfl)
 have keep:∀b o,b≠e->h₁.get? b=some o->
  ((h₁.push { cls:=.type "traceback",dict:=none,data:=.fields ([head,.ref L,.none,rawInt L,.none]++(if pl.isEmpty then List.replicate 6 Value.none else pl)).toArray }).update e (Obj.mapFields (·.setIfInBounds 1 (Value.ref h₁.objs.size)))).get? b=some o:=
  λb o hbe hb=>by
   rw [Heap.get?_update_other _ _ (Ne.symm hbe)]
   exact Heap.get?_push_of_some _ hb
 refine wpAny_setField he₂ hd hsz (h _ h₁.objs.size _ _ (λb o hbe hbf hb=>keep b o hbe ((hs₁.2.1 b hbf).trans hb)) (λb o hbe _ hb=>?_) (by rw [hs₁.1];exact Nat.le_refl _) he₃ hT₃ rfl (by first | (simp;done) | (rcases hpl with rfl | ⟨_,_,_,_,_,_,_,rfl⟩ <;> simp)))
 obtain⟨sl,q⟩:=hs₁.2.2 b o hb
 exact⟨sl,keep b _ hbe q⟩
theorem as5 {fl:Value} {H:L2.Hp} {e C:Addr} {v:L2.V} {Q:Unit->Shared->Prop} (ok:L2.HOk P w H s.heap) (f:L9 fl H e C v)
 (h:∀h' H',L2.Un [] [] H H' s.heap h'->L2.HOk P w H' h'->L9 .none H' e C v->Calm H H'->Q () { s with heap:=h' }):wpAny M A (setFlight (.ref e) none) Q E s:=by
 obtain⟨d,tb,f1,f2,f3⟩:=f
 obtain⟨oe,vs,g1,g2,g3,g4,g5,g6⟩:=(ok e _ f1).1
 unfold setFlight
 cases tb with
 | none=>
   refine wpAny_bind (wpAny_field g1 g4 g5 ?_)
   rw [if_neg (show ¬((tbV none != Value.none)=true) from by simp [tbV])]
   obtain⟨hp,gg,dd,tk,os⟩:=s
   exact wpAny_pure (h _ H L2.Un.refl ok ⟨d,none,f1,f2,λT z=>nomatch z⟩ (Calm.refl H))
 | some T=>
   obtain⟨f4,f5⟩:=f3 T rfl
   obtain⟨oT,ts,t1,t2,t3⟩:=(ok T _ f4).1
   have hsz3:3<ts.size:=(Array.getElem?_eq_some_iff.mp t3).1
   refine wpAny_bind (wpAny_field g1 g4 g5 ?_)
   rw [if_pos (show (tbV (some T) != Value.none)=true from by simp [tbV])]
   have other:∀b,b≠T->(s.heap.update T (Obj.mapFields (·.setIfInBounds 3 ((none:Option Addr).elim Value.none λf=>rawInt f)))).get? b=s.heap.get? b:=λb hb=>Heap.get?_update_other _ _ (Ne.symm hb)
   have self:=Heap.get?_update_self (Obj.mapFields (·.setIfInBounds 3 ((none:Option Addr).elim Value.none λf=>rawInt f))) t1 (Obj.isFreed_of_fields (Obj.data_mapFields t2 _))
   obtain⟨u1,u2⟩:=U6 (P:=P) (w:=w) (fs:=[]) (H:=H) (H':=L2.upd H T (TO T .none)) (h:=s.heap) (h':=s.heap.update T (Obj.mapFields (·.setIfInBounds 3 ((none:Option Addr).elim Value.none λf=>rawInt f)))) [T] ok
    (λb hb=>by rw [List.mem_singleton.mp hb];exact⟨_,f4⟩) (λ_ z=>nomatch z) (λb o hb _ q=>(other b (λz=>hb (by simp [z]))).trans q) (λ_ _ z=>nomatch z) (λb hb=>by rw [List.mem_singleton.mp hb];exact⟨_,self⟩)
    (λb u hb q=>by rw [L2.B0 (λz=>hb (by simp [z]))];exact q) (λb _ q=>by rw [L2.B0 (λz=>by rw [z,f4] at q;cases q)];exact q)
    (λb u hb q=>by
     by_cases hbT:b=T
     ·rw [hbT,L2.B9] at q
      cases q
      rw [hbT]
      exact as3 ⟨_,_,self,Obj.data_mapFields t2 _,by simp [hsz3]⟩
     ·rw [L2.B0 hbT] at q
      rcases hb with hb | hb
      ·exact absurd (List.mem_singleton.mp hb) hbT
      ·rw [ok.fresh hb] at q;cases q)
   refine wpAny_setField t1 t2 hsz3 (h _ _ u1 u2 ⟨d,some T,by rw [L2.B0 (Ne.symm f5)];exact f1,by rw [L2.B0 (λz=>by rw [z,f4] at f2;cases f2)];exact f2,λT' z=>?_⟩ λb u q n=>?_)
   ·cases z;exact⟨L2.B9,f5⟩
   ·rw [L2.B0 (λz=>by rw [z,f4] at q;exact n _ (Option.some.inj q).symm)];exact q
theorem aE1 {base:Heap} {env:Env} {outer:List Env} {L e C:Addr} {H:L2.Hp} {v:L2.V} {Q:Unit->Shared->Prop} (hfr:A.frames=some (env::outer)) (hl:s.heap.FunFrames base (env::outer)) (hf:env.frame=some L)
 (frf:∀b∈L2.frs (env::outer),H b=none) (ok:L2.HOk P w H s.heap) (f:L9 .none H e C v)
 (h:∀h' H',L2.Un (L2.frs (env::outer)) [] H H' s.heap h'->L2.HOk P w H' h'->L9 (rawInt L) H' e C v->Calm H H'->Q () { s with heap:=h' }):wpAny M A (noteFrame (.ref e) env) Q E s:=by
 obtain⟨d,tb,f1,f2,f3⟩:=f
 obtain⟨oe,vs,g1,g2,g3,g4,g5,g6⟩:=(ok e _ f1).1
 have hsz:1<vs.size:=(Array.getElem?_eq_some_iff.mp g5).1
 unfold noteFrame
 simp only [hf]
 refine wpAny_bind (wpAny_field g1 g4 g5 ?_)
 have fin:∀(ch:List Addr) (h0 h':Heap) (T:Addr) (oT:Obj) (ts:Array Value),(∀b∈ch,∃φ,H b=some (.ext φ))->e∈ch->(∀b∈ch,b≠e->∃o,h'.get? b=some o/\∀u,H b=some u->L2.ObjOk P w (L2.upd (L2.upd H e (XO C (some d) (some T) e)) T (TO T (rawInt L))) h' b u)->
  (∀b o,b∉ch->b∉L2.frs (env::outer)->s.heap.get? b=some o->h'.get? b=some o)->(∀b o,b∈L2.frs (env::outer)->s.heap.get? b=some o->∃sl,h'.get? b=some { o with slots:=sl })->
  s.heap.objs.size<=T->h'.get? e=some (Obj.mapFields (·.setIfInBounds 1 (Value.ref T)) oe)->h'.get? T=some oT->oT.data=.fields ts->ts[3]?=some (rawInt L)->Q () { s with heap:=h' }:=by
  intro ch h0 h' T oT ts hx hec hch hk hs hT he hT1 hT2 hT3
  have hTn:H T=none:=ok.fresh hT
  have hTe:T≠e:=λz=>by rw [z,f1] at hTn;cases hTn
  obtain⟨u1,u2⟩:=U6 (P:=P) (w:=w) (fs:=L2.frs (env::outer)) (H:=H) (H':=L2.upd (L2.upd H e (XO C (some d) (some T) e)) T (TO T (rawInt L))) (h:=s.heap) (h':=h') ch ok hx frf hk hs
   (λb hb=>by
    by_cases hbe:b=e
    ·rw [hbe];exact⟨_,he⟩
    ·obtain⟨o,q,_⟩:=hch b hb hbe;exact⟨o,q⟩)
   (λb u hb q=>by rw [L2.B0 (L2.C9 q hTn),L2.B0 (λz=>hb (by rw [z];exact hec))];exact q)
   (λb hb q=>by rw [L2.B0 (Nat.ne_of_lt (Nat.lt_of_lt_of_le hb hT)),L2.B0 (λz=>by rw [z,f1] at q;cases q)];exact q)
   (λb u hb q=>by
    by_cases hbT:b=T
    ·rw [hbT,L2.B9] at q
     cases q
     rw [hbT]
     exact as3 ⟨_,_,hT1,hT2,hT3⟩
    ·rw [L2.B0 hbT] at q
     by_cases hbe:b=e
     ·rw [hbe,L2.B9] at q
      cases q
      rw [hbe]
      exact as2 ⟨_,_,he,(Obj.cls_mapFields _ _).trans g2,(d9 _ _).trans g3,Obj.data_mapFields g4 _,by simp [hsz,tbV],by rw [Array.getElem?_setIfInBounds_ne (by decide)];exact g6⟩
     ·rw [L2.B0 hbe] at q
      rcases hb with hb | hb
      ·obtain⟨o,_,r⟩:=hch b hb hbe;exact r u q
      ·rw [ok.fresh hb] at q;cases q)
  refine h h' _ u1 u2 ⟨d,some T,by rw [L2.B0 (Ne.symm hTe)];exact L2.B9,?_,λT' z=>?_⟩ λb u q n=>?_
  ·rw [L2.B0 (L2.C9 f2 hTn),L2.B0 (λz=>by rw [z,f1] at f2;cases f2)];exact f2
  ·cases z;exact⟨L2.B9,hTe⟩
  ·rw [L2.B0 (L2.C9 q hTn),L2.B0 (λz=>by rw [z,f1] at q;exact n _ (Option.some.inj q).symm)];exact q
 have fe:e∉L2.frs (env::outer):=λz=>by rw [frf e z] at f1;cases f1
 cases tb with
 | none=>
   rw [if_neg (show ¬((tbV none != Value.none)=true) from by simp [tbV])]
   refine as4 hfr hl hf g1 g4 hsz λh' T oT ts k1 k2 k3 k4 k5 k6 k7=>fin [e] s.heap h' T oT ts (λb hb=>by rw [List.mem_singleton.mp hb];exact⟨_,f1⟩) (by simp) (λb hb z=>absurd (List.mem_singleton.mp hb) z) (λb o hb hb2 q=>k1 b o (λz=>hb (by simp [z])) hb2 q) (λb o hb q=>k2 b o (λz=>fe (by rw [←z];exact hb)) hb q) k3 k4 k5 k6 k7
 | some T0=>
   obtain⟨f4,f5⟩:=f3 T0 rfl
   obtain⟨oT,ts,t1,t2,t3⟩:=(ok T0 _ f4).1
   have hsz3:3<ts.size:=(Array.getElem?_eq_some_iff.mp t3).1
   have fT:T0∉L2.frs (env::outer):=λz=>by rw [frf T0 z] at f4;cases f4
   rw [if_pos (show (tbV (some T0) != Value.none)=true from by simp [tbV])]
   refine wpAny_bind (wpAny_field t1 t2 t3 ?_)
   rw [if_neg (show ¬((Value.none == rawInt L)=true) from by simp [rawInt])]
   refine wpAny_bind (wpAny_setField t1 t2 hsz3 ?_)
   have other:∀b,b≠T0->(s.heap.update T0 (Obj.mapFields (·.setIfInBounds 3 Value.none))).get? b=s.heap.get? b:=λb hb=>Heap.get?_update_other _ _ (Ne.symm hb)
   have self:=Heap.get?_update_self (Obj.mapFields (·.setIfInBounds 3 Value.none)) t1 (Obj.isFreed_of_fields (Obj.data_mapFields t2 _))
   have noRecord:∀b o,s.heap.get? b=some o->(∀vs,o.data≠.fields vs)->b≠T0:=λb o hb hnf q=>by
    rw [q,t1] at hb;injection hb with hb;subst hb;exact hnf ts t2
   refine as4 hfr (hl.of_keeps λb o hb hnf=>⟨o,(other b (noRecord b o hb hnf)).trans hb,rfl⟩) hf ((other e (Ne.symm f5)).trans g1) g4 hsz λh' T oT' ts' k1 k2 k3 k4 k5 k6 k7=>fin [e,T0] s.heap h' T oT' ts' (λb hb=>?_) (by simp) (λb hb z=>?_) (λb o hb hb2 q=>?_) (λb o hb q=>?_) ?_ k4 k5 k6 k7
   ·rcases List.mem_cons.mp hb with rfl | hb
    ·exact⟨_,f1⟩
    ·rw [List.mem_singleton.mp hb];exact⟨_,f4⟩
   ·obtain rfl:b=T0:=by
     rcases List.mem_cons.mp hb with hb | hb
     ·exact absurd hb z
     ·exact List.mem_singleton.mp hb
    have q:=k1 b _ z fT self
    refine⟨_,q,λu hu=>?_⟩
    rw [f4] at hu;cases hu
    exact as3 ⟨_,_,q,Obj.data_mapFields t2 _,by simp [hsz3]⟩
   ·exact k1 b o (λz=>hb (by simp [z])) hb2 ((other b (λz=>hb (by simp [z]))).trans q)
   ·exact k2 b o (λz=>fe (by rw [←z];exact hb)) hb ((other b (λz=>fT (by rw [←z];exact hb))).trans q)
   ·have:=k3
    rw [Heap.size_update] at this
    exact this
theorem aK1 {base:Heap} {env:Env} {outer:List Env} {L e C:Addr} {H:L2.Hp} {v:L2.V} {Q:Unit->Shared->Prop} (hfr:A.frames=some (env::outer)) (hl:s.heap.FunFrames base (env::outer)) (hf:env.frame=some L)
 (frf:∀b∈L2.frs (env::outer),H b=none) (ok:L2.HOk P w H s.heap) (f:L9 .none H e C v)
 (h:∀h' H',L2.Un (L2.frs (env::outer)) [] H H' s.heap h'->L2.HOk P w H' h'->L9 .none H' e C v->Calm H H'->Q () { s with heap:=h' }):wpAny M A (leaving env (.ref e)) Q E s:=by
 unfold leaving
 refine wpAny_bind (aE1 hfr hl hf frf ok f λh1 H1 u1 o1 f1 c1=>?_)
 exact as5 (s:={ s with heap:=h1 }) o1 f1 λh2 H2 u2 o2 f2 c2=>h h2 H2 (u1.trans (u2.mono (λ_ z=>nomatch z) λ_ z=>z)) o2 f2 (c1.trans c2)
end
section
variable (K:PySem.W.Frag) (cm:Nat->Addr)
def XPost (ρ:List Addr) (H:L2.Hp) (c:Nat) (v:PV) (A':PHp) (XQ:Addr->L2.Hp->Prop):Prop:=∀ρ' H' a v',Ext ρ H ρ' H'->Rel K cm ρ' A' H'->RV ρ' H' v v'->L9 .none H' a (cm c) v'->XQ a H'
def OutV (ρ:List Addr) (H:L2.Hp) (XQ:Addr->L2.Hp->Prop) (Q:L2.VK):R PV->Prop
 | .ok v A'=>∀ρ' H' v',Ext ρ H ρ' H'->Rel K cm ρ' A' H'->RV ρ' H' v v'->Q v' H'
 | .ex c v A'=>XPost K cm ρ H c v A' XQ
 | .no=>False
def aQ2 (XQ:Addr->L2.Hp->Prop) (d:ED):L2.TE:=λσ H Q=>∃(ρ:List Addr) (A:PHp) (σp:PSt),Rel K cm ρ A H/\RSt ρ H σp σ/\OutV K cm ρ H XQ Q (d σp A)
def SpX (f:Fun) (n:Nat):L2.Sp:=λvs H Q E=>∃(ρ:List Addr) (A:PHp) (ps:List PV),Rel K cm ρ A H/\RVs ρ H ps vs/\ps.length=n/\OutV K cm ρ H (λa H'=>E (.ref a) none H') Q (f ps A)
def OutS (ρ:List Addr) (H:L2.Hp) (XE:Addr->L2.Hp->Prop) (D:L2.Y7):R Fl->Prop
 | .ok f A'=>∀ρ' H',Ext ρ H ρ' H'->Rel K cm ρ' A' H'->aJ1 D ρ' H' f
 | .ex c v A'=>XPost K cm ρ H c v A' XE
 | .no=>False
def S3 (XE:Addr->L2.Hp->Prop) (s:SD):L2.TS:=λD σ H=>∃(ρ:List Addr) (A:PHp) (σp:PSt),Rel K cm ρ A H/\RSt ρ H σp σ/\OutS K cm ρ H XE D (s σp A)
end
section
variable {K:PySem.W.Frag} {cm:Nat->Addr} {ρ ρ1:List Addr} {H H1:L2.Hp} {XQ:Addr->L2.Hp->Prop} {Q:L2.VK} {D:L2.Y7}
theorem XPost.ext {c:Nat} {v:PV} {A':PHp} (h:XPost K cm ρ H c v A' XQ) (x:Ext ρ H ρ1 H1):XPost K cm ρ1 H1 c v A' XQ:=λρ' H' a v' y r rv f=>h ρ' H' a v' (x.trans y) r rv f
theorem OutV.ext {r:R PV} (h:OutV K cm ρ H XQ Q r) (x:Ext ρ H ρ1 H1):OutV K cm ρ1 H1 XQ Q r:=by
 cases r with
 | ok v A'=>exact λρ' H' v' y rl rv=>h ρ' H' v' (x.trans y) rl rv
 | ex c v A'=>exact XPost.ext h x
 | no=>exact h
theorem OutS.ext {r:R Fl} (h:OutS K cm ρ H XQ D r) (x:Ext ρ H ρ1 H1):OutS K cm ρ1 H1 XQ D r:=by
 cases r with
 | ok v A'=>exact λρ' H' y rl=>h ρ' H' (x.trans y) rl
 | ex c v A'=>exact XPost.ext h x
 | no=>exact h
theorem Calm.ext {H':L2.Hp} (c:Calm H H'):Ext ρ H ρ H':=⟨List.prefix_refl _,λa vs h=>c a _ h (by intro φ z;cases z),λa vs h=>c a _ h (by intro φ z;cases z)⟩
theorem aA2 {H':L2.Hp} {a:Addr} {o:PO} (r:RO K cm ρ H a o) (c:Calm H H'):RO K cm ρ H' a o:=by
 have e:Ext ρ H ρ H':=c.ext
 cases o with
 | lst l=>obtain⟨xs,h,q⟩:=r;exact⟨xs,c _ _ h (by intro φ z;cases z),q.mono e⟩
 | ro l=>
   obtain⟨xs,h,q⟩:=r
   rcases h with ⟨u,h⟩ | h
   ·exact⟨xs,.inl ⟨u,c _ _ h (by intro φ z;cases z)⟩,q.mono e⟩
   ·exact⟨xs,.inr h,q.mono e⟩
 | dI kvs=>obtain⟨kv,h,q⟩:=r;exact⟨kv,c _ _ h (by intro φ z;cases z),q.mono e⟩
 | ins c' fs=>obtain⟨hs,dx,kv,h,q⟩:=r;exact⟨hs,dx,kv,c _ _ h (by intro φ z;cases z),q.mono e⟩
 | dT kvs=>obtain⟨kv,h,q⟩:=r;exact⟨kv,c _ _ h (by intro φ z;cases z),q.mono e⟩
 | exc c' v=>obtain⟨o,d,v',h,h1,h2,h3,h4,q⟩:=r;exact⟨o,d,v',c _ _ h (by intro φ z;cases z),h1,h2,h3,c _ _ h4 (by intro φ z;cases z),q.mono e⟩
theorem Rel.calm {H':L2.Hp} {A:PHp} (r:Rel K cm ρ A H) (c:Calm H H'):Rel K cm ρ A H':=⟨r.len,λn o a h1 h2=>aA2 (r.obj n o a h1 h2) c,r.inj⟩
end
def CXw (P:Program) (w:World):L2.CXT:=λouter H s E e s'=>∃a C v H',e=.ref a/\s'.os=s.os/\AllBare s'.gens/\L2.Un (L2.frs outer) [] H H' s.heap s'.heap/\L2.HOk P w H' s'.heap/\L9 .none H' a C v/\E (.ref a) none H'
def EPx (X:L2.Cx) (pins:List (Addr×Obj)) (σ:L2.St) (XQ:Addr->L2.Hp->Prop) (e:Value) (s':Shared):Prop:=∃a C v H',e=.ref a/\L2.Inv X pins σ H' s'/\L9 .none H' a C v/\XQ a H'
def PEx (X:L2.Cx) (cm:Nat->Addr) (e:Expr) (d:ED):Prop:=
 ∀(pins:List (Addr×Obj)) (s:Shared) (σ:L2.St) (H:L2.Hp) (Q:L2.VK) (XQ:Addr->L2.Hp->Prop),L2.Inv X pins σ H s->aQ2 X.K cm XQ d σ H Q->wpAny (model X.prog X.w) X.A (eval e X.env) (L2.EP X pins σ Q) (EPx X pins σ XQ) s
section
variable {X:L2.Cx} {cm:Nat->Addr} {pins:List (Addr×Obj)} {σ:L2.St} {H:L2.Hp} {s s':Shared}
theorem aA3 {E:L2.XK} {e:Value} (I:L2.Inv X pins σ H s) (h:CXw X.prog X.w X.stack H s E e s'):EPx X pins σ (λa H'=>E (.ref a) none H') e s':=by
 obtain⟨a,C,v,H',rfl,os,bare,un,hok,f,q⟩:=h
 obtain⟨hh,g,d,t,os'⟩:=s'
 obtain rfl:os'=s.os:=os
 exact⟨a,C,v,H',rfl,I.call (h':=hh) (g':=g) (d':=d) (t':=t) (ch:=[]) un hok bare (λb z=>absurd z (by simp)),f,q⟩
theorem aA4 {k:Nat} {f:Addr} {fd:FuncData} {ps:List Str} {sp:L2.Sp} {Q:L2.VK} {E:L2.XK} {us:List Value} {vs:List L2.V} (F:L2.FnOk X.prog X.w X.K X.mg X.base (CXw X.prog X.w) k f fd ps sp) (hr:L2.Room k X.A) (hb:L2.Binds X.K fd ps [])
 (I:L2.Inv X pins σ H s) (r:L2.Vals vs us) (h:sp vs H Q E):wpAny (model X.prog X.w) X.A (call (.ref f) us) (L2.EP X pins σ Q) (EPx X pins σ λa H'=>E (.ref a) none H') s:=by
 have hl:us.length=ps.length:=by rw [←r.length];exact F.len _ _ _ _ h
 have hb':=hb s us I.kIn (by rw [List.append_nil];exact hl)
 rw [List.append_nil] at hb'
 refine wpAny_call (codeAny_mono (F.run X.A X.stack s H ⟨us,[]⟩ us vs Q E hr I.env0 hb' r h) λr s' hq=>?_)
 cases r with
 | error e=>exact aA3 I hq
 | ok fl=>
   cases fl with
   | ret u=>exact I.after hq
   | next=>exact False.elim hq
   | brk=>exact False.elim hq
   | cont=>exact False.elim hq
theorem as6 {f:Fun} {n:Nat} {ds:AD} (hn:∀vs A,f vs A≠.no->vs.length=n) {Q:L2.VK} {XQ:Addr->L2.Hp->Prop} (h:aQ2 X.K cm XQ (V8 f ds) σ H Q) :
 EvA X.K cm ds σ H λvs H1=>SpX X.K cm f n vs H1 Q (λe _ H'=>∃a,e=.ref a/\XQ a H'):=by
 obtain⟨ρ,A,σp,rl,rs,o⟩:=h
 unfold V8 bnd noX at o
 rcases hds:ds σp A with ⟨xs,A1⟩ | ⟨c,v,A1⟩ | _
 ·rw [hds] at o
  refine⟨ρ,A,σp,xs,A1,rl,rs,hds,λρ1 H1 vs1 x1 rl1 rv1=>?_⟩
  have o:OutV X.K cm ρ H XQ Q (f xs A1):=o
  refine⟨ρ1,A1,xs,rl1,rv1,hn xs A1 (λz=>by rw [z] at o;exact o),?_⟩
  have o2:=o.ext x1
  revert o2
  cases f xs A1 with
  | ok v A'=>exact λz=>z
  | ex c v A'=>exact λz ρ' H' a v' y r rv fl=>⟨a,rfl,z ρ' H' a v' y r rv fl⟩
  | no=>exact λz=>z
 ·rw [hds] at o;exact False.elim o
 ·rw [hds] at o;exact False.elim o
theorem aA5 {XQ:Addr->L2.Hp->Prop} {e:Value} (h:EPx X pins σ (λa H'=>∃b,Value.ref a=.ref b/\XQ b H') e s'):EPx X pins σ XQ e s':=by
 obtain⟨a,C,v,H',h1,I,h2,b,h3,h4⟩:=h
 cases h3
 exact⟨a,C,v,H',h1,I,h2,h4⟩
end
section
variable {X:L2.Cx} {cm:Nat->Addr}
theorem aA6 {f:Fun} {n k:Nat} {fa:Addr} {fd:FuncData} {ps:List Str} {x:Str} {e:Expr} {es:List Expr} {ds:AD} {p pos:Pos} (F:L2.FnOk X.prog X.w X.K X.mg X.base (CXw X.prog X.w) k fa fd ps (SpX X.K cm f n)) (hn:∀vs A,f vs A≠.no->vs.length=n) (hr:L2.Room k X.A)
 (hg:L2.Gl X x) (hm:X.mg x=some (.ref fa)) (hk:PySem.W.keepIn X.K (.ref fa)=true) (hb:L2.Binds X.K fd ps [])
 (ha:L2.PA X.nox (e::es) (EvA X.K cm ds)) (hdb:(x == ("__debug__" : Str))=false:=by decide) (he:starEach (e::es) X.env=(false,eval e X.env)::starEach es X.env:=by exact D2 rfl) (hpl:(backTo pos (starEach es X.env)).any (·.1)=false:=by rfl) :
 PEx X cm (.Call (.Name x p) (e::es) [] pos) (V8 f ds):=by
 intro pins s σ H Q XQ I h
 refine wpAny_Call_Name_kw (L2.T7 I hg hm ?_ hdb)
 refine PySem.W.callWith_K (h₀:=X.base) I.ok.mod.kin hk (wpAny_mono (ha pos pins s σ H _ (I.wish _) (as6 hn h)) (λus s1 ⟨vs,H1,I1,r,q⟩=>⟨I1.kIn,?_⟩) λ_ _ z=>False.elim z) he hpl
 exact wpAny_mono (aA4 F hr hb I1.unwish r q) (λ_ _ z=>z) λ_ _ z=>aA5 z
end
def XOk (X:L2.Cx) (XE:Addr->L2.Hp->Prop):Prop:=∀(pins:List (Addr×Obj)) (σ:L2.St) (H:L2.Hp) (s:Shared) (a C:Addr) (v:L2.V),L2.Inv X pins σ H s->L9 .none H a C v->XE a H->X.xe (.ref a) s
def w4 {α:Type} (m:M α):Prop:=∀A c v A',m A≠.ex c v A'
theorem M2 {α β:Type} {m:M α} {f:α->M β} (h:w4 m) (k:∀a,w4 (f a)):w4 (bnd m f):=λA c v A' e=>by
 unfold bnd at e
 rcases hm:m A with ⟨a,A1⟩ | ⟨c1,v1,A1⟩ | _ <;> rw [hm] at e
 ·exact k a A1 c v A' e
 ·exact h A c1 v1 A1 hm
 ·cases e
theorem G2 {α:Type} {a:α}:w4 (ret a):=λA c v A' e=>by cases e
theorem ak9 {α:Type}:w4 (stuck (α:=α)):=λA c v A' e=>by cases e
theorem P8 (n:Nat):w4 (C7 n):=λA c v A' e=>by unfold C7 at e;split at e <;> cases e
theorem w5 (x:PV):w4 (Q6 x):=by
 cases x with
 | ref n=>exact P8 n
 | tup l=>exact G2
 | _=>exact ak9
theorem as7 (J:It):w4 (P4 J):=by
 cases J with
 | rng lo n=>exact G2
 | lst m=>exact M2 (P8 m) λ_=>G2
 | tup l=>exact G2
 | enm m=>exact M2 (P8 m) λ_=>G2
 | enk k m=>exact M2 (P8 m) λ_=>G2
 | fix l=>exact G2
 | zip x y=>exact M2 (w5 x) λ_=>G2
theorem as8 (J:It) (i:Nat):w4 (item J i):=by
 cases J with
 | rng lo n=>exact G2
 | lst m=>exact M2 (P8 m) λ_=>G2
 | tup l=>exact G2
 | enm m=>exact M2 (P8 m) λ_=>G2
 | enk k m=>exact M2 (P8 m) λ_=>G2
 | fix l=>exact G2
 | zip x y=>exact M2 (w5 x) λ_=>M2 (w5 y) λ_=>G2
section
variable {X:L2.Cx} {cm:Nat->Addr} {XE:Addr->L2.Hp->Prop}
theorem noX_inv {α:Type} {m:M α} {A:PHp} {r:R α} (h:noX m A=r):(∃a A',m A=.ok a A'/\r=.ok a A')\/r=.no:=by
 unfold noX at h
 rcases hm:m A with ⟨a,A'⟩ | _ | _ <;> rw [hm] at h
 ·exact .inl ⟨a,A',rfl,h.symm⟩
 ·exact .inr h.symm
 ·exact .inr h.symm
theorem aK2 {st:Stmt} {t:L2.TS} (h:L2.PS X.nox st t):L2.PS X st t:=λpins s σ H D I hw=>
 wpAny_mono (h pins s σ H D (I.wish _) hw) (λ_ _ q=>q.unwish) λ_ _ z=>False.elim z
theorem e9 {st:Stmt} {s:SD} (h:L2.PS X.nox st (EvS X.K cm s)):L2.PS X st (S3 X.K cm XE (Z7 s)):=N5 (aK2 h) λD σ H ⟨ρ,A,σp,rl,rs,o⟩=>by
 rcases noX_inv (m:=s σp) (A:=A) rfl with ⟨f,A',e,q⟩ | q
 ·have o:OutS X.K cm ρ H XE D (noX (s σp) A):=o
  rw [q] at o
  exact⟨ρ,A,σp,f,A',rl,rs,e,o⟩
 ·have o:OutS X.K cm ρ H XE D (noX (s σp) A):=o
  rw [q] at o;exact False.elim o
theorem aK3 {st:List Stmt} {s:SD} (h:L2.PSs X.nox st (EvS X.K cm s)):L2.PSs X st (S3 X.K cm XE (Z7 s)):=Y2 (L2.PSs.nox h) λD σ H ⟨ρ,A,σp,rl,rs,o⟩=>by
 rcases noX_inv (m:=s σp) (A:=A) rfl with ⟨f,A',e,q⟩ | q
 ·have o:OutS X.K cm ρ H XE D (noX (s σp) A):=o
  rw [q] at o
  exact⟨ρ,A,σp,f,A',rl,rs,e,o⟩
 ·have o:OutS X.K cm ρ H XE D (noX (s σp) A):=o
  rw [q] at o;exact False.elim o
theorem w6 {st:Stmt} {s:SD} (h:L2.PS X st (S3 X.K cm XE s)):L2.PSs X [st] (S3 X.K cm XE s):=L2.q8 h
theorem M8 {st:Stmt} {rest:List Stmt} {s r:SD} (h1:L2.PS X st (S3 X.K cm XE s)) (h2:L2.PSs X rest (S3 X.K cm XE r)):L2.PSs X (st::rest) (S3 X.K cm XE (C6 s r)):=
 Y2 (L2.y7 h1 h2) λD σ H ⟨ρ,A,σp,rl,rs,o⟩=>by
  refine⟨ρ,A,σp,rl,rs,?_⟩
  unfold C6 bnd at o
  rcases hs:s σp A with ⟨f,A1⟩ | ⟨c,v,A1⟩ | _ <;> rw [hs] at o
  ·intro ρ1 H1 x1 rl1
   cases f with
   | nx σ1=>exact λσ' rs'=>⟨ρ1,A1,σ1,rl1,rs',OutS.ext o x1⟩
   | rt v=>exact λv' rv=>o ρ1 H1 x1 rl1 v' rv
   | bk σ1=>exact λσ' rs'=>o ρ1 H1 x1 rl1 σ' rs'
   | ct σ1=>exact λσ' rs'=>o ρ1 H1 x1 rl1 σ' rs'
  ·exact o
  ·exact o
theorem aQ3 {c:Expr} {a b:List Stmt} {t:TD} {s u:SD} {pos:Pos} (hc:L2.PT X.nox c (EvT X.K cm t)) (ha:L2.PSs X a (S3 X.K cm XE s)) (hb:L2.PSs X b (S3 X.K cm XE u)):L2.PS X (.If c a b pos) (S3 X.K cm XE (sIf (ay3 t) s u)):=
 N5 (L2.aC3 (L2.PT.nox hc) ha hb) λD σ H ⟨ρ,A,σp,rl,rs,o⟩=>by
  unfold sIf ay3 bnd at o
  rcases noX_inv (m:=t σp) (A:=A) rfl with ⟨x,A1,e1,q⟩ | q <;> rw [q] at o
  ·refine⟨ρ,A,σp,x,A1,rl,rs,e1,λρ1 H1 x1 rl1=>?_⟩
   cases x with
   | true=>rw [if_pos rfl];exact⟨ρ1,A1,σp,rl1,rs.mono x1,OutS.ext o x1⟩
   | false=>rw [if_neg (by simp)];exact⟨ρ1,A1,σp,rl1,rs.mono x1,OutS.ext o x1⟩
  ·exact False.elim o
theorem aK4 {tg iter:Expr} {body:List Stmt} {it:ID} {g:GD} {b:SD} {pos:Pos} (hp:PassesOwn (model X.prog X.w) X.A X.env X.xe) (hc:X.calm=true) (hi:L2.PI X tg iter (EvI X.K cm it)) (hg:L2.PG X tg (EvG X.K cm g)) (hb:L2.PSs X body (S3 X.K cm XE b))
 (hs:∀x,foldedSetIterable iter X.env x=pure x:=by intro _;rfl):L2.PS X (.For tg iter body [] pos) (S3 X.K cm XE (U2 (ay4 it) (Z8 g) b)):=
 N5 (L2.am9 hp hc hi hg hb hs) λD σ H ⟨ρ,A,σp,rl,rs,o⟩=>by
  unfold U2 ay4 bnd at o
  rcases noX_inv (m:=it σp) (A:=A) rfl with ⟨J,A1,e1,q⟩ | q <;> rw [q] at o
  case inr=>exact False.elim o
  have o1:OutS X.K cm ρ H XE D (bnd (P4 J) (λn=>J9 J (Z8 g) b (n+1) 0 σp) A1):=o
  clear o
  unfold bnd at o1
  rcases e2:P4 J A1 with ⟨n,A2⟩ | ⟨c,v,A2⟩ | _ <;> rw [e2] at o1
  case ex=>exact absurd e2 (as7 J _ _ _ _)
  case no=>exact False.elim o1
  have o:OutS X.K cm ρ H XE D (J9 J (Z8 g) b (n+1) 0 σp A2):=o1
  clear o1
  obtain rfl:=W1 e2
  refine⟨ρ,A,σp,J,A2,rl,rs,e1,λρ1 H1 j x1 rl1 rj=>?_⟩
  refine⟨λi m σ' H'=>∃ρ' B σp',Ext ρ1 H1 ρ' H'/\Rel X.K cm ρ' B H'/\RSt ρ' H' σp' σ'/\OutS X.K cm ρ' H' XE D (J9 J (Z8 g) b (m+1) i σp' B),⟨n,ρ1,A2,σp,Ext.refl _ _,rl1,rs.mono x1,o.ext x1⟩,?_⟩
  rintro i m σ' H' ⟨ρ',B,σp',x2,rl2,rs2,o3⟩
  rw [K2] at o3
  unfold bnd at o3
  rcases e3:item J i B with ⟨x,B1⟩ | ⟨c,v,B1⟩ | _ <;> rw [e3] at o3
  case ex=>exact absurd e3 (as8 J i _ _ _ _)
  case no=>exact False.elim o3
  obtain⟨rfl,hit⟩:=u7 rl2 (rj.mono x2) e3
  cases x with
  | none=>exact .inl ⟨hit,o3 ρ' H' (Ext.refl _ _) rl2 σ' rs2⟩
  | some v=>
    refine .inr ⟨hit.1,λσ3 H3=>∃ρ3 B3 σp3,Ext ρ1 H1 ρ3 H3/\Rel X.K cm ρ3 B3 H3/\RSt ρ3 H3 σp3 σ3/\OutS X.K cm ρ3 H3 XE D (J9 J (Z8 g) b m (i+1) σp3 B3),?_,λy H3 hy=>?_⟩
    ·rintro σ3 H3 ⟨ρ3,B3,σp3,x3,rl3,rs3,o5⟩
     cases m with
     | zero=>rw [Z3] at o5;exact False.elim o5
     | succ m=>exact⟨m,Nat.lt_succ_self _,ρ3,B3,σp3,x3,rl3,rs3,o5⟩
    ·obtain⟨x3,rl3,rv3⟩:=hit.2 y H3 hy
     have o4:OutS X.K cm ρ' H' XE D (bnd (Z8 g v σp') (λσ1=>bnd (b σ1) λo=>match o with
      | .nx σ2=>J9 J (Z8 g) b m (i+1) σ2
      | .ct σ2=>J9 J (Z8 g) b m (i+1) σ2
      | .bk σ2=>ret (.nx σ2)
      | .rt v=>ret (.rt v)) B1):=o3
     unfold Z8 at o4
     rcases noX_inv (m:=g v σp') (A:=B1) rfl with ⟨σ4,B4,e4,q4⟩ | q4
     case inr=>unfold bnd at o4;rw [q4] at o4;exact False.elim o4
     rw [bnd_ok q4] at o4
     refine⟨ρ',B1,σp',v,σ4,B4,rl3,rs2.mono x3,rv3,e4,λρ4 H4 σ5 x4 rl4 rs4=>⟨ρ4,B4,σ4,rl4,rs4,?_⟩⟩
     have o5:=(o4.ext x3).ext x4
     unfold bnd at o5
     rcases e5:b σ4 B4 with ⟨f,B5⟩ | ⟨c,u,B5⟩ | _ <;> rw [e5] at o5
     ·intro ρ5 H5 x5 rl5
      have x15:=(((x2.trans x3).trans x4).trans x5)
      cases f with
      | nx σ6=>exact λσ7 rs7=>⟨ρ5,B5,σ6,x15,rl5,rs7,OutS.ext o5 x5⟩
      | ct σ6=>exact λσ7 rs7=>⟨ρ5,B5,σ6,x15,rl5,rs7,OutS.ext o5 x5⟩
      | bk σ6=>exact λσ7 rs7=>o5 ρ5 H5 x5 rl5 σ7 rs7
      | rt u=>exact λv' rv'=>o5 ρ5 H5 x5 rl5 v' rv'
     ·exact o5
     ·exact o5
end
theorem as9 {fs:List Addr} {L:Addr} {H0 H H':L2.Hp} {h0 h h':Heap} (a:L2.Un fs [] H0 H h0 h) (b:L2.Un (L::fs) [] H H' h h') (hL:h0.objs.size<=L):L2.Un fs [] H0 H' h0 h':=by
 have ne:∀b o,h0.get? b=some o->b≠L:=λb o e=>Nat.ne_of_lt (Nat.lt_of_lt_of_le (Heap.lt_size e) hL)
 refine⟨λc o e n hc hx=>?_,λc o e n hc hx=>?_,λc o e n hx=>?_,λc o e hx=>?_,λc xs e=>b.tups c xs (a.tups c xs e),λc o u e=>b.frzs c o u (a.frzs c o u e),λc ps e=>?_⟩
 ·exact b.keep c o (a.keep c o e n hc hx) (a.free c o e n hx) (λz=>(List.mem_cons.mp z).elim (ne c o e) hc) hx
 ·obtain⟨sl,e1⟩:=a.slot c o e n hc hx
  obtain⟨sl',e2⟩:=b.slot c _ e1 (a.free c o e n hx) (List.mem_cons_of_mem _ hc) hx
  exact⟨sl',e2⟩
 ·obtain⟨o',e1⟩:=a.there c o e hx
  exact b.free c o' e1 (a.free c o e n hx) hx
 ·obtain⟨o',e1⟩:=a.there c o e hx
  exact b.there c o' e1 hx
 ·obtain⟨m1,e1⟩:=a.tbls c ps e
  obtain⟨m2,e2⟩:=b.tbls c _ e1
  exact⟨m1++m2,by rw [e2,Array.append_assoc]⟩
def XEo (E:L2.XK) (a:Addr) (H':L2.Hp):Prop:=∃C v,L9 .none H' a C v/\∀H'',Calm H' H''->L9 .none H'' a C v->E (.ref a) none H''
section
variable {P:Program} {w:World} {K:PySem.W.Frag} {mg:Str->Option Value} {base:Heap} {cm:Nat->Addr}
theorem aK5 {N:List Str} {qual:Str} {scope:Scope} {f:Addr} {cdv:Value} {A:Around} {outer:List Env} {s0:Shared} {H0:L2.Hp} {E:L2.XK}:XOk (L2.X5 (CXw P w) P w K mg base N qual scope f cdv A outer s0 H0 E) (XEo E):=by
 intro pins σ H s a C0 v0 I _ ⟨C,v,fl,q⟩
 refine aK1 (P:=P) (w:=w) (base:=base) (outer:=outer) (L:=s0.heap.objs.size) (H:=H) I.ok.frames I.stack rfl I.stkFree I.hok fl λh' H' u ok fl' c=>?_
 refine⟨a,C,v,H',rfl,I.os,I.bare,?_,ok,fl',q H' c fl'⟩
 exact as9 I.base (u.mono I.stkSub λ_ z=>z) (Nat.le_refl _)
theorem aK6 {n p:Nat} {s:SD} {qs:List PV} {B:PHp} {ρ:List Addr} {H:L2.Hp} {Q:L2.VK} {E:L2.XK} (h:OutV K cm ρ H (λa H'=>E (.ref a) none H') Q (fn n p s qs B)) :
 OutS K cm ρ H (XEo E) { nx:=λ_ H'=>Q .non H',rt:=Q } (s (Ws.start n qs) B):=by
 unfold fn at h
 by_cases hl:qs.length=p
 case neg=>rw [show C3 (qs.length=p) (bnd (s (Ws.start n qs)) fin)=stuck from if_neg hl] at h;exact False.elim h
 rw [J4 hl] at h
 unfold bnd at h
 rcases hs:s (Ws.start n qs) B with ⟨o,B1⟩ | ⟨c,v,B1⟩ | _ <;> rw [hs] at h
 ·cases o with
  | nx σ1=>exact λρ1 H1 x1 rl1 σ' _=>h ρ1 H1 _ x1 rl1 .non
  | rt u=>exact λρ1 H1 x1 rl1 v' rv'=>h ρ1 H1 v' x1 rl1 rv'
  | bk σ1=>exact False.elim h
  | ct σ1=>exact False.elim h
 ·exact λρ' H' a v' x rl rv fly=>⟨cm c,v',fly,λH'' calm fly'=>h ρ' H'' a v' (x.trans calm.ext) (rl.calm calm) (rv.mono calm.ext) fly'⟩
 ·exact h
theorem aK7 {x qual:Str} {st:Stmt} {f:Addr} {fd:FuncData} {N ps:List Str} {k:Nat} {s:SD} (F:L2.Fun K x qual st f fd) (S:L2.D6 N ps (L2.A6 st))
 (hbody:∀(cdv:Value) (A:Around) (outer:List Env) (s0:Shared) (H:L2.Hp) (E:L2.XK),L2.Room k (A.deeper (PyProof.Rows.envOfC qual (L2.A6 st) s0.heap.objs.size f cdv))->
  L2.PSs (L2.X5 (CXw P w) P w K mg base N qual (L2.A6 st) f cdv A outer s0 H E) (L2.C1 st) (S3 K cm (XEo E) s)) :
 L2.FnOk P w K mg base (CXw P w) (k+1) f fd ps (SpX K cm (fn N.length ps.length s) ps.length):=by
 obtain⟨oc,od,kV,doc,pm,an,cdv,ct,osl,rfl,lk,hcd⟩:=F.ex
 refine L2.aC7 lk hcd S (λvs H Q E ⟨ρ,A,qs,rl,rv,hl,_⟩=>by rw [←rv.length];exact hl) λA outer s0 H vs Q E hr h=>⟨_,hbody cdv A outer s0 H E hr,?_⟩
 obtain⟨ρ,B,qs,rl,rv,hl,o⟩:=h
 exact⟨ρ,B,Ws.start N.length qs,rl,RSt.start0 rv,aK6 o⟩
end
theorem aA7 {n p:Nat} {s:SD} {vs:List PV} {A:PHp} (h:fn n p s vs A≠.no):vs.length=p:=by
 by_cases hl:vs.length=p
 ·exact hl
 ·exfalso;apply h;show C3 (vs.length=p) (bnd (s (Ws.start n vs)) fin) A=_;rw [show C3 (vs.length=p) (bnd (s (Ws.start n vs)) fin)=stuck from if_neg hl];rfl
structure aK8 (P:Program) (w:World) (K:PySem.W.Frag) (mg:Str->Option Value) (base:Heap) (cm:Nat->Addr) (x:Str) (k:Nat) (ps:List Str) (f:Fun) (n:Nat):Prop where
 ex:∃(fa:Addr) (fd:FuncData),L2.FnOk P w K mg base (CXw P w) k fa fd ps (SpX K cm f n)/\mg x=some (.ref fa)/\PySem.W.keepIn K (.ref fa)=true/\L2.Binds K fd ps []
 len:∀vs A,f vs A≠.no->vs.length=n
section
variable {X:L2.Cx} {cm:Nat->Addr}
theorem at0 {f:Fun} {n k k':Nat} {ps:List Str} {x:Str} {e:Expr} {es:List Expr} {ds:AD} {p pos:Pos} (D:aK8 X.prog X.w X.K X.mg X.base cm x k ps f n) (hk:k<=k') (hr:L2.Room k' X.A) (hg:L2.Gl X x)
 (ha:L2.PA X.nox (e::es) (EvA X.K cm ds)) (hdb:(x == ("__debug__" : Str))=false:=by decide) (he:starEach (e::es) X.env=(false,eval e X.env)::starEach es X.env:=by exact D2 rfl) (hpl:(backTo pos (starEach es X.env)).any (·.1)=false:=by rfl) :
 PEx X cm (.Call (.Name x p) (e::es) [] pos) (V8 f ds):=by
 obtain⟨fa,fd,F,hm,hkp,hb⟩:=D.ex
 exact aA6 F D.len (hr.mono hk) hg hm hkp hb ha hdb he hpl
theorem aK9 {tg iter:Expr} {wi:L2.TI} (h:L2.PI X.nox tg iter wi):L2.PI X tg iter wi:=λpins s σ H R I hw=>
 wpAny_mono (h pins s σ H R (I.wish _) hw) (λ_ _ q=>wpAny_mono q (λ_ _ ⟨it,fp,tn,J,H',h1,I',h2,h3,h4,h5⟩=>⟨it,fp,tn,J,H',h1,I'.unwish,h2,h3,h4,h5⟩) λ_ _ z=>False.elim z) λ_ _ z=>False.elim z
theorem aL0 {tg:Expr} {g:L2.TG} (h:L2.PG X.nox tg g):L2.PG X tg g:=λpins s σ H v u Q I r hw=>
 wpAny_mono (h pins s σ H v u Q (I.wish _) r hw) (λ_ _ ⟨σ',H',I',q⟩=>⟨σ',H',I'.unwish,q⟩) λ_ _ z=>False.elim z
end
def SpI (K:PySem.W.Frag):L2.Sp:=λvs H Q _=>∃e C fI v,vs=[.ref e,v]/\H e=some (XO C none none e)/\XK K C fI/\∀d,H d=none->d≠e->Q .non (L2.upd (L2.upd H e (XO C (some d) none e)) d (.xd [("at",v)]))
theorem aA8 {P:Program} {w:World} {K:PySem.W.Frag} {mg:Str->Option Value} {base:Heap} {x qual:Str} {st:Stmt} {f:Addr} {fd:FuncData} {k:Nat} {N:List Str} (F:L2.Fun K x qual st f fd) (S:L2.D6 N N (L2.A6 st)) (hN:N.length=2)
 (hbody:∀(cdv:Value) (A:Around) (outer:List Env) (s0:Shared) (H:L2.Hp) (E:L2.XK),L2.Room k (A.deeper (PyProof.Rows.envOfC qual (L2.A6 st) s0.heap.objs.size f cdv))->
  L2.PSs (L2.X5 L2.CX0 P w K mg base N qual (L2.A6 st) f cdv A outer s0 H E).nox (L2.C1 st) (aQ1 K (L2.tVar 0) (L2.tVar 1))) :
 L2.FnOk P w K mg base L2.CX0 (k+1) f fd N (SpI K):=by
 refine F.ok S (λvs H Q E ⟨e,C,fI,v,h,_⟩=>by rw [h,hN];rfl) λcdv A outer s0 H vs Q E hr h=>⟨_,hbody cdv A outer s0 H E hr,?_⟩
 obtain⟨e,C,fI,v,rfl,h1,h2,h3⟩:=h
 have g0:(L2.start N [L2.V.ref e,v])[0]?=some (some (L2.V.ref e)):=by unfold L2.start;simp
 have g1:(L2.start N [L2.V.ref e,v])[1]?=some (some v):=by unfold L2.start;simp
 exact⟨v,g1,.ref e,g0,e,C,fI,rfl,h1,h2,λd q1 q2=>h3 d q1 q2⟩
section
variable {X:L2.Cx} {pins:List (Addr×Obj)} {σ:L2.St} {H:L2.Hp} {s:Shared} {E:Value->Shared->Prop}
theorem aA9 {C fI:Addr} {fd:FuncData} {k:Nat} {ps:List Str} {v:L2.V} {u:Value} {Q:L2.VK} (xk:XK X.K C fI) (F:L2.FnOk X.prog X.w X.K X.mg X.base L2.CX0 k fI fd ps (SpI X.K)) (hr:L2.Room (k+1) X.A) (hb:L2.Binds X.K fd ps [])
 (I:L2.Inv X pins σ H s) (r:L2.RelV v u) (h:∀e d,H e=none->H d=none->d≠e->Q (.ref e) (L2.upd (L2.upd H e (XO C (some d) none e)) d (.xd [("at",v)]))) :
 wpAny (model X.prog X.w) X.A (call (.ref C) [u]) (L2.EP X pins σ Q) E s:=by
 have k1:∀b o,s.heap.get? b=some o->(s.heap.push { cls:=.type "tuple",data:=.seq [u].toArray }).get? b=some o:=λb o e=>Heap.get?_push_of_some _ e
 have e2:((s.heap.push { cls:=.type "tuple",data:=.seq [u].toArray }).push (aa4 C s.heap.objs.size)).get? (s.heap.objs.size+1)=some (aa4 C s.heap.objs.size):=by heap_get
 have I1:=I.kept (t':=s.toks) k1
 have I2:=I1.laid (a:=s.heap.objs.size+1) (o:=XO C none none (s.heap.objs.size+1)) (h':=(s.heap.push { cls:=.type "tuple",data:=.seq [u].toArray }).push (aa4 C s.heap.objs.size)) (t':=s.toks) (λb o q=>Heap.get?_push_of_some _ q) (Nat.le_of_eq (Heap.size_push _ _))
  (as2 ⟨_,_,e2,rfl,rfl,rfl,rfl,rfl⟩)
 have hf1:H (s.heap.objs.size+1)=none:=I.hok.fresh (Nat.le_succ _)
 have hsp:SpI X.K [.ref (s.heap.objs.size+1),v] (L2.upd H (s.heap.objs.size+1) (XO C none none (s.heap.objs.size+1))) (λw H2=>w=.non/\Q (.ref (s.heap.objs.size+1)) H2) L2.E0:=
  ⟨s.heap.objs.size+1,C,fI,v,rfl,L2.B9,xk,λd hd hne=>⟨rfl,by
   rw [L2.aw5]
   exact h _ d hf1 (by rw [L2.B0 hne] at hd;exact hd) hne⟩⟩
 have r2:L2.Vals [L2.V.ref (s.heap.objs.size+1),v] [Value.ref (s.heap.objs.size+1),u]:=.cons rfl (.cons r .nil)
 have hl:[Value.ref (s.heap.objs.size+1),u].length=ps.length:=by
  have e:=r2.length
  rw [F.len _ _ _ _ hsp] at e
  exact e.symm
 have hb':=hb _ [Value.ref (s.heap.objs.size+1),u] I2.kIn (by rw [List.append_nil];exact hl)
 rw [List.append_nil] at hb'
 obtain⟨hh,g,d,t,os⟩:=s
 refine wpAny_call (aJ8 (xk.cls I.kIn) (PySem.W.looks_findIn I.kIn xk.init) (λself=>PySem.W.bind_fn I.kIn self (beq_iff_eq.mp xk.fn)) (by simp [sizeLine]) (codeAny_mono (F.run _ X.stack _ _ ⟨[Value.ref (hh.objs.size+1),u],[]⟩ _ _ _ L2.E0 (hr.make C [u] [])
  (I2.env0.make C [u] []) hb' r2 hsp) λr s' hq'=>?_))
 cases r with
 | error e=>exact False.elim hq'
 | ok fl=>
   cases fl with
   | ret u=>
     obtain⟨v,H',I3,rv,ev,q3⟩:=I2.after hq'
     subst ev
     exact⟨rv,⟨L2.V.ref (hh.objs.size+1),H',I3,rfl,q3⟩⟩
   | next=>exact False.elim hq'
   | brk=>exact False.elim hq'
   | cont=>exact False.elim hq'
end
section
variable {M:Model} {A:Around} {E:Value->Shared->Prop} {env:Env}
theorem aL1 {s:Shared} {x:Sem Value} {C:Addr} {Q:Flow->Shared->Prop} (hh:A.handled=none)
 (h:wpAny M A x (λv s₁=>∃e oe vs,v=.ref e/\as0 s₁.heap C "ValueError.__new__"/\s₁.heap.get? e=some oe/\oe.cls=.ref C/\oe.data=.fields vs/\vs[1]?=some .none/\E (.ref e) s₁) E s) :
 wpAny M A (raiseStmt env (some x) none) Q E s:=by
 unfold raiseStmt
 refine wpAny_bind (wpAny_mono h (λv s₁ h₁=>?_) λ_ _ x=>x)
 obtain⟨e,oe,vs,rfl,xc,he,hcls,hd,h1,hE⟩:=h₁
 obtain⟨nm,q,N,bs,bm,hdct,sn,sub,ab,col,dd,k0,k1,k2,k3,k5,hC,_,hbase,_⟩:=xc.obj
 have hcB:(Value.ref C::bm).contains (.type "BaseException")=true:=by rw [List.contains_cons,hbase,Bool.or_true]
 obtain⟨hp,g,d,tk,os⟩:=s₁
 repeat (first | (with_reducible refine wpAny_loadPart_at he ?_;first | rw [hcls] | rw [hd]) | with_reducible refine wpAny_loadPart_at hC ?_ | (with_reducible refine wpAny_isSubtype_exc hC ?_;rw [hcB]) | with_reducible refine wpAny_field he hd h1 ?_ | wp_step)
 exact wpAny_raiseNew_none hh hE
end
structure at1 (P:Program) (w:World) (K:PySem.W.Frag) (mg:Str->Option Value) (base:Heap) (cm:Nat->Addr) (c:Nat) (x:Str) (k:Nat):Prop where
 ex:∃(fI:Addr) (fd:FuncData) (ps:List Str),L2.FnOk P w K mg base L2.CX0 k fI fd ps (SpI K)/\XK K (cm c) fI/\mg x=some (.ref (cm c))/\L2.Binds K fd ps []
section
variable {X:L2.Cx} {cm:Nat->Addr} {XE:Addr->L2.Hp->Prop}
theorem aB0 {H:L2.Hp} {C e d:Addr} {v:L2.V} (he:H e=none) (hd:H d=none) (hne:d≠e):L9 .none (L2.upd (L2.upd H e (XO C (some d) none e)) d (.xd [("at",v)])) e C v:=
 ⟨d,none,by rw [L2.B0 (Ne.symm hne),L2.B9],L2.B9,λT z=>nomatch z⟩
theorem at2 {c k k':Nat} {x:Str} {e:Expr} {ds:AD} {np cpos pos:Pos} (hx:XOk X XE) (hc:X.calm=true) (D:at1 X.prog X.w X.K X.mg X.base cm c x k) (hk:k+1<=k') (hr:L2.Room k' X.A) (hg:L2.Gl X x)
 (ha:L2.PA X.nox [e] (EvA X.K cm ds)) (hdb:(x == ("__debug__" : Str))=false:=by decide) (he:starEach [e] X.env=(false,eval e X.env)::starEach [] X.env:=by exact D2 rfl) (hpl:(backTo cpos (starEach [] X.env)).any (·.1)=false:=by rfl) :
 L2.PS X (.Raise (some (.Call (.Name x np) [e] [] cpos)) none pos) (S3 X.K cm XE (t9 c ds)):=by
 intro pins s σ H D' I ⟨ρ,A,σp,rl,rs,o⟩
 obtain⟨fI,fd,ps,F,xk,hm,hb⟩:=D.ex
 rw [arm_exec_Raise]
 simp only [evalOpt,Option.map]
 refine wpAny_bind (wpAny_standAt (aL1 (C:=cm c) (I.ok.hd hc) (wpAny_bind (wpAny_mono (Q:=λv s3=>∃e oe vs,v=.ref e/\as0 s3.heap (cm c) "ValueError.__new__"/\s3.heap.get? e=some oe/\oe.cls=.ref (cm c)/\oe.data=.fields vs/\vs[1]?=some .none/\X.xe (.ref e) s3) ?_ (λv s3 h3=>wpAny_bind (wpAny_standAt (wpAny_pure h3))) λ_ _ x=>x))))
 unfold t9 bnd at o
 rcases noX_inv (m:=ds σp) (A:=A) rfl with ⟨vs,A1,e1,q⟩ | q <;> rw [q] at o
 case inr=>exact False.elim o
 refine wpAny_Call_Name_kw (L2.T7 I hg hm ?_ hdb)
 refine PySem.W.callWith_K (h₀:=X.base) I.ok.mod.kin xk.kp (wpAny_mono (ha cpos pins s σ H (λvs1 H1=>∃ρ1,Ext ρ H ρ1 H1/\Rel X.K cm ρ1 A1 H1/\RVs ρ1 H1 vs vs1) (I.wish _) ⟨ρ,A,σp,vs,A1,rl,rs,e1,λρ1 H1 v1 x1 rl1 rv1=>⟨ρ1,x1,rl1,rv1⟩⟩) (λus s1 ⟨vs1,H1,I1,r,ρ1,x1,rl1,rv1⟩=>⟨I1.kIn,?_⟩) λ_ _ z=>False.elim z) he hpl
 rcases vs with _ | ⟨v,_ | ⟨w',t⟩⟩
 ·exact False.elim o
 ·cases rv1 with
  | cons rv rn=>
    rename_i v' t'
    cases rn
    cases r with
    | cons r1 r2=>
      rename_i u' t'
      cases r2
      have o:XPost X.K cm ρ H c v A1 XE:=o
      refine wpAny_mono (aA9 (Q:=λz H2=>∃a d,z=.ref a/\H1 a=none/\H1 d=none/\d≠a/\H2=L2.upd (L2.upd H1 a (XO (cm c) (some d) none a)) d (.xd [("at",v')])) xk F (hr.mono hk) hb I1.unwish r1 λa d h1 h2 h3=>⟨a,d,rfl,h1,h2,h3,rfl⟩) (λz s2 ⟨z',H2,I2,rz,a,d,h1,h2,h3,h4,h5⟩=>?_) λ_ _ z=>z
      subst h1
      obtain rfl:z=Value.ref a:=rz
      subst h5
      have fl:L9 .none (L2.upd (L2.upd H1 a (XO (cm c) (some d) none a)) d (.xd [("at",v')])) a (cm c) v':=aB0 h2 h3 h4
      have ha2:L2.upd H1 a (XO (cm c) (some d) none a) d=none:=by rw [L2.B0 h4];exact h3
      have g1:Ext ρ1 H1 ρ1 (L2.upd H1 a (XO (cm c) (some d) none a)):=Ext.same h2
      have g2:Ext ρ1 (L2.upd H1 a (XO (cm c) (some d) none a)) ρ1 (L2.upd (L2.upd H1 a (XO (cm c) (some d) none a)) d (.xd [("at",v')])):=Ext.same ha2
      have rl2:=(rl1.grow g1 (K7 h2)).grow g2 (K7 ha2)
      obtain⟨oe,ws,y1,y2,y3,y4,y5,y6⟩:=ah3 I2 (e:=a) (C:=cm c) (d:=some d) (tb:=none) (by rw [L2.B0 (Ne.symm h4),L2.B9])
      exact⟨a,oe,ws,rfl,xk.cls I2.kIn,y1,y2,y4,y5,hx pins σ _ s2 a (cm c) v' I2 fl (o ρ1 _ a v' ((x1.trans g1).trans g2) rl2 ((rv.mono g1).mono g2) fl)⟩
 ·exact False.elim o
end
def H9 (K:PySem.W.Frag) (C C':Addr):Bool:=match K.lookup C with
 | some ⟨_,_,.cls cd,_⟩=>cd.mro.contains (.ref C')
 | _=>false
theorem at3 {K:PySem.W.Frag} {C C' fI:Addr} (x:XK K C fI):∃nm q N bs bm hdct sn sub ab col dd k0 k1 k2 k3 k5,K.lookup C=some (excClassObj nm q C N bs bm hdct sn sub ab col dd k0 k1 k2 k3 k5 "ValueError.__new__")/\J5 bm=true/\(Value.ref C::bm).contains (.ref C')=H9 K C C':=by
 obtain⟨nm,q,N,bs,bm,hdct,sn,sub,ab,col,dd,k0,k1,k2,k3,k5,hC,ho,_⟩:=x.obj
 refine⟨nm,q,N,bs,bm,hdct,sn,sub,ab,col,dd,k0,k1,k2,k3,k5,hC,ho,?_⟩
 unfold H9
 rw [hC]
section
variable {M:Model} {A:Around} {E:Value->Shared->Prop} {s:Shared}
theorem aL2 {K:PySem.W.Frag} {C C' fI fI' e:Addr} {oe:Obj} {Q:Bool->Shared->Prop} (kin:K.In s.heap) (x:XK K C fI) (x':XK K C' fI') (he:s.heap.get? e=some oe) (hcls:oe.cls=.ref C) (hq:Q (H9 K C C') s):wpAny M A (excMatches (.ref e) (.ref C')) Q E s:=by
 obtain⟨nm,q,N,bs,bm,hdct,sn,sub,ab,col,dd,k0,k1,k2,k3,k5,hK,ho,hs⟩:=at3 (C':=C') x
 obtain⟨nm',q',N',bs',bm',hdct',sn',sub',ab',col',dd',k0',k1',k2',k3',k5',hK',ho',_⟩:=at3 (C':=C') x'
 have hC:=kin _ _ hK
 have hC':=kin _ _ hK'
 have hbase:=(v9 ho').2.1
 have hcB:(Value.ref C'::bm').contains (.type "BaseException")=true:=by rw [List.contains_cons,hbase,Bool.or_true]
 have f:=tc_notTuple
 rw [←hs] at hq
 obtain⟨hp,g,d,t,os⟩:=s
 unfold excMatches
 repeat (first | (with_reducible refine wpAny_loadPart_at he ?_;rw [hcls]) | with_reducible refine wpAny_loadPart_at hC' ?_ | (with_reducible refine wpAny_isSubtype_exc hC' ?_;rw [hcB]) | with_reducible refine wpAny_isSubtype_exc hC ?_ | wp_step)
 cases hb:(Value.ref C::bm).contains (.ref C') <;> (rw [hb] at hq;wp_walk;exact hq)
end
abbrev mkX (X:L2.Cx) (a:Addr):L2.Cx:={ X with A:=X.A.mark (some (.ref a)),calm:=false,xe:=λ_ _=>False }
section
variable {X:L2.Cx} {pins:List (Addr×Obj)} {σ:L2.St} {H:L2.Hp} {s:Shared} {a:Addr}
theorem at4 (I:L2.Inv X pins σ H s) (a:Addr):L2.Inv (mkX X a) pins σ H s:=
 ⟨⟨I.ok.mod,I.ok.kind,I.ok.glob,I.ok.blt,I.ok.above,I.ok.inj,I.ok.has,I.ok.cab,(λz=>by cases z),I.ok.frames,I.ok.stk,I.ok.exf,I.ok.bs,I.ok.bsz,I.ok.noex,I.ok.exfs,I.ok.funs,I.ok.frf⟩,I.os,I.bare,I.base,I.loc,I.cell,I.free,I.freeC,I.pin,I.hok,I.len⟩
theorem at5 (O:X.Ok) (I:L2.Inv (mkX X a) pins σ H s):L2.Inv X pins σ H s:=⟨O,I.os,I.bare,I.base,I.loc,I.cell,I.free,I.freeC,I.pin,I.hok,I.len⟩
theorem at6 {h':Heap} {t':Nat} {i:Nat} {x:Str} {v:Option Value} {m:Str->Option Value} (I:L2.Inv X pins σ H s) (hN:X.N.Nodup) (hi:X.N[i]?=some x)
 (hm:∀(j:Nat) (y:Str) (v:L2.V),X.N[j]?=some y->σ[j]?=some (some v)->L2.Vis X.env.scope y->∃u,L2.RelV v u/\L2.aN1 X.env s.heap m y u)
 (hn':h'.Ns X.env.locals (λy=>if y=x then v else m y)) (hs:Heap.SameBut X.env.locals s.heap h'):L2.Inv X pins (σ.set i none) H { s with heap:=h',toks:=t' }:=by
 obtain⟨m0,⟨oL,_,_,hoL,_⟩,_⟩:=id I.loc
 have hiσ:i<σ.length:=by rw [I.len];exact (List.getElem?_eq_some_iff.mp hi).1
 refine⟨I.ok,I.os,I.bare,⟨λb o e n hb hx=>?_,λb o e n hb hx=>?_,I.base.free,λb o e hx=>?_,I.base.tups,I.base.frzs,I.base.tbls⟩,⟨_,hn',λj y v' e1 e2 e3=>?_⟩,λy c e=>?_,I.free,I.freeC,λp hp=>?_,λb ob e=>?_,by simpa using I.len⟩
 ·exact (hs.2 b (Nat.ne_of_lt (Nat.lt_of_lt_of_le (Heap.lt_size e) I.ok.above))).trans (I.base.keep b o e n hb hx)
 ·obtain⟨sl,e1⟩:=I.base.slot b o e n hb hx
  exact⟨sl,(hs.2 b (Nat.ne_of_lt (Nat.lt_of_lt_of_le (Heap.lt_size e) I.ok.above))).trans e1⟩
 ·obtain⟨o',e1⟩:=I.base.there b o e hx
  exact⟨o',(hs.2 b (Nat.ne_of_lt (Nat.lt_of_lt_of_le (Heap.lt_size e) I.ok.above))).trans e1⟩
 ·by_cases hj:j=i
  ·subst hj
   rw [List.getElem?_set_self hiσ] at e2
   cases e2
  ·rw [List.getElem?_set_ne (Ne.symm hj)] at e2
   obtain⟨u',r',q⟩:=hm j y v' e1 e2 e3
   refine⟨u',r',?_⟩
   rcases q with ⟨k,e⟩ | ⟨k,c,e,z⟩
   ·refine .inl ⟨k,?_⟩
    have:y≠x:=λe=>hj (L2.Y5 hN e1 (e ▸ hi))
    simp [this,e]
   ·exact .inr ⟨k,c,e,z.sameBut hs (I.cne y c e)⟩
 ·obtain⟨w',z⟩:=I.cell y c e
  exact⟨w',z.sameBut hs (I.cne y c e)⟩
 ·obtain⟨e,n,ne,nf,d⟩:=I.pin p hp
  exact⟨(hs.2 p.1 ne).trans e,n,ne,nf,d⟩
 ·refine (I.hok b ob e).stay (λc w' hc q=>(hs.2 c ?_).trans q) (λ_ q=>q) λ_ _ q=>q
  rintro rfl
  rcases hc with rfl | hc
  ·rw [I.free] at e;cases e
  ·rw [I.free] at hc;cases hc
end
theorem g7 {ρ:List Addr} {H:L2.Hp} {σp:PSt} {σ:L2.St} (h:RSt ρ H σp σ) (i:Nat):RSt ρ H (σp.set i none) (σ.set i none):=by
 refine⟨by simp [h.len],λj p hp=>?_⟩
 by_cases hij:i=j
 ·subst hij
  rw [List.getElem?_set] at hp
  split at hp
  ·split at hp <;> cases hp
  ·rename_i z;exact absurd rfl z
 ·rw [List.getElem?_set_ne hij] at hp ⊢
  exact h.get j p hp
structure at7 (K:PySem.W.Frag) (cm:Nat->Addr) (es:List Nat):Prop where
 xk:∀c∈es,∃fI,XK K (cm c) fI
 sub:∀c∈es,∀k∈es,H9 K (cm c) (cm k)=subX c k
section
variable {K:PySem.W.Frag} {cm:Nat->Addr} {ρ:List Addr} {H:L2.Hp} {A:PHp} {a:Addr}
theorem aQ4 {o:PO} {φ:Heap->Prop} (r:RO K cm ρ H a o) (m:K1 o=true) (e:H a=some (.ext φ)):False:=by
 cases o with
 | lst l=>obtain⟨xs,h,q⟩:=r;rw [e] at h;cases h
 | ro l=>cases m
 | dI kvs=>obtain⟨kv,h,q⟩:=r;rw [e] at h;cases h
 | ins c fs=>obtain⟨_,dx,kv,h,q⟩:=r;rw [e] at h;cases h
 | dT kvs=>obtain⟨kv,h,q⟩:=r;rw [e] at h;cases h
 | exc c v=>obtain⟨o,d,v',h,q⟩:=r;rw [e] at h;cases h
theorem aa6 {φ:Heap->Prop} {u:L2.HO} (e:H a=some (.ext φ)):Calm H (L2.upd H a u):=λb v q n=>by
 rw [L2.B0 (λz=>by rw [z,e] at q;exact n φ (Option.some.inj q).symm)];exact q
theorem aB1 {φ:Heap->Prop} {u:L2.HO} {o:PO} (r:Rel K cm ρ A H) (e:H a=some (.ext φ)) (hn:RO K cm (ρ++[a]) (L2.upd H a u) a o):Rel K cm (ρ++[a]) (A++[o]) (L2.upd H a u):=by
 have r1:=r.calm (aa6 (u:=u) e)
 have x1:Ext ρ (L2.upd H a u) (ρ++[a]) (L2.upd H a u):=⟨List.prefix_append _ _,λ_ _ h=>h,λ_ _ h=>h⟩
 refine⟨by simp [r.len],λn p b h1 h2=>?_,λm n b p q h1 h2 h3 h4 h5 h6=>?_⟩
 ·by_cases hl:n<A.length
  ·rw [List.getElem?_append_left hl] at h1
   rw [List.getElem?_append_left (by rw [r.len];exact hl)] at h2
   exact (r1.obj n p b h1 h2).keep x1 λ_ z=>z
  ·have:n=A.length:=by
    have:=(List.getElem?_eq_some_iff.mp h1).1
    simp at this;omega
   subst this
   rw [List.getElem?_append_right (Nat.le_refl _)] at h1
   rw [←r.len,List.getElem?_append_right (Nat.le_refl _)] at h2
   simp at h1 h2
   subst h1;subst h2
   exact hn
 ·have key:∀(m:Nat) (p:PO),(ρ++[a])[m]?=some b->(A++[o])[m]?=some p->K1 p=true->m<A.length\/(m=A.length/\b=a):=λm p h1 h3 h5=>by
   by_cases hl:m<A.length
   ·exact .inl hl
   ·have:m=A.length:=by
     have:=(List.getElem?_eq_some_iff.mp h3).1
     simp at this;omega
    subst this
    rw [←r.len,List.getElem?_append_right (Nat.le_refl _)] at h1
    simp at h1
    exact .inr ⟨rfl,h1.symm⟩
  have old:∀(m:Nat) (p:PO),m<A.length->(ρ++[a])[m]?=some b->(A++[o])[m]?=some p->K1 p=true->b≠a:=λm p hl g1 g3 g5 z=>by
   rw [List.getElem?_append_left hl] at g3
   rw [List.getElem?_append_left (by rw [r.len];exact hl)] at g1
   rw [z] at g1
   exact aQ4 (r.obj m p _ g3 g1) g5 e
  rcases key m p h1 h3 h5 with hm | ⟨hm,hb⟩ <;> rcases key n q h2 h4 h6 with hn' | ⟨hn',hb'⟩
  ·rw [List.getElem?_append_left hm] at h3
   rw [List.getElem?_append_left (by rw [r.len];exact hm)] at h1
   rw [List.getElem?_append_left hn'] at h4
   rw [List.getElem?_append_left (by rw [r.len];exact hn')] at h2
   exact r.inj m n b p q h1 h2 h3 h4 h5 h6
  ·exact absurd hb' (old m p hm h1 h3 h5)
  ·exact absurd hb (old n q hn' h2 h4 h6)
  ·rw [hm,hn']
end
section
variable {X:L2.Cx} {cm:Nat->Addr}
def PH (X:L2.Cx) (cm:Nat->Addr) (es:List Nat) (hs:List ExceptHandler) (ph:List Hd):Prop:=
 ∀(pins:List (Addr×Obj)) (s:Shared) (σ:L2.St) (H:L2.Hp) (D:L2.Y7) (E:Value->Shared->Prop) (a:Addr) (c:Nat) (v':L2.V) (ρ:List Addr) (A:PHp) (σp:PSt) (v:PV) (f:Fl) (A':PHp),L2.Inv X pins σ H s->L9 .none H a (cm c) v'->c∈es->
  Rel X.K cm ρ A H->RSt ρ H σp σ->RV ρ H v v'->P6 ph c v σp A=.ok f A'->(∀ρ' H',Ext ρ H ρ' H'->Rel X.K cm ρ' A' H'->aJ1 D ρ' H' f)->wpAny (model X.prog X.w) X.A (handleBy (.ref a) X.env hs) (L2.SP X pins D) E s
theorem ph_nil {es:List Nat} {hs:List ExceptHandler}:PH X cm es hs []:=by
 intro pins s σ H D E a c v' ρ A σp v f A' I fl hc rl rs rv ev k
 cases ev
theorem aQ5 {es:List Nat} {hs:List ExceptHandler} {ph:List Hd} {k i:Nat} {x n:Str} {np pos:Pos} {b₀:Stmt} {body:List Stmt} {b:SD} (Er:at7 X.K cm es) (hk:k∈es) (hg:L2.Gl X x) (hm:X.mg x=some (.ref (cm k)))
 (hN:X.N.Nodup) (hi:X.N[i]?=some n) (hl:X.env.scope.names.lookup n=some .local)
 (hb:∀a,L2.PSs (mkX X a) (b₀::body) (EvS X.K cm b)) (hr:PH X cm es hs ph) (hdb:(x == ("__debug__" : Str))=false:=by decide) :
 PH X cm es (.ExceptHandler (some (.Name x np)) (some n) (b₀::body) pos::hs) ((k,some i,b)::ph):=by
 intro pins s σ H D E a c v' ρ A σp v f A' I fl hc rl rs rv ev kk
 obtain⟨fI,xk⟩:=Er.xk c hc
 obtain⟨fI',xk'⟩:=Er.xk k hk
 obtain⟨d,tb,f1,f2,f3⟩:=id fl
 obtain⟨oe,vs,y1,y2,y3,y4,y5,y6⟩:=ah3 I f1
 refine wpAny_handleBy_cons (codeAny_handlers_test (L2.T7 (X:=mkX X a) (at4 I a) hg hm ?_ hdb)) (by intro q;cases q)
 refine aL2 I.kIn xk xk' y1 y2 ?_
 rw [Er.sub c hc k hk]
 unfold P6 at ev
 cases hsx:subX c k with
 | true=>
   rw [hsx,if_pos rfl] at ev
   refine codeAny_handlers_suite_as ?_
   refine as5 (P:=X.prog) (w:=X.w) I.hok fl λh' H' u ok fl' cal=>?_
   have I2:=I.un (t':=s.toks) (u.mono (λ_ z=>nomatch z) λ_ z=>z) ok
   obtain⟨x0,A1,e1,ev1⟩:=A5 ev
   cases e1
   obtain⟨f0,A2,e2,ev2⟩:=A5 ev1
   cases ev2
   obtain⟨d,tb,g1,g2,g3⟩:=id fl'
   obtain⟨oe,vs,y1,y2,y3,y4,y5,y6⟩:=ah3 I2 g1
   obtain⟨u1,u2⟩:=U6 (P:=X.prog) (w:=X.w) (fs:=[]) (H:=H') (H':=L2.upd H' a (.frz oe (.own a))) (h:=h') (h':=h') [a] ok (λb hb=>by rw [List.mem_singleton.mp hb];exact⟨_,g1⟩) (λ_ z=>nomatch z) (λb o _ _ q=>q) (λ_ _ z=>nomatch z) (λb hb=>by rw [List.mem_singleton.mp hb];exact⟨_,y1⟩)
    (λb u hb q=>by rw [L2.B0 (λz=>hb (by simp [z]))];exact q) (λb _ q=>by rw [L2.B0 (λz=>by rw [z,g1] at q;cases q)];exact q)
    (λb u hb q=>by
     by_cases hba:b=a
     ·rw [hba,L2.B9] at q
      cases q
      rw [hba]
      exact⟨y1,oe,y1⟩
     ·rw [L2.B0 hba] at q
      rcases hb with hb | hb
      ·exact absurd (List.mem_singleton.mp hb) hba
      ·rw [ok.fresh hb] at q;cases q)
   have I3:=I2.un (t':=s.toks) (u1.mono (λ_ z=>nomatch z) λ_ z=>z) u2
   have cal2:Calm H (L2.upd H' a (.frz oe (.own a))):=cal.trans (aa6 g1)
   have x2:Ext ρ H (ρ++[a]) (L2.upd H' a (.frz oe (.own a))):=(cal2.ext (ρ:=ρ)).trans ⟨List.prefix_append _ _,λ_ _ h=>h,λ_ _ h=>h⟩
   have rl2:Rel X.K cm (ρ++[a]) (A++[.exc c v]) (L2.upd H' a (.frz oe (.own a))):=aB1 (rl.calm cal) g1 ⟨oe,d,v',L2.B9,y2,y3,⟨vs,y4,y6⟩,by rw [L2.B0 (λz=>by rw [z,g1] at g2;cases g2)];exact g2,rv.mono x2⟩
   have hla:(ρ++[a])[A.length]?=some a:=by rw [←rl.len];simp
   have rs2:RSt (ρ++[a]) (L2.upd H' a (.frz oe (.own a))) (σp.set i (some (.ref A.length))) (σ.set i (some (.ref a))):=(rs.mono x2).set i (.ref hla)
   refine L2.Y6 (X:=mkX X a) (at4 I3 a) hN hi (.inl hl) (v:=.ref a) rfl (λs4 I4=>?_) (.inr hl)
   refine wpAny_mono (hb a pins s4 _ _ { nx:=λσ' H'=>D.nx (σ'.set i none) H',rt:=D.rt,bk:=λσ' H'=>D.bk (σ'.set i none) H',ct:=λσ' H'=>D.ct (σ'.set i none) H' } I4 ⟨ρ++[a],A++[.exc c v],_,f0,A',rl2,rs2,e2,λρ1 H1 x1 rl1=>?_⟩) (λfl s5 q=>?_) λ_ _ z=>False.elim z
   ·have k1:=kk ρ1 H1 (x2.trans x1) rl1
    cases f0 with
    | nx σ1=>exact λσ' rs'=>k1 _ (g7 rs' i)
    | bk σ1=>exact λσ' rs'=>k1 _ (g7 rs' i)
    | ct σ1=>exact λσ' rs'=>k1 _ (g7 rs' i)
    | rt u=>exact k1
   ·have hp:(X.env.scope.kind == .class||(X.env.scope.kind == .module&&X.env.locals != X.env.globals))=false:=by rw [I.ok.kind];rfl
    have fin:∀{σ':L2.St} {H5:L2.Hp} {P:Prop} {Q':Unit->Shared->Prop},L2.Inv (mkX X a) pins σ' H5 s5->(∀s6,L2.Inv X pins (σ'.set i none) H5 s6->Q' () s6)->wpAny (model X.prog X.w) X.A (do bindName X.env n .none;unbindBehindTheSuite X.env n pos) Q' E s5:=λ{σ' H5 P Q'} I5 hQ=>by
     obtain⟨m,hn,hmm⟩:=I5.loc
     refine wpAny_nameGoes_keeps hl hn hp λh6 v6 hn6 hs6=>hQ _ ?_
     exact at6 (at5 I.ok I5) hN hi hmm hn6 hs6
    cases fl with
    | next=>
      obtain⟨σ',H5,I5,q⟩:=q
      exact fin (P:=True) I5 λs6 I6=>⟨_,H5,I6,q⟩
    | brk=>
      obtain⟨σ',H5,I5,q⟩:=q
      exact fin (P:=True) I5 λs6 I6=>⟨_,H5,I6,q⟩
    | cont=>
      obtain⟨σ',H5,I5,q⟩:=q
      exact fin (P:=True) I5 λs6 I6=>⟨_,H5,I6,q⟩
    | ret u=>
      obtain⟨v5,σ',H5,I5,r5,q⟩:=q
      exact fin (P:=True) I5 λs6 I6=>⟨v5,_,H5,I6,r5,q⟩
 | false=>
   rw [hsx,if_neg (by simp)] at ev
   exact hr pins s σ H D E a c v' ρ A σp v f A' I fl hc rl rs rv ev kk
end
structure XG (K:PySem.W.Frag) (C:Addr):Prop where
 ga:findIn K (.ref C) "__getattribute__" = some (some (.builtin "BaseException.__getattribute__"))
 gt:findIn K (.ref C) "__getattr__" = some none
 hd:hasDictIn K C=true
 cl:findIn K (.ref C) "__class__" = some (some (.builtin "object.__class__"))
 cg:specialIn K (.builtin "object.__class__") "__get__" = some (some (.builtin "getset_descriptor.__get__"))
 ct:takesIn K (.builtin "object.__class__")=some true
 mo:mroIn K C (.type "object")=some true
section
variable {prog:Program} {w:World} {A:Around} {E:Value->Shared->Prop} {K:PySem.W.Frag} {x C fI:Addr} {ox od:Obj} {name:Str} {h:Heap} {g:Array GenState} {d:Drawn} {t:Nat} {os:OsState}
theorem at8 {M:Model} {nameV:Value} {Q:Unit->Shared->Prop} (kin:K.In h) (xk:XK K C fI) (I:InstAt h x ox C (some od)) (hq:Q () ⟨h,g,d,t,os⟩):wpAny M A (checkBuiltinCall "BaseException.__getattribute__" ⟨[.ref x,nameV],[]⟩) Q E ⟨h,g,d,t,os⟩:=by
 have hk:builtinKind "BaseException.__getattribute__" = some .slot:=by decide +kernel
 have hsplit:splitId "BaseException.__getattribute__" = some ("BaseException","__getattribute__"):=by decide +kernel
 obtain⟨nm,q,N,bs,bm,hdct,sn,sub,ab,col,dd,k0,k1,k2,k3,k5,hK,ho,_⟩:=xk.obj
 have hC:=kin _ _ hK
 have hx:=I.at_
 have hc:=I.cls
 have hcB:(Value.ref C::bm).contains (.type "BaseException")=true:=by rw [List.contains_cons,(v9 ho).2.1];rfl
 have ha:=F.args_bexc_ga (.ref x) nameV
 simp only [checkBuiltinCall,hk,hsplit]
 refine wpAny_bind ?_
 ·unfold isInstance
  repeat (first | (with_reducible refine wpAny_loadPart_at hx ?_;rw [hc]) | (with_reducible refine wpAny_isSubtype_exc hC ?_;rw [hcB]) | wp_step)
  exact hq
theorem at9 {tk:Tok} {v:Value} {Q:Fin->Shared->Prop} (kin:K.In h) (I:InstAt h x ox C (some od)) (hf:findObj K C (some od) name=some (.value v)) (hq:Q (.done (.ret v)) ⟨h,g,d,t,os⟩) :
 wpAny (model prog w) A (Builtin.«object.__getattribute__» ⟨[.ref x,.str name tk],[]⟩) Q E ⟨h,g,d,t,os⟩:=by
 have L0:=I.type (M:=model prog w)
 have L1:=looks_find (M:=model prog w) kin I hf
 unfold Builtin.«object.__getattribute__»
 refine wpAny_bind (wpAny_pure ?_)
 refine wpAny_bind (wpAny_pure ?_)
 refine wpAny_bind (L0.at (wpAny_bind (L1.at ?_)))
 exact wpAny_pure hq
theorem aB2 {tk:Tok} {v gv av:Value} {Q:Fin->Shared->Prop} (kin:K.In h) (I:InstAt h x ox C (some od)) (hf:findObj K C (some od) name=some (.bind gv av)) (hq:wpAny (model prog w) A (call gv [av,.ref x,.ref C]) (λv s'=>Q (.done (.ret v)) s') E ⟨h,g,d,t,os⟩) :
 wpAny (model prog w) A (Builtin.«object.__getattribute__» ⟨[.ref x,.str name tk],[]⟩) Q E ⟨h,g,d,t,os⟩:=by
 have L0:=I.type (M:=model prog w)
 have L1:=looks_find (M:=model prog w) kin I hf
 unfold Builtin.«object.__getattribute__»
 refine wpAny_bind (wpAny_pure ?_)
 refine wpAny_bind (wpAny_pure ?_)
 refine wpAny_bind (L0.at (wpAny_bind (L1.at ?_)))
 show wpAny _ _ (holding [av] (call gv [av,.ref x,.ref C])>>=PySem.ret) _ _ _
 exact wpAny_bind (wpAny_holding (wpAny_mono hq (λv s' z=>wpAny_pure z) λ_ _ z=>z))
theorem aE2 {tk:Tok} {fill expr:Bool} {v:Value} {Q:Value->Shared->Prop} (kin:K.In h) (xk:XK K C fI) (xg:XG K C) (I:InstAt h x ox C (some od)) (hv:handedIn v=true)
 (hb:∀(A:Around) (E:Value->Shared->Prop) (R:Fin->Shared->Prop),R (.done (.ret v)) ⟨h,g,d,t,os⟩->wpAny (model prog w) A (Builtin.«object.__getattribute__» ⟨[.ref x,.str name tk],[]⟩) R E ⟨h,g,d,t,os⟩)
 (hq:Q v ⟨h,g,d,t,os⟩):wpAny (model prog w) A (getAttrBy (.ref x) (.str name tk) fill expr) Q E ⟨h,g,d,t,os⟩:=by
 have L0:=I.type (M:=model prog w)
 have L1:=looks_findIn (M:=model prog w) kin xg.ga
 have L2:=looks_findIn (M:=model prog w) kin xg.gt
 have f3:=F.excAttr_ValueError.ga.bind (.ref x)
 have hx0:(expr&&onTheHeap (Value.builtin "BaseException.__getattribute__"))=false:=by cases expr <;> rfl
 have hx2:(Value.builtin "BaseException.__getattribute__" == Value.builtin "object.__getattribute__")=false:=by decide +kernel
 have hx1:(onTheHeap (Value.ref C)&&Value.builtin "BaseException.__getattribute__" == Value.builtin "object.__getattribute__")=false:=by rw [hx2];rfl
 unfold getAttrBy
 refine wpAny_holding (wpAny_bind (L0.at (wpAny_bind (L1.at ?_))))
 simp only [hx1,Bool.false_eq_true,if_false]
 unfold getAttrByItsOwn hookBefore
 rw [if_pos (show onTheHeap (Value.ref C)=true from rfl)]
 refine wpAny_bind (L2.at (wpAny_bind (wpAny_attempt (wpAny_holding ?_))))
 unfold callGetattribute boundAndCalled
 rw [hx0,if_neg (by decide)]
 rw [f3]
 refine wpAny_bind (wpAny_pure (wpAny_call (codeAny_call_builtin F.excAttr_ValueError.ga.plain F.entry_bexc_ga (at8 kin xk I (hb _ _ _ ?_)))))
 show wpAny _ _ (handedOut v) _ _ _
 rw [handedOut_of hv]
 exact wpAny_pure hq
theorem aQ6 {expr:Bool} {v:Value} {Q:Value->Shared->Prop} (kin:K.In h) (xk:XK K C fI) (xg:XG K C) (I:InstAt h x ox C (some od)) (hf:findObj K C (some od) name=some (.value v)) (hv:handedIn v=true) (hq:Q v ⟨h,g,d,t+1,os⟩) :
 wpAny (model prog w) A (getAttr (.ref x) name expr) Q E ⟨h,g,d,t,os⟩:=by
 unfold getAttr
 refine wpAny_bind (wpAny_mkText ?_)
 exact aE2 kin xk xg I hv (λA E R hR=>at9 kin I hf hR) hq
theorem au0 {Q:Option Value->Shared->Prop} (kin:K.In h) (xk:XK K C fI) (xg:XG K C) (I:InstAt h x ox C (some od)) (hq:Q (some (.ref C)) ⟨h,g,d,t+1,os⟩) :
 wpAny (model prog w) A (getAttr? (.ref x) "__class__") Q E ⟨h,g,d,t,os⟩:=by
 have hf:findObj K C (some od) "__class__" = some (.bind (.builtin "getset_descriptor.__get__") (.builtin "object.__class__")):=findObj_data (by obtain⟨cd,hc,_⟩:=any_some xg.hd;rw [hc];rfl) xg.cl xg.cg xg.ct
 unfold getAttr? getAttrBy?
 refine wpAny_bind (wpAny_mkText (wpAny_bind (wpAny_attempt ?_)))
 exact aE2 kin xk xg I (v:=.ref C) rfl (λA E R hR=>aB2 (v:=.ref C) kin I hf (wpAny_call (class_get (s:=⟨h,g,d,t+1,os⟩) (ox:=ox) (od:=some od) kin I xg.mo hR))) (wpAny_pure hq)
end
theorem au1 {K:PySem.W.Frag} {x C fI:Addr} {ox od:Obj} (xk:XK K C fI) (xg:XG K C):KitX K (.ref x) (.ref C) (λh=>InstAt h x ox C (some od)) where
 ty:=λ_ _ _ I=>I.type
 it:=λ_ _ X _=>by
  obtain⟨cdD,hcD,_⟩:=any_some xg.hd
  unfold clsIn at hcD
  split at hcD
  ·rename_i c' d' cd' sl' ho
   intro A' Q' E' s' k q
   unfold isType loadHead
   exact wpAny_bind (wpAny_loadPart (k _ _ (X _ _ ho)) (wpAny_pure q))
  ·cases hcD
 ne:=λh tp dd its n sl X htp=>by
  obtain⟨cdD,hcD,_⟩:=any_some xg.hd
  refine Bool.eq_false_iff.mpr λq=>?_
  have e:C=tp:=Value.ref.inj (beq_iff_eq.mp q)
  subst e
  unfold clsIn at hcD
  split at hcD
  ·rename_i c' d' cd' sl' ho
   have z:=(X _ _ ho).symm.trans htp
   cases z
  ·cases hcD
 ca:=λ{_ _ _ _ _ s} X I k=>by obtain⟨h,g,d,t,os⟩:=s;exact au0 X xk xg I k
structure aB3 (K:PySem.W.Frag) (cm:Nat->Addr) (es:List Nat):Prop where
 xg:∀c∈es,XG K (cm c)
 kit:∀c∈es,∀k∈es,kitOne K (.ref (cm c)) (.ref (cm k))=some (subX c k)
 kitV:∀c∈es,kitOne K (.ref (cm c)) (.type "ValueError")=some true
section
variable {X:L2.Cx} {cm:Nat->Addr} {pins:List (Addr×Obj)} {σ:L2.St} {H:L2.Hp} {s:Shared}
theorem aa7 {a d C:Addr} {o:Obj} {vs:Array Value} {v':L2.V} (I:L2.Inv X pins σ H s) (h:H a=some (.frz o (.own a))) (h1:o.cls=.ref C) (h2:o.dict=some d) (h3:o.data=.fields vs) (h4:H d=some (.xd [("at",v')])) :
 ∃od u,InstAt s.heap a o C (some od)/\lookIn "at" od=some (some u)/\L2.RelV v' u:=by
 obtain⟨g1,_⟩:=(show L2.ObjOk X.prog X.w H s.heap a (.frz o (.own a)) from I.hok a _ h)
 obtain⟨mA,n1,n2⟩:=(show L2.ObjOk X.prog X.w H s.heap d (.xd [("at",v')]) from I.hok d _ h4)
 obtain⟨od,g2,g3⟩:=L2.aj3 n1
 obtain⟨u,hu,ru⟩:=L2.RelO.some_of (v:=v') (o:=mA "at") (by have:=n2 "at";simpa [List.lookup] using this)
 exact⟨od,u,⟨g1,h1,by unfold notCls;rw [h3],by rw [h2];exact g2⟩,by rw [g3,hu],ru⟩
theorem aa8 {K:PySem.W.Frag} {ρ:List Addr} {A A':PHp} {n:Nat} {es:List Nat} {p:Nat×PV} {v:L2.V} (rl:Rel K cm ρ A H) (rv:RV ρ H (.ref n) v) (e:n4 n es A=.ok p A'):A'=A/\p.1∈es/\∃a o d v' vs,v=.ref a/\H a=some (.frz o (.own a))/\o.cls=.ref (cm p.1)/\o.dict=some d/\o.data=.fields vs/\H d=some (.xd [("at",v')])/\RV ρ H p.2 v':=by
 unfold n4 at e
 rcases hA:A[n]? with _ | o
 ·rw [hA] at e;cases e
 ·cases o with
  | exc c x=>
    rw [hA] at e
    obtain⟨hc,e⟩:=B6 e
    cases e
    cases rv with
    | ref h=>
      obtain⟨o,d,v',h1,h2,h3,⟨vs,h4,_⟩,h5,h6⟩:=rl.obj n _ _ hA h
      exact⟨rfl,hc,_,o,d,v',vs,rfl,h1,h2,h3,h4,h5,h6⟩
  | _=>rw [hA] at e;cases e
end
section
variable {X:L2.Cx} {cm:Nat->Addr}
theorem aU2 {es:List Nat} {o:Expr} {d:ED} {pos:Pos} (Er:at7 X.K cm es) (Eg:aB3 X.K cm es) (ho:L2.PE X o (EvE X.K cm d)) (hb:attributeBase o "at" X.env (eval o X.env)=eval o X.env:=by rfl):L2.PE X (.Attribute o "at" pos) (EvE X.K cm (eAt es d)):=by
 intro pins s σ H Q I ⟨ρ,A,σp,v,A',rl,rs,ev,k⟩
 obtain⟨x,A1,e1,ev1⟩:=A5 ev
 cases x with
 | ref n=>
   obtain⟨p,A2,e2,ev2⟩:=A5 ev1
   cases ev2
   refine L2.ax4 hb (L2.thn (ho pins s σ H (λv1 H1=>∃ρ1,Ext ρ H ρ1 H1/\Rel X.K cm ρ1 A1 H1/\RV ρ1 H1 (.ref n) v1) I ⟨ρ,A,σp,.ref n,A1,rl,rs,e1,λρ1 H1 v1 x1 rl1 rv1=>⟨ρ1,x1,rl1,rv1⟩⟩) λu s1 ⟨x',H1,I1,rx,ρ1,x1,rl1,rv1⟩=>?_)
   obtain⟨rfl,hc,a,o,d,v',vs,rfl,h1,h2,h3,h4,h5,h6⟩:=aa8 rl1 rv1 e2
   obtain rfl:u=Value.ref a:=rx
   obtain⟨od,u,J,hl,ru⟩:=aa7 I1 h1 h2 h3 h4 h5
   obtain⟨fI,xk⟩:=Er.xk _ hc
   have xg:=Eg.xg _ hc
   obtain⟨hh,g,dd,t,os⟩:=s1
   refine aQ6 I1.kIn xk xg J (findObj_own xg.hd xk.na rfl hl) (L2.handed_of ru) ?_
   exact⟨v',H1,I1.tok _,ru,k ρ1 H1 v' x1 rl1 h6⟩
 | _=>cases ev1
theorem r_isE {es:List Nat} {k:Nat} {e:Expr} {d:ED} {tn:Str} {p p2 pos:Pos} (Er:at7 X.K cm es) (Eg:aB3 X.K cm es) (hk:k∈es) (he:L2.PE X e (EvE X.K cm d)) (hg:L2.Gl X "isinstance") (hm:X.mg "isinstance" = none) (hgt:L2.Gl X tn) (hmt:X.mg tn=some (.ref (cm k)))
 (hs:starEach [e,.Name tn p2] X.env=(false,eval e X.env)::starEach [.Name tn p2] X.env:=by exact D2 rfl) (hs2:starEach [Expr.Name tn p2] X.env=(false,eval (.Name tn p2) X.env)::starEach [] X.env:=by exact D2 rfl) (hpl:(backTo pos (starEach [Expr.Name tn p2] X.env)).any (·.1)=false:=by rfl)
 (hdb:(tn == ("__debug__" : Str))=false:=by decide) :
 L2.PE X (.Call (.Name "isinstance" p) [e,.Name tn p2] [] pos) (EvE X.K cm (ay5 es d k)):=by
 have call:L2.S4 X (.builtin "isinstance") (λvs H Q=>∃a o dd v' c ws,vs=[.ref a,.ref (cm k)]/\c∈es/\H a=some (.frz o (.own a))/\o.cls=.ref (cm c)/\o.dict=some dd/\o.data=.fields ws/\H dd=some (.xd [("at",v')])/\Q (.bl (subX c k)) H):=by
  intro pins s σ H xs us Q I r h
  obtain⟨a,o,dd,v',c,ws,rfl,hc,h1,h2,h3,h4,h5,q⟩:=h
  obtain⟨u,w,rfl,ru,rw'⟩:=L2.aO4 r
  obtain rfl:u=Value.ref a:=ru
  obtain rfl:w=Value.ref (cm k):=rw'
  obtain⟨od,u,J,hl,ru⟩:=aa7 I h1 h2 h3 h4 h5
  obtain⟨fI,xk⟩:=Er.xk _ hc
  exact kia_one (au1 xk (Eg.xg _ hc)) I.kIn J (Eg.kit c hc k hk) (λz=>nomatch z) λtk=>⟨.bl _,H,I.tok tk,rfl,q⟩
 refine D9 (L2.T9 call hg hm PyProof.Rows.boot_isinstance (L2.r6 he (L2.r6 (L2.p9 (v:=.ref (cm k)) hgt hmt rfl hdb) L2.ao3 hs2) hs) (he:=hs) (hpl:=hpl)) λσ H Q ⟨ρ,A,σp,v,A',rl,rs,ev,kk⟩=>?_
 obtain⟨x,A1,e1,ev1⟩:=A5 ev
 refine⟨ρ,A,σp,x,A1,rl,rs,e1,λρ1 H1 v1 x1 rl1 rv1=>?_⟩
 cases x with
 | ref n=>
   obtain⟨p,A2,e2,ev2⟩:=A5 ev1
   cases ev2
   obtain⟨rfl,hc,a,o,d,v',vs,rfl,h1,h2,h3,h4,h5,h6⟩:=aa8 rl1 rv1 e2
   exact⟨a,o,d,v',p.1,vs,rfl,hc,h1,h2,h3,h4,h5,kk ρ1 H1 _ x1 rl1 (.bl _)⟩
 | _=>cases ev1
end
def PS1 (X:L2.Cx) (cm:Nat->Addr) (st:Stmt) (sd:SD):Prop:=
 ∀(pins:List (Addr×Obj)) (s:Shared) (σ:L2.St) (H:L2.Hp) (D:L2.Y7) (XQ:Addr->L2.Hp->Prop),L2.Inv X pins σ H s->S3 X.K cm XQ sd D σ H->wpAny (model X.prog X.w) X.A (exec st X.env) (L2.SP X pins D) (EPx X pins σ XQ) s
section
variable {X:L2.Cx} {cm:Nat->Addr}
theorem aB4 {e:Expr} {d:ED} {pos:Pos} (h:PEx X cm e d) (hs:swapsWith e none pos.line X.env=pure false:=by rfl):PS1 X cm (.Expr e pos) (S5 d):=by
 intro pins s σ H D XQ I ⟨ρ,A,σp,rl,rs,o⟩
 refine wpAny_Expr_any (wpAny_mono (h pins s σ H (λ_ H1=>D.nx σ H1) XQ I ⟨ρ,A,σp,rl,rs,?_⟩) (λv s1 ⟨x,H1,I1,r1,q1⟩=>⟨σ,H1,I1,q1⟩) λ_ _ z=>z) I.quiet hs
 unfold S5 bnd at o
 rcases hs:d σp A with ⟨f,A1⟩ | ⟨c,v,A1⟩ | _ <;> rw [hs] at o
 ·exact λρ1 H1 v1 x1 rl1 rv1=>o ρ1 H1 x1 rl1 σ (rs.mono x1)
 ·exact o
 ·exact o
theorem aQ7 {es:List Nat} {st:Stmt} {h₀:ExceptHandler} {hs:List ExceptHandler} {pos:Pos} {b:SD} {ph:List Hd} (hst:X.stack=X.env::X.outer/\X.env.frame=some X.env.locals) (hb:PS1 X cm st b) (hh:PH X cm es (h₀::hs) ph) :
 L2.PS X (.Try [st] (h₀::hs) [] [] pos) (EvS X.K cm (ap7 es b ph)):=by
 intro pins s σ H D I ⟨ρ,A,σp,f,A',rl,rs,ev,k⟩
 refine wpAny_Try_except (wpAny_execs_cons (wpAny_mono (hb pins s σ H D (λa H1=>∃c v ρ1 A1 v',Ext ρ H ρ1 H1/\Rel X.K cm ρ1 A1 H1/\RV ρ1 H1 v v'/\L9 .none H1 a (cm c) v'/\c∈es/\P6 ph c v σp A1=.ok f A') I ⟨ρ,A,σp,rl,rs,?_⟩) (λfl s1 q=>?_) λev s1 ⟨a,C,v0,H1,h1,I1,_,c,v,ρ1,A1,v',x1,rl1,rv1,fl,hc,hct⟩=>?_))
 ·unfold ap7 at ev
  rcases hbs:b σp A with ⟨f1,A1⟩ | ⟨c,v,A1⟩ | _ <;> rw [hbs] at ev
  ·cases ev;exact k
  ·obtain⟨hc,ev⟩:=B6 ev
   exact λρ' H' a v' x1 rl1 rv1 fl=>⟨c,v,ρ',A1,v',x1,rl1,rv1,fl,hc,ev⟩
  ·cases ev
 ·cases fl with
  | next=>exact wpAny_execs_nil (wpAny_execs_nil q)
  | ret v=>exact q
  | brk=>exact q
  | cont=>exact q
 ·subst h1
  have hfr:=I1.ok.frames
  have hl:=I1.stack
  have hf0:=I1.stkFree
  rw [hst.1] at hfr hl hf0
  refine aE1 (P:=X.prog) (w:=X.w) (H:=H1) hfr hl hst.2 hf0 I1.hok fl λh2 H2 u2 o2 f2 c2=>?_
  have I2:L2.Inv X pins σ H2 { s1 with heap:=h2 }:=I1.call (g':=s1.gens) (t':=s1.toks) (d':=s1.drawn) (ch:=[]) (by rw [hst.1];exact u2) o2 I1.bare (λb z=>absurd z (by simp))
  refine as5 (P:=X.prog) (w:=X.w) (s:={ s1 with heap:=h2 }) o2 f2 λh3 H3 u3 o3 f3 c3=>?_
  have I3:=I2.un (t':=s1.toks) (u3.mono (λ_ z=>nomatch z) λ_ z=>z) o3
  have cc:=c2.trans c3
  exact hh pins _ σ H3 D X.xe a c v' ρ1 A1 σp v f A' I3 f3 hc (rl1.calm cc) ((rs.mono x1).mono cc.ext) (rv1.mono cc.ext) hct λρ' H' x' rl'=>k ρ' H' ((x1.trans cc.ext).trans x') rl'
end
end Ws
namespace Ws
open PySem
end Ws
namespace Ws
open PySem
open PySem.SeqAt
section
variable {X:L2.Cx} {pins:List (Addr×Obj)} {σ:L2.St} {H:L2.Hp} {s:Shared} {ρ:List Addr} {A:Around} {cm:Nat->Addr}
theorem aQ8 {x y:PV} {vx vy:L2.V} {u v:Value} (rx:RV ρ H x vx) (ry:RV ρ H y vy) (hx:M6 x=true) (hy:M6 y=true) (ux:L2.RelV vx u) (uy:L2.RelV vy v):EqAt A s u v (eqB x y):=by
 have key:=L2.ao7 (A:=A) (s:=s) ux uy (by cases rx <;> simp_all [M6,L2.n0]) (by cases ry <;> simp_all [M6,L2.n0])
 have e:L2.eqV vx vy=eqB x y:=by cases rx <;> cases ry <;> simp_all [M6,L2.eqV,eqB]
 rw [←e];exact key
theorem ah4 {l m:List PV} {vs ws:List L2.V} {its its2:List Value} (ri:L2.Vals vs its) (ri2:L2.Vals ws its2) (r1:RVs ρ H l vs) (r2:RVs ρ H m ws) (hl:l.all M6=true) (hm:m.all M6=true) :
 ∀j (h1:j<its.toArray.size) (h2:j<its2.toArray.size),EqAt A s its.toArray[j] its2.toArray[j] (eqB (l.getD j .non) (m.getD j .non)):=λj h1 h2=>by
 simp only [List.size_toArray] at h1 h2
 have l1:j<vs.length:=by rw [ri.length];exact h1
 have l2:j<ws.length:=by rw [ri2.length];exact h2
 obtain⟨x,ex,rx⟩:=r1.get' (i:=j) (v:=vs[j]) (by simp [l1])
 obtain⟨y,ey,ry⟩:=r2.get' (i:=j) (v:=ws[j]) (by simp [l2])
 obtain⟨u,eu,ru⟩:=ri.get (i:=j) (x:=vs[j]) (by simp [l1])
 obtain⟨v,ev,rv⟩:=ri2.get (i:=j) (x:=ws[j]) (by simp [l2])
 have d1:l.getD j .non=x:=by rw [List.getD_eq_getElem?_getD,ex];rfl
 have d2:m.getD j .non=y:=by rw [List.getD_eq_getElem?_getD,ey];rfl
 have q1:its.toArray[j]=u:=by
  rw [List.getElem?_eq_getElem h1] at eu
  simpa using Option.some.inj eu
 have q2:its2.toArray[j]=v:=by
  rw [List.getElem?_eq_getElem h2] at ev
  simpa using Option.some.inj ev
 rw [d1,d2,q1,q2]
 exact aQ8 rx ry (List.all_eq_true.mp hl x (List.mem_of_getElem? ex)) (List.all_eq_true.mp hm y (List.mem_of_getElem? ey)) ru rv
def aL3 (g:Bool->Bool):L2.R2:=λvx vy H Q=>∃(ρ:List Addr) (a b:Addr) (l m:List PV) (vs ws:List L2.V),vx=.ref a/\vy=.ref b/\H a=some (.tup vs)/\H b=some (.tup ws)/\RVs ρ H l vs/\RVs ρ H m ws/\l.all M6=true/\m.all M6=true/\Q (.bl (g (ad1 l m))) H
theorem au2 (hr:X.A.units+64<cLine) {vx vy:L2.V} {u v:Value} {Q:L2.VK} {g:Bool->Bool} (I:L2.Inv X pins σ H s) (ux:L2.RelV vx u) (uy:L2.RelV vy v) (h:aL3 g vx vy H Q):∃b,RcAt X.A s u v b/\RcNeAt X.A s u v (!b)/\Q (.bl (g b)) H:=by
 obtain⟨ρ,a,b,l,m,vs,ws,rfl,rfl,ha,hb,r1,r2,hl,hm,q⟩:=h
 cases ux;cases uy
 obtain⟨_,its,ri,pi⟩:=I.hok _ _ ha
 obtain⟨_,its2,ri2,pi2⟩:=I.hok _ _ hb
 have z1:its.toArray.size=l.length:=by rw [List.size_toArray,←ri.length,r1.length]
 have z2:its2.toArray.size=m.length:=by rw [List.size_toArray,←ri2.length,r2.length]
 refine⟨ad1 l m,?_,?_,q⟩
 ·have h:=RcAt.tuples (A:=X.A) (s:=s) (l:=a) (b:=b) (items:=its.toArray) (items2:=its2.toArray) (e:=λj=>eqB (l.getD j .non) (m.getD j .non)) pi pi2 (by omega) (ah4 ri ri2 r1 r2 hl hm)
  rw [z1,z2] at h
  exact h
 ·have h:=RcNeAt.tuples (A:=X.A) (s:=s) (l:=a) (b:=b) (items:=its.toArray) (items2:=its2.toArray) (e:=λj=>eqB (l.getD j .non) (m.getD j .non)) pi pi2 (by omega) (ah4 ri ri2 r1 r2 hl hm)
  rw [z1,z2] at h
  exact h
theorem aL4 (hr:X.A.units+64<cLine):L2.OpR X (compareOp .NotEq) (aL3 not):=by
 intro pins s σ H x y v u Q I rx ry q
 obtain⟨b,_,h2,h3⟩:=au2 hr I rx ry q
 exact h2 _ _ _ _ ⟨.bl (!b),H,I,rfl,h3⟩
theorem aL5:K3 X.K cm aI7 (aL3 not):=λρ B H x y z B' vx vy Q rl rx ry ev k=>by
 cases x with
 | tup l=>
   cases y with
   | tup m=>
     obtain⟨c,ev⟩:=B6 ev
     cases ev
     cases rx with
     | tup ha r1=>
       cases ry with
       | tup hb r2=>exact⟨ρ,_,_,l,m,_,_,rfl,rfl,ha,hb,r1,r2,c.1,c.2,k ρ H _ (Ext.refl _ _) rl (.bl _)⟩
   | _=>cases ev
 | _=>cases y <;> cases ev
end
end Ws
namespace Ws
end Ws
namespace Ws
open PySem PySem.Spec PySem.Calls PyProof.Rows
end Ws
namespace Ws
open PySem
end Ws
namespace Ws
open PySem PySem.W PyProof.Rows
end Ws
namespace Ws
open PySem PySem.W PyProof.Rows PySem.Spec
end Ws
namespace Ws
open PySem PySem.W PyProof.Rows PySem.Spec PySem.Calls
end Ws
namespace Ws
open PySem PySem.W PyProof.Rows
end Ws
namespace Ws
open PySem PySem.W PyProof.Rows PySem.SeqAt
open MeetsSeq MeetsSeq2 MeetsSeq3 SeqRoads2
end Ws
namespace Ws
open PySem PySem.W PyProof.Rows
end Ws
namespace Ws
open PySem PySem.W PyProof.Rows PySem.SeqAt
end Ws
namespace Ws
open PySem PySem.W PyProof.Rows
end Ws
namespace Ws
open PySem PySem.W PyProof.Rows PySem.SeqAt
end Ws
namespace Ws
open PySem PySem.W PyProof.Rows
section
variable {X:L2.Cx} {cm:Nat->Addr}
theorem r_str {x:Str} {j pos}:L2.PE X (.Constant (.str x) j pos) (EvE X.K cm (eK (.str x))):=r_k L2.aF2 λ_ _=>.str x
theorem al0:L2.S4 X (.type "int") (λxs H Q=>∃b,xs=[.bl b]/\Q (.int (if b then 1 else 0)) H):=by
 intro pins s σ H xs us Q I r h
 obtain⟨b,rfl,q⟩:=h
 obtain⟨u,rfl,rx⟩:=L2.Q5 r
 cases rx
 exact call_int_bool ⟨.int (if b then 1 else 0),H,I.tok _,⟨_,rfl⟩,q⟩
theorem r_intB {e:Expr} {d:ED} {p pos:Pos} (he:L2.PE X e (EvE X.K cm d)) (hg:L2.Gl X "int") (hm:X.mg "int" = none) (hs:starEach [e] X.env=(false,eval e X.env)::starEach [] X.env:=by exact D2 rfl):L2.PE X (.Call (.Name "int" p) [e] [] pos) (EvE X.K cm (ap8 d)):=
 D9 (L2.R5 al0 hg hm PyProof.Rows.boot_int (r_cons he r_nil hs) (he:=hs)) λσ H Q h=>T5 (f:=λx=>match x with | .bl b=>ret (.int (if b then 1 else 0)) | _=>stuck) (λ_=>rfl) (λρ A H x z A' v Q rl rx ev k=>by
  cases x with
  | bl b=>cases ev;cases rx;exact⟨b,rfl,k ρ H _ (Ext.refl _ _) rl (.int _)⟩
  | _=>cases ev) h
end
end Ws
namespace Ws
open PySem PySem.W PyProof.Rows PySem.Builtin PySem.Builtin.Str
section
variable {X:L2.Cx} {cm:Nat->Addr}
theorem K9 {n:Nat} (h:n<=LIM):n<=sizeLine:=by unfold LIM at h;rw [sizeLine_eq];omega
theorem U7 {x z:Str} {pos:Pos} (hg:L2.Gl X x) (hm:∃t,X.mg x=some (.str z t)) (hd:(x == ("__debug__" : Str))=false:=by decide):L2.PE X (.Name x pos) (EvE X.K cm (eK (.str z))):=by
 obtain⟨t,hm⟩:=hm
 exact r_k (L2.p9 hg hm (show L2.RelV (.str z) (.str z t) from ⟨t,rfl⟩) hd) λ_ _=>.str z
theorem ok_addS:K3 X.K cm z8 (λx y H Q=>∃i j,x=.str i/\y=.str j/\i.length+j.length<=sizeLine/\Q (.str (i++j)) H):=λρ B H x y z B' vx vy Q rl rx ry ev k=>by
 cases x with
 | str i=>
   cases y with
   | str j=>
     obtain⟨c,ev⟩:=B6 ev
     cases ev;cases rx;cases ry
     exact⟨i,j,rfl,rfl,K9 c,k ρ H _ (Ext.refl _ _) rl (.str _)⟩
   | _=>cases ev
 | _=>cases ev
theorem aL6:K3 X.K cm aI8 (λx y H Q=>∃i j,x=.str i/\y=.str j/\Q (.bl (!(Builtin.Str.occurrences j i 0 j.length 1).isEmpty)) H):=λρ B H x y z B' vx vy Q rl rx ry ev k=>by
 cases x with
 | str i=>
   cases y with
   | str j=>cases ev;cases rx;cases ry;exact⟨i,j,rfl,rfl,k ρ H _ (Ext.refl _ _) rl (.bl _)⟩
   | _=>cases ev
 | _=>cases ev
theorem aL7:K3 X.K cm ak0 L2.rIxS:=λρ B H x y z B' vx vy Q rl rx ry ev k=>by
 cases x with
 | str i=>
   cases y with
   | int j=>
     cases rx;cases ry
     cases hc:atI i.cps.toList j with
     | none=>rw [show ak0 (.str i) (.int j)=stuck by show (match atI i.cps.toList j with | some c=>C3 (i.length<=LIM) (ret (PV.str ⟨#[c]⟩)) | none=>stuck)=_;rw [hc]] at ev;cases ev
     | some c=>
       rw [show ak0 (.str i) (.int j)=C3 (i.length<=LIM) (ret (.str ⟨#[c]⟩)) by show (match atI i.cps.toList j with | some c=>C3 (i.length<=LIM) (ret (PV.str ⟨#[c]⟩)) | none=>stuck)=_;rw [hc]] at ev
       obtain⟨c1,ev⟩:=B6 ev
       cases ev
       exact⟨i,j,c,rfl,rfl,K9 c1,hc,k ρ H _ (Ext.refl _ _) rl (.str _)⟩
   | _=>cases ev
 | _=>cases ev
theorem aQ9 {a b:Expr} {da db:ED} {pos:Pos} (ha:L2.PE X a (EvE X.K cm da)) (hb:L2.PE X b (EvE X.K cm db)) (hs:L2.r9 b):L2.PE X (.Subscript a b pos) (EvE X.K cm (A9 ak0 da db)):=
 D9 (L2.aC9 L2.aH8 ha hb hs) λσ H Q h=>V9 aL7 h
theorem aL8 {e:Expr} {d:ED} {p pos:Pos} (he:L2.PE X e (EvE X.K cm d)) (hg:L2.Gl X "len") (hm:X.mg "len" = none) (hs:starEach [e] X.env=(false,eval e X.env)::starEach [] X.env:=by exact D2 rfl):L2.PE X (.Call (.Name "len" p) [e] [] pos) (EvE X.K cm (ap9 d)):=
 D9 (L2.T9 L2.t0 hg hm PySem.boot_len (r_cons he r_nil hs) (he:=hs)) λσ H Q h=>T5 (f:=λx=>match x with | .str z=>C3 (z.length<=LIM) (ret (.int z.length)) | _=>stuck) (λ_=>rfl) (λρ A H x z A' v Q rl rx ev k=>by
  cases x with
  | str i=>
    obtain⟨c,ev⟩:=B6 ev
    cases ev;cases rx
    exact⟨i,rfl,K9 c,k ρ H _ (Ext.refl _ _) rl (.int _)⟩
  | _=>cases ev) h
theorem al1 {n:Nat} (h:n<10000000000):n.log2<1920:=by
 by_cases h0:n=0
 ·subst h0;decide
 ·exact Nat.lt_trans ((Nat.log2_lt h0).mpr (Nat.lt_trans h (by decide:10000000000<2 ^ 40))) (by decide)
theorem g8 {e:Expr} {d:ED} {p pos:Pos} (he:L2.PE X e (EvE X.K cm d)) (hg:L2.Gl X "str") (hm:X.mg "str" = none) (hs:starEach [e] X.env=(false,eval e X.env)::starEach [] X.env:=by exact D2 rfl):L2.PE X (.Call (.Name "str" p) [e] [] pos) (EvE X.K cm (ad2 d)):=
 D9 (L2.R5 L2.q9 hg hm PyProof.Rows.boot_str (r_cons he r_nil hs) (he:=hs)) λσ H Q h=>T5 (f:=λx=>match x with | .int i=>C3 (i.natAbs<10000000000) (ret (.str (PySem.Str.ofString (toString i)))) | _=>stuck) (λ_=>rfl) (λρ A H x z A' v Q rl rx ev k=>by
  cases x with
  | int i=>
    obtain⟨c,ev⟩:=B6 ev
    cases ev;cases rx
    exact⟨i,rfl,al1 c,k ρ H _ (Ext.refl _ _) rl (.str _)⟩
  | _=>cases ev) h
theorem al2:L2.S4 X (.type "int") (λxs H Q=>∃z n,xs=[.str z]/\PySem.intText? z=some n/\z.length<=640/\Q (.int n) H):=by
 intro pins s σ H xs us Q I r h
 obtain⟨z,n,rfl,hn,hl,q⟩:=h
 obtain⟨u,rfl,rx⟩:=L2.Q5 r
 obtain⟨t,rfl⟩:=rx
 exact KIN.call_text hn hl ⟨.int n,H,I.tok _,⟨_,rfl⟩,q⟩
theorem au3 {e:Expr} {d:ED} {p pos:Pos} (he:L2.PE X e (EvE X.K cm d)) (hg:L2.Gl X "int") (hm:X.mg "int" = none) (hs:starEach [e] X.env=(false,eval e X.env)::starEach [] X.env:=by exact D2 rfl):L2.PE X (.Call (.Name "int" p) [e] [] pos) (EvE X.K cm (af8 d)):=
 D9 (L2.R5 al2 hg hm PyProof.Rows.boot_int (r_cons he r_nil hs) (he:=hs)) λσ H Q h=>T5 (f:=λx=>match x with | .str z=>(match PySem.intText? z with | some n=>C3 (z.length<=640) (ret (.int n)) | none=>stuck) | _=>stuck) (λ_=>rfl) (λρ A H x z A' v Q rl rx ev k=>by
  cases x with
  | str i=>
    cases hn:PySem.intText? i with
    | none=>dsimp only at ev;rw [hn] at ev;cases ev
    | some n=>
      dsimp only at ev;rw [hn] at ev
      obtain⟨c,ev⟩:=B6 ev
      cases ev;cases rx
      exact⟨i,n,rfl,hn,c,k ρ H _ (Ext.refl _ _) rl (.int _)⟩
  | _=>cases ev) h
theorem g9:∀{l:List PV} {ys:List Str},P7 l=some ys->l=ys.map .str
 | [],ys,h=>by simp [P7] at h;subst h;rfl
 | x::l,ys,h=>by
   cases x with
   | str z=>
     unfold P7 at h
     cases e:P7 l with
     | none=>rw [e] at h;cases h
     | some zs=>rw [e] at h;cases h;rw [g9 e];rfl
   | _=>cases h
theorem aa9 {ρ:List Addr} {H:L2.Hp}:∀{ys:List Str} {xs:List L2.V},RVs ρ H (ys.map .str) xs->xs=ys.map L2.V.str
 | [],_,.nil=>rfl
 | y::ys,_,.cons h r=>by cases h;rw [aa9 r];rfl
theorem ab0:∀{ys:List Str} {us:List Value},L2.Vals (ys.map L2.V.str) us->StrsAre us ys
 | [],_,h=>by cases h;exact .nil
 | y::ys,_,h=>by
   cases h with
   | cons h r=>
     obtain⟨t,rfl⟩:=h
     exact .cons y t (ab0 r)
theorem aB5:L2.MtR X "str.join" (λx xs H Q=>∃z a ys,x=.str z/\xs=[.ref a]/\L2.SqL X.K H a (ys.map L2.V.str)/\z.length<=16/\(ys.map (·.length)).sum+ys.length<=1048576/\Q (.str (Txt.join z ys)) H):=by
 intro pins s σ H x xs v us Q I rx rv h
 obtain⟨z,a,ys,rfl,rfl,hq,h1,h2,q⟩:=h
 obtain⟨t,rfl⟩:=rx
 obtain⟨u,rfl,ru⟩:=L2.Q5 rv
 cases ru
 obtain⟨its,ri,pl,hz⟩:=I.list hq
 exact join_listW pl.isList (by simpa using ab0 ri) h1 h2 λt' k=>⟨.str _,H,I.tok k,⟨t',rfl⟩,q⟩
theorem R3 {o e:Expr} {d d':ED} {apos cpos:Pos} (ho:L2.PE X o (EvE X.K cm d)) (he:L2.PE X e (EvE X.K cm d'))
 (hb:attributeBase o "join" X.env (eval o X.env)=eval o X.env:=by rfl) (hs:starEach [e] X.env=(false,eval e X.env)::starEach [] X.env:=by exact D2 rfl)
 (hfew:((backTo cpos (starEach [e] X.env)).all (λx=>!x.1)&&(backToKw cpos (keywordEach [] X.env)).all (λx=>x.1.isSome)&&decide ([e].length+([]:List Keyword).length+(if ([]:List Keyword).isEmpty then 0 else 1)<30))=true:=by rfl)
 (hline:(apos.endLine == cpos.line)=true:=by rfl):L2.PE X (.Call (.Attribute o "join" apos) [e] [] cpos) (EvE X.K cm (S7 d d')):=
 D9 (L2.ao8 PySem.F.plainAttrs_str PySem.F.slot_str_join PySem.F.type_str_join aB5 ho (r_cons he r_nil hs) (hbase:=hb) (hfew:=hfew) (hline:=hline) (hs:=hs)) λσ H Q ⟨ρ,A,σp,v,A',rl,rs,ev,k⟩=>by
  obtain⟨x,A1,e1,ev1⟩:=A5 ev
  refine⟨ρ,A,σp,x,A1,rl,rs,e1,λρ1 H1 v1 x1 rl1 rv1=>?_⟩
  cases x with
  | str z=>
    obtain⟨y,A2,e2,ev2⟩:=A5 ev1
    cases rv1
    refine⟨rfl,ρ1,_,σp,[y],A2,rl1,rs.mono x1,by show bnd (d' σp) _ A1=_;rw [bnd_ok e2];rfl,λρ2 H2 vs2 x2 rl2 rv2=>?_⟩
    cases rv2 with
    | cons hv hr=>
      cases hr
      cases y with
      | ref n=>
        obtain⟨l,A3,e3,ev3⟩:=A5 ev2
        obtain⟨rfl,a,xs,rfl,hq,hvs⟩:=E6 rl2 hv e3
        cases hy:P7 l with
        | none=>rw [hy] at ev3;cases ev3
        | some ys=>
          rw [hy] at ev3
          obtain⟨c,ev4⟩:=B6 ev3
          cases ev4
          rw [g9 hy] at hvs
          exact⟨z,a,ys,rfl,rfl,by rw [←aa9 hvs];exact hq,c.1,c.2,k ρ2 H2 _ (x1.trans x2) rl2 (.str _)⟩
      | _=>cases ev2
  | _=>cases ev1
theorem S8:∀(l:List Str) (t:Nat),L2.Vals (l.map L2.V.str) (strsFrom t l)
 | [],_=>.nil
 | x::l,t=>.cons ⟨_,rfl⟩ (S8 l _)
theorem ah5 {ρ:List Addr} {H:L2.Hp}:∀ys:List Str,RVs ρ H (ys.map .str) (ys.map L2.V.str)
 | []=>.nil
 | y::ys=>.cons (.str y) (ah5 ys)
def rSplit:L2.V->List L2.V->L2.Hp->L2.VK->Prop:=λx xs H Q=>∃z u,x=.str z/\xs=[.str u]/\(u.length == 0)=false/\z.length<=LIM/\(Txt.split z u).length<=LIM/\(partsBetween z (occurrences z u 0 z.length (z.length+1)) u.length).length<=LIM/\∀l,H l=none->Q (.ref l) (L2.upd H l (.lst ((Txt.split z u).map L2.V.str)))
theorem au4:L2.MtR X "str.split" rSplit:=by
 intro pins s σ H x xs v us Q I rx rv h
 obtain⟨z,u,rfl,rfl,hu,h1,h2,h3,q⟩:=h
 obtain⟨t,rfl⟩:=rx
 obtain⟨w,rfl,ru⟩:=L2.Q5 rv
 obtain⟨t',rfl⟩:=ru
 have fin:∀(its:List Value) (tk:Nat),L2.Vals ((Txt.split z u).map L2.V.str) its->L2.EP X pins σ Q (.ref s.heap.objs.size) { s with heap:=s.heap.push { cls:=.type "list",data:=.seq its.toArray },toks:=tk }:=λits tk hv=>
  ⟨.ref s.heap.objs.size,_,I.laid (t':=tk) (a:=s.heap.objs.size) (o:=.lst ((Txt.split z u).map L2.V.str)) (λb o e=>Heap.get?_push_of_some _ e) (Nat.le_refl _) ⟨by rw [List.length_map];exact K9 h2,its,_,hv,Heap.get?_push_size _ rfl⟩,rfl,q _ (I.hok.fresh (Nat.le_refl _))⟩
 by_cases c1:(decide (z.length<u.length)||decide (strKind z<strKind u))=true
 ·have e:Txt.split z u=[z]:=if_pos c1
  exact call_meets F.slot_str_split (typeIs_str _ _ _) F.entry_str_split (F.args_str_split_2 _ _) (meets_str_split_cannot_occur z u t t' c1) (fin [.str z t] _ (by rw [e];exact .cons ⟨t,rfl⟩ .nil))
 ·have c1':=Bool.eq_false_iff.mpr c1
  by_cases c2:(occurrences z u 0 z.length (z.length+1)).isEmpty=true
  ·have e:Txt.split z u=[z]:=(if_neg c1).trans (if_pos c2)
   exact call_meets F.slot_str_split (typeIs_str _ _ _) F.entry_str_split (F.args_str_split_2 _ _) (meets_str_split_not_found z u t t' c1' hu c2) (fin [.str z t] _ (by rw [e];exact .cons ⟨t,rfl⟩ .nil))
  ·have e:Txt.split z u=partsBetween z (occurrences z u 0 z.length (z.length+1)) u.length:=(if_neg c1).trans (if_neg c2)
   exact call_meets F.slot_str_split (typeIs_str _ _ _) F.entry_str_split (F.args_str_split_2 _ _) (meets_str_split_sep z u t t' c1' hu (Bool.eq_false_iff.mpr c2) (K9 h1) (K9 h3)) (fin _ _ (by rw [e];exact S8 _ _))
theorem U8 {o e:Expr} {d d':ED} {apos cpos:Pos} (ho:L2.PE X o (EvE X.K cm d)) (he:L2.PE X e (EvE X.K cm d'))
 (hb:attributeBase o "split" X.env (eval o X.env)=eval o X.env:=by rfl) (hs:starEach [e] X.env=(false,eval e X.env)::starEach [] X.env:=by exact D2 rfl)
 (hfew:((backTo cpos (starEach [e] X.env)).all (λx=>!x.1)&&(backToKw cpos (keywordEach [] X.env)).all (λx=>x.1.isSome)&&decide ([e].length+([]:List Keyword).length+(if ([]:List Keyword).isEmpty then 0 else 1)<30))=true:=by rfl)
 (hline:(apos.endLine == cpos.line)=true:=by rfl):L2.PE X (.Call (.Attribute o "split" apos) [e] [] cpos) (EvE X.K cm (T4 d d')):=
 D9 (L2.ao8 PySem.F.plainAttrs_str PySem.F.slot_str_split PySem.F.type_str_split au4 ho (r_cons he r_nil hs) (hbase:=hb) (hfew:=hfew) (hline:=hline) (hs:=hs)) λσ H Q ⟨ρ,A,σp,v,A',rl,rs,ev,k⟩=>by
  obtain⟨x,A1,e1,ev1⟩:=A5 ev
  refine⟨ρ,A,σp,x,A1,rl,rs,e1,λρ1 H1 v1 x1 rl1 rv1=>?_⟩
  cases x with
  | str z=>
    obtain⟨y,A2,e2,ev2⟩:=A5 ev1
    cases rv1
    refine⟨rfl,ρ1,_,σp,[y],A2,rl1,rs.mono x1,by show bnd (d' σp) _ A1=_;rw [bnd_ok e2];rfl,λρ2 H2 vs2 x2 rl2 rv2=>?_⟩
    cases rv2 with
    | cons hv hr=>
      cases hr
      cases y with
      | str u=>
        obtain⟨c,ev3⟩:=B6 ev2
        cases ev3;cases hv
        refine⟨z,u,rfl,rfl,c.1,c.2.1,c.2.2.1,c.2.2.2,λD hD=>?_⟩
        have ex:Ext ρ2 H2 (ρ2++[D]) (L2.upd H2 D (.lst ((Txt.split z u).map L2.V.str))):=Ext.new hD
        exact k (ρ2++[D]) _ _ ((x1.trans x2).trans ex) (rl2.alloc hD ⟨_,L2.B9,ah5 _⟩ rfl) (.ref (by rw [←rl2.len];simp))
      | _=>cases ev2
  | _=>cases ev1
end
end Ws
namespace Ws
open PySem PySem.W PyProof.Rows
def sgs (x:Str):List L2.V:=x.cps.toList.map λc=>.str ⟨#[c]⟩
theorem au5 {P:Program} {w:World} {K:PySem.W.Frag} {tg:Expr} (it:Addr) (x:Str) (t:Tok) :
 L2.ac1 P w K tg (Itf (sgs x)) [it] it (λi h=>h.IsStrIter it "str_ascii_iterator" x t i) where
 mem:=by simp
 obj:=λi h st b hb=>by
  obtain⟨o,e,c,d⟩:=st
  have e2:b=it:=by simpa using hb
  subst e2
  exact⟨o,e,λv z=>by rw [d] at z;cases z⟩
 keep:=λi h h' st k=>by
  obtain⟨o,e,r⟩:=st
  exact⟨o,k it (by simp) o e,r⟩
 item:=by
  intro X hP hw hK hc i pins s σ H E I hf st hg
  subst hP hw hK
  have hi:i<x.cps.size:=by
   have:i<(sgs x).length:=hg
   simpa [sgs] using this
  refine wpAny_pyNext_ascii_item st (c:=x.cps[i]) (by simp [hi]) λh' hit' sb=>?_
  have kp:∀b o,b≠it->s.heap.get? b=some o->h'.get? b=some o:=λb o hb q=>(sb.2 b hb).trans q
  have I1:L2.Inv X pins σ H { s with heap:=h',toks:=s.toks+1 }:=W3 (t':=s.toks+1) I hf λb o hb q=>kp b o (λz=>hb (by simp [z])) q
  obtain⟨o,e5,c,d⟩:=id hit'
  exact⟨_,rfl,L2.af3 (s:={ s with heap:=h',toks:=s.toks+1 }) e5 c d (by decide) ⟨.str ⟨#[x.cps[i]]⟩,H,I1,⟨_,rfl⟩,⟨rfl,by simp [sgs,hi]⟩,hit',λb hb=>(hf b hb).1⟩⟩
 done:=by
  intro X hP hw hK hc i pins s σ H E I hf st hg
  subst hP hw hK
  have hi:x.cps.size<=i:=by
   have:(sgs x).length<=i:=hg
   simpa [sgs] using this
  exact wpAny_pyNext_ascii_end (I.ok.hd hc) st (by simp [hi]) λh' eb=>⟨rfl,W3 (t':=s.toks) I hf λb u hb q=>eb b u (λz=>hb (by simp [z])) q⟩
 self:=λ_ _ _ _ _ st h=>wpAny_pyIter_striter_ascii st h
section
variable {X:L2.Cx} {cm:Nat->Addr}
theorem ah6 {ρ:List Addr} {H:L2.Hp}:∀l:List Nat,RVs ρ H (l.map λc=>PV.str ⟨#[c]⟩) (l.map λc=>L2.V.str ⟨#[c]⟩)
 | []=>.nil
 | c::l=>.cons (.str _) (ah6 l)
theorem aR0 {tg a:Expr} {d:ED} (ha:L2.PE X a (EvE X.K cm d)):L2.PI X tg a (EvI X.K cm (aI9 d)):=by
 intro pins s σ H R I h
 obtain⟨ρ,A,σp,J,A',rl,rs,ev,k⟩:=h
 obtain⟨x,A1,e1,ev1⟩:=A5 ev
 refine L2.thn (ha pins s σ H (λv H1=>∃z:Str,v=.str z/\z.cps.all (·< 128)=true/\R (Itf (sgs z)) H1) I ⟨ρ,A,σp,x,A1,rl,rs,e1,λρ1 H1 v1 x1 rl1 rv1=>?_⟩) λu s1 ⟨v,H1,I1,r1,z,ej,hz,q⟩=>?_
 ·cases x with
  | str z=>
    obtain⟨c,ev2⟩:=B6 ev1
    cases ev2
    cases rv1
    exact⟨z,rfl,c,k ρ1 H1 _ x1 rl1 ⟨_,ah6 _,rfl⟩⟩
  | _=>cases ev1
 ·subst ej
  obtain⟨t,rfl⟩:=(show ∃t,u=Value.str z t from r1)
  refine wpAny_pyIter_ascii hz ?_
  refine⟨_,[_],_,_,H1,rfl,I1.kept (t':=s1.toks) λb o e=>Heap.get?_push_of_some _ e,au5 _ z t,⟨_,Heap.get?_push_size _ rfl,rfl,rfl⟩,λb hb=>?_,q⟩
  have e:b=s1.heap.objs.size:=by simpa using hb
  subst e
  exact I1.fpOk (Nat.le_refl _) (I1.hok.fresh (Nat.le_refl _))
end
theorem i2 (a b:Value):checkTypeCall "enumerate" ⟨[a],[("start",b)]⟩=pure ():=by kernel_rfl
theorem m3 (a b:Value):checkBuiltinCall "enumerate.__new__" ⟨[.type "enumerate",a],[("start",b)]⟩=pure ():=by kernel_rfl
theorem X7 (a b c:Value):argsOk "object.__init__" ⟨[a,b],[("start",c)]⟩:=by kernel_rfl
set_option maxHeartbeats 1000000 in
theorem ab1 (l:Addr) (items:Array Value) (n:Nat) (dct:Option Addr) (sl:Array (Option Value)) (k:Int) (t:Tok) (hk:Builtin.SmallTypes.fitsIndex k=true) :
 Meets (Builtin.«enumerate.__new__» ⟨[.type "enumerate",.ref l],[("start",.int k t)]⟩) (λ_ R s=>s.heap.get? l=some { cls:=.type "list",dict:=dct,data:=.seq items n,slots:=sl }/\
  R (.ok (.ret (.ref (s.heap.push { cls:=.type "list_iterator",data:=.fields #[.ref l,.int 0 0] }).objs.size)))
    { s with heap:=(s.heap.push { cls:=.type "list_iterator",data:=.fields #[.ref l,.int 0 0] }).push { cls:=.type "enumerate",data:=.fields #[.none,.bool false,.ref s.heap.objs.size,rawInt k,.none,.none] } }):=
 .of_wp λprog w A R s h=>by
  obtain⟨hp,g,d,tk,os⟩:=s;obtain⟨hl,h⟩:=h
  have hsub:=sub_enumerate
  have hL:Heap.IsList (Shared.heap ⟨hp,g,d,tk,os⟩) l items:=⟨_,hl,rfl,n,rfl⟩
  wp_walk using AutoSeq1.wpAny_loadPart' hl
  refine wpAny_stack_any λst=>wpAny_pure ?_
  split
  ·rename_i c _ _ _ _ _
   cases (c == Value.type "enumerate")
   ·wp_walk using AutoSeq1.wpAny_loadPart' hl,wpAny_pyIter_list hL
    exact⟨_,rfl,h⟩
   ·wp_walk using AutoSeq1.wpAny_loadPart' hl,wpAny_pyIter_list hL
    exact⟨_,rfl,h⟩
  ·wp_walk using AutoSeq1.wpAny_loadPart' hl,wpAny_pyIter_list hL
   exact⟨_,rfl,h⟩
theorem ae2 {self:Value} {rest:List Value} {kw:List (Str×Value)}:Meets (Builtin.«object.__init__» ⟨self::rest,kw⟩) (λ_ R s=>s.TypeIs self "enumerate"/\R (.ok (.ret .none)) s):=by
 refine Meets.of_wp λprog w A R s hs=>?_
 obtain⟨hT,hq⟩:=hs
 have hl:=F.called_enumerate.init.lookup
 have hm:=F.called_enumerate.made
 have hne:(some "enumerate.__new__" != some "object.__new__")=true:=by decide
 cases rest with
 | nil=>
   cases kw with
   | nil=>exact wpAny_pure ⟨_,rfl,hq⟩
   | cons a kw=>
     repeat (any_goals (first | assumption | wp_step))
     exact⟨_,rfl,hq⟩
 | cons a rest=>
   repeat (any_goals (first | assumption | wp_step))
   exact⟨_,rfl,hq⟩
section
variable {prog:Program} {w:World} {A:Around} {E:Value->Shared->Prop} {s:Shared}
theorem ae3 {l:Addr} {items:Array Value} {k:Int} {t:Tok} {Q:Value->Shared->Prop} (hk:Builtin.SmallTypes.fitsIndex k=true) (hL:s.heap.IsList l items)
 (h:∀h',IsEnum h' (s.heap.objs.size+1) s.heap.objs.size k .none->h'.IsListIter s.heap.objs.size l 0->h'.objs.size=s.heap.objs.size+2->
  (∀b o,s.heap.get? b=some o->h'.get? b=some o)->Q (.ref (s.heap.objs.size+1)) { s with heap:=h' }) :
 wpAny (model prog w) A (call (.type "enumerate") [.ref l] [("start",.int k t)]) Q E s:=by
 obtain⟨⟨c,dct,dt,sl⟩,hl,hc,n,hd⟩:=hL
 replace hc:c=.type "list":=hc
 replace hd:dt=.seq items n:=hd
 subst hc hd
 have ft:=F.called_enumerate
 obtain⟨c,tl,hmro⟩:=ft.mro
 have hmade:=ft.made
 have hsub:=ft.sub
 have hct:=i2 (.ref l) (.int k t)
 refine wpAny_call (codeAny_of_tree ?_)
 show wpAny _ _ (callAny (.type "enumerate") _) _ _ _
 refine wpAny_pure ⟨Code.quiet_builtin _ (by decide +kernel),codeAny_builtin F.entry_type_call ?_⟩
 rw [Around.under_plain (weight_type_call_type "enumerate" _ _) (units_type_call_type "enumerate" _ _)]
 have h1:=ft.notType
 have h2:=ft.canCreate
 repeat (any_goals (first | assumption | wp_step))
 have hz:(s.heap.push { cls:=.type "list_iterator",data:=.fields #[.ref l,.int 0 0] }).objs.size=s.heap.objs.size+1:=Heap.size_push ..
 have he:IsEnum ((s.heap.push { cls:=.type "list_iterator",data:=.fields #[.ref l,.int 0 0] }).push
  { cls:=.type "enumerate",data:=.fields #[.none,.bool false,.ref s.heap.objs.size,rawInt k,.none,.none] }) (s.heap.objs.size+1) s.heap.objs.size k .none:=by
  have:=Heap.get?_push_size (s.heap.push { cls:=.type "list_iterator",data:=.fields #[.ref l,.int 0 0] })
   (o:={ cls:=.type "enumerate",data:=.fields #[.none,.bool false,.ref s.heap.objs.size,rawInt k,.none,.none] }) rfl
  rw [hz] at this;exact this
 refine codeAny_mono (codeAny_call_builtin ft.plain F.entry_enumerate_new (wpAny_of_eq (m3 _ _) (ab1 l items n dct sl k t hk prog w A.in1 (wants (λv s1=>v=.ref (s.heap.objs.size+1)/\s1={ s with heap:=(s.heap.push { cls:=.type "list_iterator",data:=.fields #[.ref l,.int 0 0] }).push { cls:=.type "enumerate",data:=.fields #[.none,.bool false,.ref s.heap.objs.size,rawInt k,.none,.none] } }) E) s ⟨hl,⟨congrArg Value.ref hz,rfl⟩⟩))) λr s₁ hr=>?_
 cases r with
 | error e=>exact hr
 | ok fl=>
   cases fl with
   | ret obj=>
     obtain⟨rfl,rfl⟩:=hr
     have hT:Shared.TypeIs { s with heap:=(s.heap.push { cls:=.type "list_iterator",data:=.fields #[.ref l,.int 0 0] }).push { cls:=.type "enumerate",data:=.fields #[.none,.bool false,.ref s.heap.objs.size,rawInt k,.none,.none] } } (.ref (s.heap.objs.size+1)) "enumerate":=⟨_,he,rfl⟩
     have hli:=ft.init.lookup
     have hbi:=ft.init.bind (.ref (s.heap.objs.size+1))
     repeat (any_goals (first | assumption | wp_step))
     refine codeAny_mono (codeAny_call_builtin ft.init.plain F.entry_object_init (ft.init.check _ _ _ _ _ _ _ _ hT (X7 _ _ _) (ae2 prog w A.in1 (wants (λr s₂=>r=.none/\s₂=_) E) _ ⟨hT,rfl,rfl⟩))) λr₂ s₂ hr₂=>?_
     cases r₂ with
     | error e=>exact hr₂
     | ok fl₂=>
       cases fl₂ with
       | ret r=>
         obtain⟨rfl,rfl⟩:=hr₂
         have hq:=h _ he ⟨_,Heap.get?_push_of_some _ (Heap.get?_push_size _ rfl),rfl,rfl⟩ (by rw [Heap.size_push,hz]) λb o x=>Heap.get?_push_of_some _ (Heap.get?_push_of_some _ x)
         repeat (any_goals (first | assumption | wp_step))
       | _=>exact hr₂.elim
   | _=>exact hr.elim
end
structure O0 (K:PySem.W.Frag) (mg:Str->Option Value) (cm:Nat->Addr):Prop where
 kit:Kit K
 b_len:mg "len" = none
 b_range:mg "range" = none
 b_list:mg "list" = none
 b_sorted:mg "sorted" = none
 b_isinstance:mg "isinstance" = none
 b_int:mg "int" = none
 b_bool:mg "bool" = none
 b_tuple:mg "tuple" = none
 b_enumerate:mg "enumerate" = none
 b_reversed:mg "reversed" = none
 b_max:mg "max" = none
 b_min:mg "min" = none
 b_all:mg "all" = none
 b_any:mg "any" = none
 b_set:mg "set" = none
 b_zip:mg "zip" = none
 b_dict:mg "dict" = none
theorem ae4 {prog:Program} {w:World} {A:Around} (hh:A.handled=none) (it l:Addr) (hne:l≠it) (items:Array Value) (k:Nat) :
 Draws prog w A it [it,l] (k+items.size) (λj v=>items[j - k]?=some v) (λj h=>k<=j/\h.IsListIter it l (j - k)/\h.IsList l items) where
 live:=λ_ _ st=>let ⟨o,ho,_⟩:=st.2.1;⟨o,ho⟩
 frame:=λ_ _ _ st hk=>⟨st.1,st.2.1.at λo e=>hk it (by simp) o e,st.2.2.at λo e=>hk l (by simp) o e⟩
 item:=λj s Q E hj st hQ=>by
  have hi:j - k<items.size:=by have:=st.1;omega
  refine wpAny_nextOf_list_item st.2.1 st.2.2 (x:=items[j - k]) (by simp [hi]) λh' hit' hs'=>?_
  exact hQ _ h' s.toks (by simp [hi]) ⟨by have:=st.1;omega,by rw [show j+1 - k=j - k+1 by have:=st.1;omega];exact hit',st.2.2.extBut hs'.extBut hne⟩ hs'
 done:=λs Q E st hE=>wpAny_nextOf_list_end hh st.2.1 st.2.2 (by simp) hE
theorem al3 {prog:Program} {w:World} {A:Around} (hh:A.handled=none) (it l:Addr) (items:Array Value) (i:Nat) (hi:items.size<=i) :
 Draws prog w A it [it,l] 0 (λ_ _=>True) (λ_ h=>h.IsListIter it l i/\h.IsList l items) where
 live:=λ_ _ st=>let ⟨o,ho,_⟩:=st.1;⟨o,ho⟩
 frame:=λ_ _ _ st hk=>⟨st.1.at λo e=>hk it (by simp) o e,st.2.at λo e=>hk l (by simp) o e⟩
 item:=λj s Q E hj st hQ=>absurd hj (Nat.not_lt_zero _)
 done:=λs Q E st hE=>wpAny_nextOf_list_end hh st.1 st.2 (by rw [Array.getElem?_eq_none];exact hi) hE
theorem au6 {P:Program} {w:World} {K:PySem.W.Frag} {elts:List Expr} {x1:Nat} {pos:Pos} (k:Nat) (a e it:Addr) (hei:e≠it):L2.ac1 P w K (.Tuple elts x1 pos) (Itk K k a) [e,it] e (λi h=>(∃old,IsEnum h e it ((k+i:Nat):Int) old)/\h.IsListIter it a i) where
 mem:=by simp
 obj:=λi h st b hb=>by
  obtain⟨⟨old,he⟩,o,e1,c,d⟩:=st
  rcases List.mem_cons.mp hb with rfl | hb
  ·exact⟨_,he,λv z=>by cases z⟩
  ·have e2:b=it:=by simpa using hb
   subst e2
   exact⟨o,e1,λv z=>by rw [d] at z;cases z⟩
 keep:=λi h h' st k=>by
  obtain⟨⟨old,he⟩,hit⟩:=st
  exact⟨⟨old,k e (by simp) _ he⟩,hit.at λo x=>k it (by simp) o x⟩
 item:=by
  intro X hP hw hK hc i pins s σ H E I hf st hg
  subst hP hw hK
  obtain⟨xs,x,hq,hx⟩:=hg
  obtain⟨its,rv,p,hz⟩:=I.list hq
  obtain⟨u,hu,ru⟩:=rv.get hx
  obtain⟨⟨old,he⟩,hit⟩:=st
  have el:=Heap.lt_size he
  have hl:=p.isList
  have ne_of:∀b,(∃o:Obj,s.heap.get? b=some o/\o.cls≠.type "list")->a≠b:=λb ⟨o,ho,hc⟩ z=>by
   obtain⟨o',ho',hc',_⟩:=hl
   rw [z,ho] at ho';cases ho';exact hc hc'
  have hae:a≠e:=ne_of e ⟨_,he,by simp⟩
  have hai:a≠it:=by
   obtain⟨o,ho,hc,_⟩:=id hit
   exact ne_of it ⟨o,ho,by rw [hc];simp⟩
  have hi:i<its.length:=(List.getElem?_eq_some_iff.mp hu).1
  refine wpAny_pyNext_enum_itemD (ae4 (A:=X.A.in1) (I.ok.hd hc) it a hai its.toArray k) he ⟨Nat.le_add_right _ _,by rw [Nat.add_sub_cancel_left];exact hit,hl⟩ (by simp;omega) hei (by simp [hei,hae.symm]) λu' h' tk hu' ho hst hT hsz hk=>?_
  have e0:u'=u:=by
   rw [Nat.add_sub_cancel_left] at hu'
   have:its[i]?=some u':=by simpa using hu'
   rw [hu] at this;cases this;rfl
  subst e0
  have hit':h'.IsListIter it a (i+1):=by
   have:=hst.2.1
   rw [show k+i+1 - k=i+1 by omega] at this;exact this
  refine⟨.ref s.heap.objs.size,rfl,wpAny_letOwnedTupleGo_enum (s:={ s with heap:=h',toks:=tk+1 }) ho λh2 he2 hs2=>?_⟩
  have sb:∀b u,b≠e->h'.get? b=some u->h2.get? b=some u:=λb u hb q=>(hs2.2 b hb).trans q
  have hTe:s.heap.objs.size≠e:=Nat.ne_of_gt el
  have I2:L2.Inv X pins σ (L2.upd H s.heap.objs.size (.tup [.int ((k+i:Nat):Int),x])) { s with heap:=h2,toks:=tk+1 }:=by
   refine ae1 (s:=s) (t':=tk+1) I hf (λb u hb q=>?_) (Nat.le_refl _) ?_
   ·have h1:b≠e:=λz=>hb (by simp [z])
    have h2:b≠it:=λz=>hb (by simp [z])
    exact sb b u h1 (hk b u h1 h2 q)
   ·exact⟨by show 2<=sizeLine;decide,[.int ((k+i:Nat):Int) tk,u'],.cons ⟨_,rfl⟩ (.cons ru .nil),_,sb _ _ hTe hT,rfl,_,rfl⟩
  refine⟨.ref s.heap.objs.size,L2.upd H s.heap.objs.size (.tup [.int ((k+i:Nat):Int),x]),I2,rfl,⟨x,s.heap.objs.size,λys hy=>by rw [I.list_inj hy hq];exact hx,I.hok.fresh (Nat.le_refl _),rfl,rfl⟩,⟨⟨u',by exact_mod_cast he2⟩,hit'.at λo y=>sb it o hei.symm y⟩,λb hb=>?_⟩
  ·rw [L2.B0]
   ·exact (hf b hb).1
   ·rcases List.mem_cons.mp hb with rfl | hb
    ·exact hTe.symm
    ·have e2:b=it:=by simpa using hb
     subst e2
     obtain⟨_,y,_⟩:=hit
     exact Nat.ne_of_lt (Heap.lt_size y)
 done:=by
  intro X hP hw hK hc i pins s σ H E I hf st hg
  subst hP hw hK
  obtain⟨xs,hq,hx⟩:=hg
  obtain⟨its,rv,p,hz⟩:=I.list hq
  obtain⟨⟨old,he⟩,hit⟩:=st
  have hl:=rv.length
  exact wpAny_pyNext_enum_endD (al3 (A:=X.A.in1) (I.ok.hd hc) it a its.toArray i (by simp;omega)) he ⟨hit,p.isList⟩ λh' eb=>⟨rfl,W3 (t':=s.toks) I hf λb u hb q=>eb b u (λz=>hb (by simp [z])) q⟩
 self:=λ_ _ _ _ _ st h=>by
  obtain⟨⟨old,he⟩,_⟩:=st
  exact wpAny_pyIter_enum he h
theorem w8 {M:Model} {A:Around} {E:Value->Shared->Prop} {s:Shared} {env:Env} {pos:Pos} {T:String} {e:Expr} {rest:List Expr} {kws:List Keyword} {Q:Value->Shared->Prop}
 (h:wpAny M A (spliced (backTo pos (starEach (e::rest) env))) (λvs s₁=>wpAny M A (evalAll ((backToKw pos (keywordEach kws env)).map (·.2)))
  (λkvs s₂=>wpAny M A (call (.type T) vs (((backToKw pos (keywordEach kws env)).filterMap (·.1)).zip kvs)) Q E s₂) E s₁) E s)
 (he:backTo pos (starEach (e::rest) env)=(false,eval e env)::backTo pos (starEach rest env))
 (hplain:(backTo pos (starEach (e::rest) env)).any (·.1)=false)
 (hall:(backToKw pos (keywordEach kws env)).all (·.1.isSome)=true)
 (hkw:(backToKw pos (keywordEach kws env)).any (·.1.isNone)=false) :
 wpAny M A (callWith pos (.type T) [] (backTo pos (starEach (e::rest) env)) (backToKw pos (keywordEach kws env))) Q E s:=by
 have h2:wpAny M A (evalArgs (.type T) true (backTo pos (starEach (e::rest) env)) (backToKw pos (keywordEach kws env))) (λa s₁=>wpAny M A (call (.type T) ([]++a.pos) a.kw) Q E s₁) E s:=by
  rw [he] at h ⊢
  exact evalArgs_kwB hall h
 unfold callWith
 refine wpAny_bind (wpAny_holding (wpAny_mono h2 (λa s₁ h₁=>wpAny_bind (wpAny_standAt ?_)) λ_ _ x=>x))
 simp only [hplain,hkw,Bool.or_false]
 refine wpAny_bind (wpAny_pure ?_)
 exact wpAny_bind (wpAny_mono h₁ (λr s₂ hr=>wpAny_bind (wpAny_holding (wpAny_point (wpAny_pure hr)))) λ_ _ x=>x)
section
variable {X:L2.Cx} {cm:Nat->Addr}
theorem aE3 {l f:Expr} {d:ED} {k:Nat} (hk:Builtin.SmallTypes.fitsIndex (k:Int)=true) {elts:List Expr} {x1:Nat} {tpos p kpos pos:Pos} (hg:L2.Gl X "enumerate") (hm:X.mg "enumerate" = none) (hl:L2.PE X l (EvE X.K cm d)) (hf:L2.PE X f (EvE X.K cm (eK (.int (k:Int))))) (hs:starEach [l] X.env=(false,eval l X.env)::starEach [] X.env:=by exact D2 rfl)
 (h1:backTo pos (starEach [l] X.env)=(false,eval l X.env)::backTo pos (starEach [] X.env):=by rfl)
 (h2:(backTo pos (starEach [l] X.env)).any (·.1)=false:=by rfl) (h3:(backToKw pos (keywordEach [⟨some "start",f,kpos⟩] X.env)).all (·.1.isSome)=true:=by rfl)
 (h4:(backToKw pos (keywordEach [⟨some "start",f,kpos⟩] X.env)).any (·.1.isNone)=false:=by rfl)
 (h5:(backToKw pos (keywordEach [⟨some "start",f,kpos⟩] X.env)).filterMap (·.1)=[("start" : Str)]:=by rfl):L2.PI X (.Tuple elts x1 tpos) (.Call (.Name "enumerate" p) [l] [⟨some "start",f,kpos⟩] pos) (EvI X.K cm (ax9 k d)):=by
 intro pins s σ H R I h
 obtain⟨ρ,A,σp,J,A',rl,rs,ev,kk⟩:=h
 obtain⟨x,A1,e1,ev1⟩:=A5 ev
 refine wpAny_Call_Name_kw (L2.p8 I hg hm PyProof.Rows.boot_enumerate ?_ (by decide) (by decide))
 refine w8 (L2.thn ((r_cons hl r_nil hs) pos pins s σ H (λvs H1=>∃ρ1,Ext ρ H ρ1 H1/\Rel X.K cm ρ1 A1 H1/\RVs ρ1 H1 [x] vs) I ⟨ρ,A,σp,[x],A1,rl,rs,by show bnd (d σp) _ A=_;rw [bnd_ok e1];rfl,λρ1 H1 vs1 x1 rl1 rv1=>⟨ρ1,x1,rl1,rv1⟩⟩) λus s1 ⟨vs,H1,I1,r1,ρ1,x1,rl1,rv1⟩=>L2.thn ((L2.ax6 hf L2.aH5) pos pins s1 σ H1 (λzs H2=>∃a xs,vs=[.ref a]/\zs=[.int (k:Int)]/\L2.SqL X.K H2 a xs/\R (Itk X.K k a) H2) I1 ⟨ρ1,A1,σp,.int k,A1,rl1,rs.mono x1,rfl,λρ2 H2 v2 x2 rl2 rv2=>?_⟩) λws s2 ⟨zs,H2,I2,r2,q2⟩=>?_) h1 h2 h3 h4
 ·cases rv2
  cases x with
  | ref n=>
    obtain⟨m,A2,e2,ev2⟩:=A5 ev1
    cases rv1 with
    | cons hv hr=>
      cases hr
      obtain⟨rfl,a,xs,rfl,hq,r⟩:=E6 rl2 (hv.mono x2) e2
      cases ev2
      cases hv.mono x2 with
      | ref hn=>exact⟨a,xs,rfl,rfl,hq,kk ρ2 H2 _ (x1.trans x2) rl2 ⟨a,hn,rfl⟩⟩
  | _=>cases ev1
 ·rw [h5]
  obtain⟨a,xs,rfl,rfl,hq,q⟩:=q2
  obtain⟨u,rfl,rx⟩:=L2.Q5 r1
  obtain⟨z,rfl,rz⟩:=L2.Q5 r2
  cases rx
  obtain⟨t,rfl⟩:=(show ∃t,z=Value.int (k:Int) t from rz)
  obtain⟨its,rv,pl,hz⟩:=I2.list hq
  refine ae3 hk pl.isList λh' he hit hsz kp=>?_
  refine wpAny_pyIter_enum he ?_
  have I3:L2.Inv X pins σ H2 { s2 with heap:=h' }:=I2.kept (t':=s2.toks) kp
  refine⟨s2.heap.objs.size+1,[s2.heap.objs.size+1,s2.heap.objs.size],_,_,H2,rfl,I3,au6 k a _ _ (Nat.succ_ne_self _),⟨⟨_,he⟩,hit⟩,λb hb=>?_,q⟩
  have hb2:s2.heap.objs.size<=b:=by
   rcases List.mem_cons.mp hb with rfl | hb
   ·exact Nat.le_succ _
   ·have:b=s2.heap.objs.size:=by simpa using hb
    exact Nat.le_of_eq this.symm
  exact I2.fpOk hb2 (I2.hok.fresh hb2)
theorem ah7 {ρ:List Addr} {H:L2.Hp} {x:PV} {v:L2.V} (h:RV ρ H x v):∀{l:List PV} {vs:List L2.V} (j:Nat),RVs ρ H l vs->RVs ρ H (l.set j x) (vs.set j v)
 | _,_,_,.nil=>.nil
 | _,_,0,.cons _ r=>.cons h r
 | _,_,j+1,.cons a r=>.cons a (ah7 h j r)
theorem aU3 {o i:Expr} {d u:ED} {pos:Pos} (ho:L2.PE X o (EvE X.K cm d)) (hi:L2.PE X i (EvE X.K cm u))
 (ha:∀v,assign (.Subscript o i pos) X.env v=(do
  let ov ←holding [v] (eval o X.env)
  let iv ←holding [v,ov] (eval i X.env)
  standAt pos
  holding [v,ov,iv] (setItem ov iv v)
  release [v,ov,iv] []):=by intro _;rfl):L2.PG X (.Subscript o i pos) (EvG X.K cm (gIx d u)):=
 ad4 (L2.aG2 ho hi L2.ao6 ha) λv σ H Q ⟨ρ,A,σp,w,σp',A',rl,rs,rv,ev,k⟩=>by
  obtain⟨x,A1,e1,ev1⟩:=A5 ev
  obtain⟨y,A2,e2,ev2⟩:=A5 ev1
  refine⟨ρ,A,σp,x,A1,rl,rs,e1,λρ1 H1 v1 x1 rl1 rv1=>⟨ρ1,A1,σp,y,A2,rl1,rs.mono x1,e2,λρ2 H2 v2 x2 rl2 rv2=>?_⟩⟩
  cases x with
  | ref n=>
    cases y with
    | int j=>
      obtain⟨l,A3,e3,ev3⟩:=A5 ev2
      obtain⟨rfl,hA,a,xs,hb,hn,hH,r0⟩:=Q9 rl2 (rv1.mono x2) e3
      subst hb
      cases rv2
      cases hj:ixN l.length j with
      | none=>rw [hj] at ev3;cases ev3
      | some q=>
        rw [hj] at ev3
        cases ev3
        have hE:=Ext.put rl2 hn hA (u:=.lst (xs.set q v)) rfl
        refine⟨a,xs,j,q,rfl,rfl,hH,by rw [←r0.length];exact hj,k ρ2 _ _ ((x1.trans x2).trans hE) (rl2.put hn hA rfl rfl ⟨_,L2.B9,?_⟩) (((rs.mono x1).mono x2).mono hE)⟩
        exact ah7 (((rv.mono x1).mono x2).mono hE) q (r0.mono hE)
    | _=>cases ev2
  | _=>cases ev2
end
end Ws
namespace Ws
open PySem PySem.W PyProof.Rows PySem.SeqAt
open MeetsSeq MeetsSeq2 MeetsSeq3 SeqRoads2
end Ws
namespace Ws
open PySem PySem.W PyProof.Rows
end Ws
namespace Ws
open PySem PySem.W PyProof.Rows PySem.Calls
end Ws
namespace Ws
open PySem PySem.W PyProof.Rows
end Ws
namespace Ws
open PySem PySem.W PyProof.Rows PySem.Calls
end Ws
namespace Ws
open PySem PySem.W PyProof.Rows PySem.Spec PySem.Calls
end Ws
namespace Ws
open PySem
section
variable {P:Program} {w:World} {K:PySem.W.Frag} {mg:Str->Option Value} {base:Heap} {cm:Nat->Addr} {x qual:Str} {st:Stmt} {f:Addr} {fd:FuncData} {items:Array Value} {N ps:List Str} {k:Nat} {s:SD}
theorem au7 {n:Nat} (h:n+64<cLine):n+1<cLine:=Nat.lt_of_le_of_lt (Nat.add_le_add_left (by decide) _) h
theorem M9 (F:L2.Fun K x qual st f fd) (S:L2.D6 N ps (L2.A6 st))
 (hb:∀(cdv:Value) (A:Around) (outer:List Env) (s0:Shared) (H:L2.Hp) (E:L2.XK),L2.Room k (A.deeper (PyProof.Rows.envOfC qual (L2.A6 st) s0.heap.objs.size f cdv))->(A.deeper (PyProof.Rows.envOfC qual (L2.A6 st) s0.heap.objs.size f cdv)).units+64<cLine->(A.deeper (PyProof.Rows.envOfC qual (L2.A6 st) s0.heap.objs.size f cdv)).units+1<cLine->
  L2.PSs (L2.X5 L2.CX0 P w K mg base N qual (L2.A6 st) f cdv A outer s0 H E).nox (L2.C1 st) (EvS K cm s)) :
 L2.FnOk P w K mg base L2.CX0 (k+1) f fd ps (SpF K cm (fn N.length ps.length s) ps.length):=aP4 F S λcdv A outer s0 H E hr=>hb cdv A outer s0 H E hr hr.units (au7 hr.units)
theorem aB6 (F:L2.Fun K x qual st f fd) (S:L2.D6 N ps (L2.A6 st))
 (hb:∀(cdv:Value) (A:Around) (outer:List Env) (s0:Shared) (H:L2.Hp) (E:L2.XK),L2.Room k (A.deeper (PyProof.Rows.envOfC qual (L2.A6 st) s0.heap.objs.size f cdv))->(A.deeper (PyProof.Rows.envOfC qual (L2.A6 st) s0.heap.objs.size f cdv)).units+64<cLine->(A.deeper (PyProof.Rows.envOfC qual (L2.A6 st) s0.heap.objs.size f cdv)).units+1<cLine->
  L2.PSs (L2.X5 (CXw P w) P w K mg base N qual (L2.A6 st) f cdv A outer s0 H E) (L2.C1 st) (S3 K cm (XEo E) s)) :
 L2.FnOk P w K mg base (CXw P w) (k+1) f fd ps (SpX K cm (fn N.length ps.length s) ps.length):=aK7 F S λcdv A outer s0 H E hr=>hb cdv A outer s0 H E hr hr.units (au7 hr.units)
end
section
variable {X:L2.Cx} {cm:Nat->Addr} {o value:Expr} {d e:ED} {f:Str} {pos pos':Pos}
theorem r_v (i:Nat) {x:Str} (hN:X.N[i]?=some x:=by rfl) (hv:L2.Vis X.env.scope x:=by first | exact Or.inl rfl | exact Or.inr (Or.inl rfl) | exact Or.inr (Or.inr rfl)) (hd:(x == ("__debug__" : Str))=false:=by decide)
 (hcd:(x == ("__classdict__" : Str))=false:=by decide):L2.PE X (.Name x pos) (EvE X.K cm (eVar i)):=aO9 (L2.pv i hN hv hd hcd)
end
end Ws
local macro_rules | `(tactic| walk_at "sc")=>`(tactic| exact⟨rfl,rfl,rfl,by decide +kernel,rfl,by decide +kernel,by decide +kernel⟩)
local macro_rules | `(tactic| walk_at "fb")=>`(tactic| first | exact (λ_=>rfl) | exact (λh=>nomatch h))
local macro_rules | `(tactic| walk_at "o2")=>`(tactic| first | exact Or.inl rfl | exact Or.inr rfl)
local macro_rules | `(tactic| walk_at "o3")=>`(tactic| first | exact Or.inl rfl | exact Or.inr (Or.inl rfl) | exact Or.inr (Or.inr rfl))
namespace Ws
open PySem PySem.W PyProof.Rows
end Ws
namespace Ws
open PySem PySem.W PyProof.Rows SeqAt
end Ws
namespace Ws
open PySem PySem.W PyProof.Rows PySem.Builtin PySem.Builtin.Str
section
variable {X:L2.Cx} {cm:Nat->Addr}
theorem m4 (x y z:Str) (t u v k:Tok) : «str.replace» ⟨[.str x t,.str y u,.str z v,.int 1 k],[]⟩ =
 (if ((occurrences x y 0 x.length 1).isEmpty||(y.length == 0&&z.length == 0))=true then (do rule "str.replace.nothing";PySem.ret (.str x t)) else
       (do let same ←isSame (.str y u) (.str z v)
           if same=true then (do rule "str.replace.old-is-new";PySem.ret (.str x t)) else
           if tooLong (x.length+(occurrences x y 0 x.length 1).length*z.length)=true then unsupported "str.replace:memory" else
           retStr (glued z (partsBetween x (occurrences x y 0 x.length 1) y.length)))):=by
 show (do let limit ←countLimit "str.replace" (some (.int 1 k)) (x.length+1);_)=_
 rw [countLimit_int "str.replace" 1 k (x.length+1) (by decide)]
 rfl
theorem ab2 (x y z:Str) (t u v k:Tok) (hy:(y.length == 0)=false) (h0:(u == 0||v == 0)=false) (huv:(u == v)=false) (hyz:(y == z)=false)
 (hl:tooLong (x.length+(occurrences x y 0 x.length 1).length*z.length)=false) :
 Gives («str.replace» ⟨[.str x t,.str y u,.str z v,.int 1 k],[]⟩) (if (occurrences x y 0 x.length 1).isEmpty=true then .val (.str x t) else .str (glued z (partsBetween x (occurrences x y 0 x.length 1) y.length))):=by
 rw [m4,hy]
 cases hc:(occurrences x y 0 x.length 1).isEmpty
 ·rw [isSame_str_other y z u v h0 huv hyz,hl]
  exact .of_eq rfl
 ·exact .rule (.of_eq rfl)
theorem ae5 {prog:Program} {w:World} {A:Around} {E:Value->Shared->Prop} {s:Shared} {x y z:Str} {t u v k:Tok} {Q:Value->Shared->Prop} (hy:(y.length == 0)=false) (hyz:(y == z)=false) (hu:u≠0) (hv:v≠0) (huv:u≠v)
 (h1:x.length+(occurrences x y 0 x.length 1).length*z.length<=LIM) (h2:(Q8 x y z).length<=LIM) (hq:∀t' k',Q (.str (Q8 x y z) t') { s with toks:=k' }) :
 wpAny (model prog w) A (call (.builtin "str.replace") [.str x t,.str y u,.str z v,.int 1 k]) Q E s:=by
 refine call_givesAt F.slot_str_replace (typeIs_str _ _ _) F.entry_str_replace (F.args_str_replace_4 _ _ _ _)
  (Gives.at (P:=λ_=>True) (ab2 x y z t u v k hy (by simp [hu,hv]) (by simp [huv]) hyz (by unfold tooLong;exact decide_eq_false (Nat.not_lt.mpr (K9 h1))))) trivial ?_
 unfold Q8 at hq h2
 cases hc:(occurrences x y 0 x.length 1).isEmpty
 ·rw [hc] at hq h2
  simp only [Bool.false_eq_true,if_false] at hq h2 ⊢
  exact⟨K9 h2,hq _ _⟩
 ·rw [hc] at hq
  simp only [if_true] at hq ⊢
  exact hq t s.toks
theorem aB7 {op:CmpOp} {r:L2.R2} {a:Expr} {ta:L2.TE} {i:Int} {j:Nat} {p1 pos:Pos} (ho:L2.OpR X (compareOp op) r) (ha:L2.PE X a ta) (hm:behindInMarks op (.Constant (.int i) j p1)=false)
 {pins:List (Addr×Obj)} {s:Shared} {σ:L2.St} {H:L2.Hp} {Q:Bool->L2.Hp->Prop} (I:L2.Inv X pins σ H s) (h:L2.y8 (L2.tOp r ta (L2.tC (.int i))) σ H Q) :
 wpAny (model X.prog X.w) X.A (isTrue (.Compare a [op] [.Constant (.int i) j p1] pos) X.env (eval (.Compare a [op] [.Constant (.int i) j p1] pos) X.env)) (λb s'=>1<=s'.toks/\L2.TP X pins σ Q b s') X.xe s:=by
 refine wpAny_isTrue_Compare1 (L2.thn (ha pins s σ H _ I h) λv s1 ⟨x,H1,I1,r1,q1⟩=>wpAny_Constant_int ?_) hm
 refine wpAny_with_toks (n:=1) (Nat.le_add_left 1 s1.toks) (wpAny_mono (ho pins _ σ H1 x (.int i) v _ _ (I1.tok _) r1 ⟨_,rfl⟩ q1) (λc s3 ⟨z,H3,I3,r3,k,e,q3⟩ hn=>?_) λ_ _ e _=>e)
 subst e
 cases r3
 exact wpAny_truthy_bool ⟨hn,H3,I3,q3⟩
theorem aL9 {op:CmpOp} {f:OD} {r:L2.R2} {a o:Expr} {da d:ED} {i:Int} {u w:Str} {j1 j2 j3 j4:Nat} {p1 p2 p3 p4 p5 p6 p7 apos cpos:Pos} (hop:L2.OpR X (compareOp op) r) (hf:K3 X.K cm f r)
 (ha:L2.PE X a (EvE X.K cm da)) (ho:L2.PE X o (EvE X.K cm d)) (hm:behindInMarks op (.Constant (.int i) j1 p1)=false)
 (hb:attributeBase o "replace" X.env (eval o X.env)=eval o X.env:=by rfl) (hline:(apos.endLine == cpos.line)=true:=by rfl) :
 L2.PS X (.If (.Compare a [op] [.Constant (.int i) j1 p1] p2) [.Return (some (.Call (.Attribute o "replace" apos) [.Constant (.str u) j2 p3,.Constant (.str w) j3 p4,.Constant (.int 1) j4 p5] [] cpos)) p6] [] p7)
  (EvS X.K cm (sIf (E8 (A9 f da (eK (.int i)))) (sRet (ad3 d u w)) E7)):=by
 intro pins s σ H D I h
 obtain⟨ρ,A,σp,fl,A',rl,rs,ev,k⟩:=h
 obtain⟨b,A1,e1,ev1⟩:=A5 ev
 have ht:EvT X.K cm (E8 (A9 f da (eK (.int i)))) σ H (λb' H1=>b'=b/\∃ρ1,Ext ρ H ρ1 H1/\Rel X.K cm ρ1 A1 H1):=⟨ρ,A,σp,b,A1,rl,rs,e1,λρ1 H1 x1 rl1=>⟨rfl,ρ1,x1,rl1⟩⟩
 have ht':=U3 (λ_ _ _=>V9 hf) ht
 have ht2:L2.y8 (L2.tOp r (EvE X.K cm da) (L2.tC (.int i))) σ H (λb' H1=>b'=b/\∃ρ1,Ext ρ H ρ1 H1/\Rel X.K cm ρ1 A1 H1):=by
  obtain⟨ρ',B,τ,x,B1,g1,g2,g3,g4⟩:=ht'
  refine⟨ρ',B,τ,x,B1,g1,g2,g3,λρ1 H1 v1 x1 rl1 rv1=>?_⟩
  obtain⟨ρ2,B2,τ2,y,B3,f1,f2,f3,f4⟩:=g4 ρ1 H1 v1 x1 rl1 rv1
  cases f3
  exact f4 ρ2 H1 (.int i) (Ext.refl _ _) f1 (.int i)
 refine wpAny_If (L2.thn (aB7 hop ha hm I ht2) λb' s1 ⟨hn,H1,I1,e,ρ1,x1,rl1⟩=>?_)
 subst e
 cases b' with
 | false=>
   rw [if_neg (by simp)] at ev1
   exact E1 pins s1 σ H1 D I1 ⟨ρ1,A1,σp,fl,A',rl1,rs.mono x1,ev1,λρ2 H2 x2 rl2=>k ρ2 H2 (x1.trans x2) rl2⟩
 | true=>
   rw [if_pos rfl] at ev1
   obtain⟨y,A2,e2,ev2⟩:=A5 ev1
   cases ev2
   obtain⟨x,A3,e3,ev3⟩:=A5 e2
   refine wpAny_execs_cons (wpAny_Return_some ?_)
   refine wpAny_Call_method_late hb rfl hline rfl (wpAny_with_toks (n:=1) hn (wpAny_mono (ho pins s1 σ H1 (λv H2=>∃ρ2,Ext ρ1 H1 ρ2 H2/\Rel X.K cm ρ2 A3 H2/\RV ρ2 H2 x v) I1 ⟨ρ1,A1,σp,x,A3,rl1,rs.mono x1,e3,λρ2 H2 v2 x2 rl2 rv2=>⟨ρ2,x2,rl2,rv2⟩⟩) (λv s2 ⟨vx,H2,I2,r2,ρ2,x2,rl2,rv2⟩ hn2=>?_) λ_ _ e _=>e))
   cases x with
   | str z=>
     obtain⟨⟨⟨hu,huw⟩,c1,c2⟩,ev4⟩:=B6 ev3
     cases ev4
     cases rv2
     obtain⟨t,rfl⟩:=r2
     refine⟨"str","str.replace",F.plainAttrs_str,F.slot_str_replace,F.type_str_replace,typeIs_str _ _ _,(λ_ e=>nomatch e),?_⟩
     refine Calls.callWith_builtin rfl (Calls.evalArgs_plain ?_)
     show wpAny _ _ (spliced [(false,eval (.Constant (.str u) j2 p3) X.env),(false,eval (.Constant (.str w) j3 p4) X.env),(false,eval (.Constant (.int 1) j4 p5) X.env)]) _ _ _
     refine Calls.spliced_cons (Calls.Constant_str (k:=j2) (pos:=p3) (Calls.spliced_cons (Calls.Constant_str (k:=j3) (pos:=p4) (Calls.spliced_cons (wpAny_Constant_int (Calls.spliced_nil ?_))))))
     refine ae5 hu huw (Nat.ne_of_gt hn2) (Nat.succ_ne_zero _) (Nat.ne_of_lt (Nat.lt_succ_self _)) c1 c2 λt' k'=>?_
     exact⟨.str (Q8 z u w),σ,H2,(I2.tok _),⟨_,rfl⟩,k ρ2 H2 (x1.trans x2) rl2 _ (.str _)⟩
   | _=>cases ev3
end
end Ws
namespace Ws
abbrev XP:=Nat->PV->PHp->Prop
def Wp {α:Type} (m:M α) (A:PHp) (Q:α->PHp->Prop) (E:XP):Prop:=match m A with
 | .ok a A'=>Q a A'
 | .ex c v A'=>E c v A'
 | .no=>False
abbrev NoX:XP:=λ_ _ _=>False
section
variable {α β:Type} {m:M α} {f:α->M β} {A A' A1 B:PHp} {a:α} {E E':XP} {σ σ':PSt}
theorem w_eq {Q:α->PHp->Prop} (h:m A=.ok a A') (q:Q a A'):Wp m A Q E:=by unfold Wp;rw [h];exact q
theorem aE4 {Q:α->PHp->Prop} (h:Wp m A Q NoX):∃a A',m A=.ok a A'/\Q a A':=by
 unfold Wp at h
 cases e:m A with
 | ok a A'=>rw [e] at h;exact⟨a,A',rfl,h⟩
 | ex c v A'=>rw [e] at h;exact h.elim
 | no=>rw [e] at h;exact h.elim
theorem ah8 {Q Q':α->PHp->Prop} (h:Wp m A Q E) (hq:∀a A',Q a A'->Q' a A') (he:∀c v A',E c v A'->E' c v A'):Wp m A Q' E':=by
 unfold Wp at h ⊢
 cases e:m A with
 | ok a A'=>rw [e] at h;exact hq _ _ h
 | ex c v A'=>rw [e] at h;exact he _ _ _ h
 | no=>rw [e] at h;exact h.elim
theorem w_mono {Q Q':α->PHp->Prop} (h:Wp m A Q E) (hq:∀a A',Q a A'->Q' a A'):Wp m A Q' E:=ah8 h hq λ_ _ _ z=>z
theorem ah9 {Q:α->PHp->Prop} (q:Q a A):Wp (ret a) A Q E:=q
theorem A7 {Q:β->PHp->Prop} (h:Wp m A (λa A1=>Wp (f a) A1 Q E) E):Wp (bnd m f) A Q E:=by
 unfold Wp at h ⊢
 unfold bnd
 cases e:m A with
 | ok a A'=>rw [e] at h;exact h
 | ex c v A'=>rw [e] at h;exact h
 | no=>rw [e] at h;exact h
theorem C4 {P:Prop} {Q:α->PHp->Prop} (p:P) (h:Wp m A Q E):Wp (C3 P m) A Q E:=by rw [J4 p];exact h
variable {Q:PV->PHp->Prop} {e e1 e2 e3:ED} {es:AD} {v x y:PV} {i j:Int} {k n:Nat} {l:List PV}
theorem w_var (h:σ[k]?=some (some v)) (q:Q v A):Wp (eVar k σ) A Q E:=w_eq (a:=v) (by show (eVar k σ) A=_;unfold eVar;rw [h];rfl) q
theorem w_k (q:Q v A):Wp (eK v σ) A Q E:=q
theorem w_nil {Q:List PV->PHp->Prop} (q:Q [] A):Wp (aNil σ) A Q E:=q
theorem w_cons {Q:List PV->PHp->Prop} (h:Wp (e σ) A (λx A1=>Wp (es σ) A1 (λxs A2=>Q (x::xs) A2) E) E):Wp (aCons e es σ) A Q E:=
 A7 (w_mono h λ_ _ h1=>A7 (w_mono h1 λ_ _ h2=>h2))
theorem w_tup (h:Wp (es σ) A (λxs A1=>xs.length<=LIM/\Q (.tup xs) A1) E):Wp (U1 es σ) A Q E:=A7 (w_mono h λ_ _ ⟨h1,h2⟩=>C4 h1 h2)
theorem w_lst (h:Wp (es σ) A (λxs A1=>xs.length<=LIM/\Q (.ref A1.length) (A1++[.lst xs])) E):Wp (L7 es σ) A Q E:=A7 (w_mono h λ_ _ ⟨h1,h2⟩=>C4 h1 h2)
theorem w_bin {f:OD} (h:Wp (e1 σ) A (λx A1=>Wp (e2 σ) A1 (λy A2=>Wp (f x y) A2 Q E) E) E):Wp (A9 f e1 e2 σ) A Q E:=A7 (w_mono h λ_ _ h1=>A7 h1)
theorem w_add (q:Q (.int (i+j)) A):Wp (N4 (.int i) (.int j)) A Q E:=q
theorem w_add2 (q:Q (.int (i+j)) A):Wp (K0 (.int i) (.int j)) A Q E:=q
theorem i3 {Q:List PV->PHp->Prop} (h:A[n]?=some (.lst l)) (q:Q l A):Wp (N7 n) A Q E:=w_eq (aj8 h) q
theorem N0 {n k:Nat} {l m:List PV} (hn:A[n]?=some (.lst l)) (hk:A[k]?=some (.lst m)) (hl:l.length+m.length<=LIM) (q:Q (.ref A.length) (A++[.lst (l++m)])):Wp (N4 (.ref n) (.ref k)) A Q E:=
 A7 (i3 hn (A7 (i3 hk (C4 hl q))))
theorem w_sub (q:Q (.int (i - j)) A):Wp (aI3 (.int i) (.int j)) A Q E:=q
theorem w_mod (h:0<j) (q:Q (.int (i%j)) A):Wp (M1 (.int i) (.int j)) A Q E:=C4 h q
theorem w_fdiv (h:0<j/\j<1073741824) (q:Q (.int (i / j)) A):Wp (Z1 (.int i) (.int j)) A Q E:=C4 h q
theorem w_lt (q:Q (.bl (decide (i<j))) A):Wp (oLt (.int i) (.int j)) A Q E:=q
theorem w_le (q:Q (.bl (decide (i<=j))) A):Wp (oLe (.int i) (.int j)) A Q E:=q
theorem w_gt (q:Q (.bl (decide (j<i))) A):Wp (oGt (.int i) (.int j)) A Q E:=q
theorem w_eqI (q:Q (.bl (decide (i=j))) A):Wp (oEq (.int i) (.int j)) A Q E:=A7 (C4 (.inr ⟨rfl,rfl⟩) q)
theorem w_neI (q:Q (.bl (!decide (i=j))) A):Wp (oNe (.int i) (.int j)) A Q E:=A7 (C4 (.inr ⟨rfl,rfl⟩) q)
theorem w_eqT {l m:List PV} (h:plain (.tup l)=true/\plain (.tup m)=true) (q:Q (.bl (H8 l m)) A):Wp (oEq (.tup l) (.tup m)) A Q E:=A7 (C4 (.inr h) q)
theorem w_neT {l m:List PV} (h:plain (.tup l)=true/\plain (.tup m)=true) (q:Q (.bl (!H8 l m)) A):Wp (oNe (.tup l) (.tup m)) A Q E:=A7 (C4 (.inr h) q)
theorem aR1 (hx:plain x=true) (hy:plain y=true) (q:Q (.bl (eqv x y)) A):Wp (oEq x y) A Q E:=by
 cases x with
 | ref n=>cases hx
 | _=>exact A7 (C4 (.inr ⟨hx,hy⟩) q)
theorem aR2 (hx:plain x=true) (hy:plain y=true) (q:Q (.bl (!eqv x y)) A):Wp (oNe x y) A Q E:=by
 cases x with
 | ref n=>cases hx
 | _=>exact A7 (C4 (.inr ⟨hx,hy⟩) q)
theorem M3 {Q:List PV->PHp->Prop} (h:A[n]?=some (.lst l)) (q:Q l A):Wp (C7 n) A Q E:=w_eq (G6 h) q
theorem w_eqL {n k:Nat} {l m:List PV} (hn:A[n]?=some (.lst l)) (hk:A[k]?=some (.lst m)) (hp:L6 l=true/\L6 m=true) (q:Q (.bl (H8 l m)) A):Wp (oEq (.ref n) (.ref k)) A Q E:=
 A7 (A7 (M3 hn (A7 (M3 hk (C4 hp q)))))
theorem w_neL {n k:Nat} {l m:List PV} (hn:A[n]?=some (.lst l)) (hk:A[k]?=some (.lst m)) (hp:L6 l=true/\L6 m=true) (q:Q (.bl (!H8 l m)) A):Wp (oNe (.ref n) (.ref k)) A Q E:=
 A7 (A7 (M3 hn (A7 (M3 hk (C4 hp q)))))
theorem w_isN (h:Wp (e σ) A (λx A1=>Q (.bl (af7 x)) A1) E):Wp (ap0 e σ) A Q E:=A7 h
theorem w_chain {f g:OD} (h:Wp (e1 σ) A (λx A1=>Wp (e2 σ) A1 (λy A2=>Wp (f x y) A2 (λz A3=>∃b,z=.bl b/\((b=true->Wp (e3 σ) A3 (λu A4=>Wp (g y u) A4 Q E) E)/\(b=false->Q (.bl false) A3))) E) E) E):Wp (t5 f g e1 e2 e3 σ) A Q E:=
 A7 (w_mono h λ_ _ h1=>A7 (w_mono h1 λ_ _ h2=>A7 (w_mono h2 λz A3 ⟨b,hz,h3,h4⟩=>by
  subst hz
  cases b with
  | true=>exact A7 (h3 rfl)
  | false=>exact h4 rfl)))
variable {QB:Bool->PHp->Prop} {t t1 t2:TD} {b:Bool}
theorem w_true (q:QB true A):Wp (Z4 σ) A QB E:=q
theorem w_tval (h:Wp (e σ) A (λx A1=>∃b,x=.bl b/\QB b A1) E):Wp (E8 e σ) A QB E:=A7 (w_mono h λx A1 ⟨b,hx,q⟩=>by subst hx;exact q)
theorem w_tand (h:Wp (t1 σ) A (λb A1=>(b=true->Wp (t2 σ) A1 QB E)/\(b=false->QB false A1)) E):Wp (tAnd t1 t2 σ) A QB E:=A7 (w_mono h λb A1 ⟨h1,h2⟩=>by
 cases b with
 | true=>exact h1 rfl
 | false=>exact h2 rfl)
theorem w_tor (h:Wp (t1 σ) A (λb A1=>(b=true->QB true A1)/\(b=false->Wp (t2 σ) A1 QB E)) E):Wp (tOr t1 t2 σ) A QB E:=A7 (w_mono h λb A1 ⟨h1,h2⟩=>by
 cases b with
 | true=>exact h1 rfl
 | false=>exact h2 rfl)
theorem w_tnot (h:Wp (t σ) A (λb A1=>QB (!b) A1) E):Wp (tNot t σ) A QB E:=A7 h
theorem w_or (h:Wp (e1 σ) A (λx A1=>∃b,x=.bl b/\((b=true->Q (.bl true) A1)/\(b=false->Wp (e2 σ) A1 Q E))) E):Wp (eOr e1 e2 σ) A Q E:=A7 (A7 (w_mono h λx A1 ⟨b,hx,h1,h2⟩=>by
 subst hx
 cases b with
 | true=>exact h1 rfl
 | false=>exact h2 rfl))
theorem w_ixL (hn:A[n]?=some (.lst l)) (hi:atI l i=some v) (q:Q v A):Wp (oIx (.ref n) (.int i)) A Q E:=A7 (M3 hn (by rw [hi];exact q))
theorem w_ixT (hi:atI l i=some v) (q:Q v A):Wp (oIx (.tup l) (.int i)) A Q E:=by
 refine w_eq (a:=v) (A':=A) ?_ q
 simp [hi]
theorem w_len (h:Wp (e σ) A (λx A1=>Wp (Q6 x) A1 (λl A2=>Q (.int l.length) A2) E) E):Wp (t6 e σ) A Q E:=A7 (w_mono h λ_ _ h1=>A7 h1)
theorem w_seqL {Q:List PV->PHp->Prop} (h:A[n]?=some (.lst l)) (q:Q l A):Wp (Q6 (.ref n)) A Q E:=M3 h q
theorem w_tupleOf (h:Wp (e σ) A (λx A1=>∃n l,x=.ref n/\A1[n]?=some (.lst l)/\l.length<=LIM/\Q (.tup l) A1) E):Wp (Z6 e σ) A Q E:=A7 (w_mono h λx A1 ⟨n,l,hx,h1,h2,q⟩=>by
 subst hx
 exact A7 (M3 h1 (C4 h2 q)))
variable {QO:Option Int->PHp->Prop} {lo hi:LD}
theorem w_lno (q:QO none A):Wp (lNo σ) A QO E:=q
theorem w_lat (h:Wp (e σ) A (λx A1=>∃i,x=.int i/\QO (some i) A1) E):Wp (lAt e σ) A QO E:=A7 (w_mono h λx A1 ⟨i,hx,q⟩=>by subst hx;exact q)
theorem w_cut (h:Wp (e σ) A (λx A1=>Wp (lo σ) A1 (λl A2=>Wp (hi σ) A2 (λh A3=>(∃n xs,x=.ref n/\C7 n A3=.ok xs A3/\Q (.ref A3.length) (A3++[.lst (cut xs l h)]))\/
 ∃xs,x=.tup xs/\¬(G0 xs.length 0 l=0/\G0 xs.length xs.length h=xs.length)/\Q (.tup (cut xs l h)) A3) E) E) E):Wp (V6 e lo hi σ) A Q E:=
 A7 (w_mono h λ_ _ h1=>A7 (w_mono h1 λ_ _ h2=>A7 (w_mono h2 λ_ _ h3=>by
  rcases h3 with ⟨n,xs,rfl,hn,q⟩ | ⟨xs,rfl,hn,q⟩
  ·exact A7 (w_eq hn q)
  ·exact C4 hn q)))
theorem w_cut2 (h:Wp (e σ) A (λx A1=>Wp (lo σ) A1 (λl A2=>Wp (hi σ) A2 (λh A3=>(∃n xs,x=.ref n/\C7 n A3=.ok xs A3/\Q (.ref A3.length) (A3++[.lst (cut xs l h)]))\/
 ∃xs,x=.tup xs/\Q (.tup (cut xs l h)) A3) E) E) E):Wp (X3 e lo hi σ) A Q E:=
 A7 (w_mono h λ_ _ h1=>A7 (w_mono h1 λ_ _ h2=>A7 (w_mono h2 λ_ _ h3=>by
  rcases h3 with ⟨n,xs,rfl,hn,q⟩ | ⟨xs,rfl,q⟩
  ·exact A7 (w_eq hn q)
  ·exact q)))
theorem n8:∀bs:List Bool,S6 (bs.map PV.bl)=some bs
 | []=>rfl
 | b::r=>by rw [List.map_cons];show (S6 (r.map PV.bl)).map (b :: ·)=_;rw [n8 r];rfl
theorem w_all (h:Wp (e σ) A (λx A1=>∃(n:Nat) (bs:List Bool),x=.ref n/\A1[n]?=some (.lst (bs.map PV.bl))/\Q (.bl (bs.all id)) A1) E):Wp (ay2 e σ) A Q E:=A7 (w_mono h λx A1 ⟨n,bs,hx,h1,q⟩=>by
 subst hx
 refine A7 (M3 h1 ?_)
 rw [n8];exact q)
theorem w_append {e1 e2:ED} (h:Wp (e1 σ) A (λx A1=>∃n l,x=.ref n/\A1[n]?=some (.lst l)/\Wp (e2 σ) A1 (λv A2=>∃l2,A2[n]?=some (.lst l2)/\l2.length<LIM/\Q .non (A2.set n (.lst (l2++[v])))) E) E):Wp (P3 e1 e2 σ) A Q E:=
 A7 (w_mono h λx A1 ⟨n,l,hx,h1,h2⟩=>by
  subst hx
  exact A7 (i3 h1 (A7 (w_mono h2 λv A2 ⟨l2,h3,h4,q⟩=>A7 (i3 h3 (C4 h4 q))))))
theorem w_call {f:Fun} (h:Wp (es σ) A (λvs A1=>Wp (f vs) A1 Q E) E):Wp (J8 f es σ) A Q E:=A7 h
variable {QF:Fl->PHp->Prop} {s s1 s2:SD} {g:GD} {QS:PSt->PHp->Prop}
theorem w_pass (q:QF (.nx σ) A):Wp (E7 σ) A QF E:=q
theorem w_seq (h:Wp (s1 σ) A (λo A1=>match o with | .nx σ'=>Wp (s2 σ') A1 QF E | o=>QF o A1) E):Wp (C6 s1 s2 σ) A QF E:=A7 (w_mono h λo A1 h1=>by
 cases o with
 | nx σ'=>exact h1
 | _=>exact h1)
theorem w_exp (h:Wp (e σ) A (λ_ A1=>QF (.nx σ) A1) E):Wp (S5 e σ) A QF E:=A7 h
theorem w_retS (h:Wp (e σ) A (λv A1=>QF (.rt v) A1) E):Wp (sRet e σ) A QF E:=A7 h
theorem w_if (h:Wp (t σ) A (λb A1=>(b=true->Wp (s1 σ) A1 QF E)/\(b=false->Wp (s2 σ) A1 QF E)) E):Wp (sIf t s1 s2 σ) A QF E:=A7 (w_mono h λb A1 ⟨h1,h2⟩=>by
 cases b with
 | true=>exact h1 rfl
 | false=>exact h2 rfl)
theorem w_asg (h:Wp (e σ) A (λv A1=>Wp (g v σ) A1 (λσ' A2=>QF (.nx σ') A2) E) E):Wp (E9 e g σ) A QF E:=A7 (w_mono h λ_ _ h1=>A7 h1)
theorem w_gname (q:QS (σ.set k (some v)) A):Wp (gName k v σ) A QS E:=q
theorem w_gnil (q:QS σ A):Wp (gNil [] σ) A QS E:=q
theorem w_gcons {r:GDs} {vs:List PV} (h:Wp (g v σ) A (λσ' A1=>Wp (r vs σ') A1 QS E) E):Wp (gCons g r (v::vs) σ) A QS E:=A7 h
theorem w_gtup {r:GDs} (hl:l.length=n) (h:Wp (r l σ) A QS E):Wp (gTup n r (.tup l) σ) A QS E:=C4 hl h
theorem aU4 {n p:Nat} {vs:List PV} (hl:vs.length=p) (h:Wp (s (start n vs)) A (λo A1=>match o with | .rt v=>Q v A1 | .nx _=>Q .non A1 | _=>False) E):Wp (fn n p s vs) A Q E:=
 C4 hl (A7 (w_mono h λo A1 h1=>by
  cases o with
  | rt v=>exact h1
  | nx σ'=>exact h1
  | bk σ'=>exact h1.elim
  | ct σ'=>exact h1.elim))
abbrev ab3 (P:PSt->PHp->Prop) (QF:Fl->PHp->Prop):Fl->PHp->Prop:=λo A=>match o with
 | .nx σ=>P σ A
 | .ct σ=>P σ A
 | .bk σ=>QF (.nx σ) A
 | .rt v=>QF (.rt v) A
theorem U9 {J:It} {n:Nat} (P:Nat->PSt->PHp->Prop) (hend:∀σ A,P n σ A->item J n A=.ok none A/\QF (.nx σ) A)
 (hs:∀i σ A,i<n->P i σ A->∃v,item J i A=.ok (some v) A/\Wp (g v σ) A (λσ1 A1=>Wp (s σ1) A1 (ab3 (P (i+1)) QF) E) E) :
 ∀k i σ A,i+k=n->P i σ A->∀m,k<m->Wp (J9 J g s m i σ) A QF E
 | _,_,_,_,_,_,0,hm=>absurd hm (Nat.not_lt_zero _)
 | 0,i,σ,A,e,h,m+1,hm=>by
   obtain rfl:i=n:=by omega
   obtain⟨h1,h2⟩:=hend σ A h
   rw [K2]
   exact A7 (w_eq h1 h2)
 | k+1,i,σ,A,e,h,m+1,hm=>by
   obtain⟨v,hv,t⟩:=hs i σ A (by omega) h
   rw [K2]
   refine A7 (w_eq hv ?_)
   refine A7 (w_mono t λσ1 A1 h1=>A7 (w_mono h1 λo A2 h2=>?_))
   cases o with
   | nx σ2=>exact U9 P hend hs k (i+1) σ2 A2 (by omega) h2 m (by omega)
   | ct σ2=>exact U9 P hend hs k (i+1) σ2 A2 (by omega) h2 m (by omega)
   | bk σ2=>exact h2
   | rt v=>exact h2
theorem aM0 {it:ID} (P:Nat->PSt->PHp->Prop) (h:Wp (it σ) A (λJ A1=>∃lo n,J=.rng lo n/\P 0 σ A1/\(∀(i:Nat) σ B,i<n->P i σ B->Wp (g (.int (lo+i)) σ) B (λσ1 B1=>Wp (s σ1) B1 (ab3 (P (i+1)) QF) E) E)/\∀σ B,P n σ B->QF (.nx σ) B) E) :
 Wp (U2 it g s σ) A QF E:=A7 (w_mono h λJ A1 ⟨lo,n,hJ,h0,hs,he⟩=>by
 subst hJ
 exact A7 (ah9 (U9 P (λσ B hP=>⟨by simp,he σ B hP⟩) (λi σ B hi hP=>⟨_,by simp [hi],hs i σ B hi hP⟩) n 0 σ A1 (by omega) h0 (n+1) (Nat.lt_succ_self _))))
theorem aM1 {it:ID} (P:Nat->PSt->PHp->Prop) (h:Wp (it σ) A (λJ A1=>∃a l,J=.lst a/\P 0 σ A1/\(∀i σ B,P i σ B->C7 a B=.ok l B)/\(∀(i:Nat) v σ B,l[i]?=some v->P i σ B->Wp (g v σ) B (λσ1 B1=>Wp (s σ1) B1 (ab3 (P (i+1)) QF) E) E)/\∀σ B,P l.length σ B->QF (.nx σ) B) E) :
 Wp (U2 it g s σ) A QF E:=A7 (w_mono h λJ A1 ⟨a,l,hJ,h0,hl,hs,he⟩=>by
 subst hJ
 refine A7 (A7 (w_eq (hl 0 σ A1 h0) (ah9 ?_)))
 refine U9 P (λσ B hP=>⟨by show bnd (C7 a) _ B=_;rw [bnd_ok (hl _ σ B hP)];simp,he σ B hP⟩) (λi σ B hi hP=>?_) l.length 0 σ A1 (by omega) h0 (l.length+1) (Nat.lt_succ_self _)
 exact⟨l[i],by show bnd (C7 a) _ B=_;rw [bnd_ok (hl _ σ B hP),List.getElem?_eq_getElem hi];rfl,hs i l[i] σ B (List.getElem?_eq_getElem hi) hP⟩)
theorem i4 {J:It} {g:GD} {t:TD} {e:ED} {l:List PV} {QL:List PV->PHp->Prop} (P:Nat->List PV->PSt->PHp->Prop) (hit:∀i acc σ B,P i acc σ B->item J i B=.ok l[i]? B)
 (hs:∀i v acc σ B,l[i]?=some v->P i acc σ B->Wp (g v σ) B (λσ1 B1=>Wp (t σ1) B1 (λc B2=>(c=true->Wp (e σ1) B2 (λy B3=>P (i+1) (acc++[y]) σ1 B3) E)/\(c=false->P (i+1) acc σ1 B2)) E) E)
 (he:∀acc σ B,P l.length acc σ B->QL acc B):∀k i acc σ B,i<=l.length->l.length<i+k->P i acc σ B->Wp (Q7 J g t e k i σ) B (λys B'=>QL (acc++ys) B') E
 | 0,i,acc,σ,B,h1,h2,_=>absurd h2 (by omega)
 | k+1,i,acc,σ,B,h1,h2,h=>by
   rw [X2]
   refine A7 (w_eq (hit i acc σ B h) ?_)
   cases hv:l[i]? with
   | none=>
     have:l.length=i:=by have:=List.getElem?_eq_none_iff.mp hv;omega
     subst this
     show QL (acc++[]) B
     rw [List.append_nil];exact he acc σ B h
   | some v=>
     have hi:=(List.getElem?_eq_some_iff.mp hv).1
     refine A7 (w_mono (hs i v acc σ B hv h) λσ1 B1 h3=>A7 (w_mono h3 λc B2 ⟨h4,h5⟩=>?_))
     cases c with
     | true=>
       refine A7 (w_mono (h4 rfl) λy B3 h6=>A7 (w_mono (i4 P hit hs he k (i+1) (acc++[y]) σ1 B3 hi (by omega) h6) λys B4 h7=>?_))
       show QL (acc++(y::ys)) B4
       rw [show acc++(y::ys)=acc++[y]++ys by simp];exact h7
     | false=>exact i4 P hit hs he k (i+1) acc σ1 B2 hi (by omega) (h5 rfl)
theorem aM2 {it:ID} {mk:PSt->PSt} {g:GD} {t:TD} {e:ED} (h:Wp (it σ) A (λJ A1=>∃(l:List PV) (n:Nat) (P:Nat->List PV->PSt->PHp->Prop),P4 J A1=.ok n A1/\l.length<=n/\P 0 [] (mk σ) A1/\(∀i acc σ B,P i acc σ B->item J i B=.ok l[i]? B)/\
 (∀i v acc σ B,l[i]?=some v->P i acc σ B->Wp (g v σ) B (λσ1 B1=>Wp (t σ1) B1 (λc B2=>(c=true->Wp (e σ1) B2 (λy B3=>P (i+1) (acc++[y]) σ1 B3) E)/\(c=false->P (i+1) acc σ1 B2)) E) E)/\
 ∀acc σ B,P l.length acc σ B->acc.length<=LIM/\Q (.ref B.length) (B++[.lst acc])) E):Wp (Z5 it mk g t e σ) A Q E:=
 A7 (w_mono h λJ A1 ⟨l,n,P,hf,hn,h0,hit,hs,he⟩=>A7 (w_eq hf (A7 (w_mono (i4 P hit hs (QL:=λacc B=>acc.length<=LIM/\Q (.ref B.length) (B++[.lst acc])) he (n+1) 0 [] (mk σ) A1 (Nat.zero_le _) (by omega) h0) λys B h12=>by
  obtain⟨h1,h2⟩:=h12
  rw [List.nil_append] at h1 h2
  exact C4 h1 h2))))
theorem fuel_lst {n:Nat} {l:List PV} (h:A[n]?=some (.lst l)):P4 (.lst n) A=.ok l.length A:=by show bnd (C7 n) _ A=_;rw [bnd_ok (G6 h)];rfl
theorem au8 {n:Nat} {l:List PV} (h:A[n]?=some (.lst l)) (i:Nat):item (.lst n) i A=.ok l[i]? A:=by show bnd (C7 n) _ A=_;rw [bnd_ok (G6 h)];rfl
theorem au9 (n i:Nat):item (.rng 0 n) i A=.ok ((List.range n).map λ(k:Nat)=>PV.int (k:Int))[i]? A:=by
 by_cases hi:i<n <;> simp [hi]
theorem atn {α:Type} {xs:List α} {j:Nat} (h:j<xs.length):atI xs (j:Int)=some xs[j]:=by
 unfold atI ixN
 rw [if_pos (by omega),if_pos (by omega)]
 simp [h]
theorem atm {xs:List Int} {j:Nat} (h:j<xs.length):atI (xs.map PV.int) (j:Int)=some (.int xs[j]):=by
 rw [atn (by simpa using h)];simp
theorem atl {xs:List Int} {i:Int} (h:0<=i/\i<xs.length):atI (xs.map PV.int) i=some (.int (xs.getD i.toNat 0)):=by
 obtain⟨j,rfl⟩:∃j:Nat,i=j:=⟨i.toNat,by omega⟩
 have hj:j<xs.length:=by omega
 rw [atm hj];simp [hj]
end
section
variable {A:PHp} {E:XP} {σ:PSt} {e e1 e2:ED}
theorem brT {P R:Prop} (h:P):(true=true->P)/\(true=false->R):=⟨λ_=>h,λz=>nomatch z⟩
theorem brNT {P R:Prop} (h:R):((!true)=true->P)/\((!true)=false->R):=⟨λz=>(nomatch z),λ_=>h⟩
theorem brNF {P R:Prop} (h:P):((!false)=true->P)/\((!false)=false->R):=⟨λ_=>h,λz=>nomatch z⟩
theorem brF {P R:Prop} (h:R):(false=true->P)/\(false=false->R):=⟨λz=>(nomatch z),λ_=>h⟩
theorem exL {A:PHp} {n:Nat} {l:List PV} {R:Nat->List PV->Prop} (h:A[n]?=some (.lst l)) (q:R n l):∃n' l',PV.ref n=.ref n'/\A[n']?=some (.lst l')/\R n' l':=⟨n,l,rfl,h,q⟩
theorem exL1 {A:PHp} {n:Nat} {l:List PV} {R:List PV->Prop} (h:A[n]?=some (.lst l)) (q:R l):∃l',A[n]?=some (.lst l')/\R l':=⟨l,h,q⟩
theorem exLA {A:PHp} {n:Nat} {l:List PV} {R:Nat->Prop} {R':Prop} (h:A[n]?=some (.lst l)) (q:R n):(∃n' l',PV.ref n=.ref n'/\C7 n' A=.ok l' A/\R n')\/R':=.inl ⟨n,l,rfl,G6 h,q⟩
theorem av0 {A:PHp} {n:Nat} {l:List PV} (h:A[n]?=some (.ro l)):C7 n A=.ok l A:=by unfold C7;rw [h]
theorem exLC {A:PHp} {n:Nat} {l:List PV} {R:Nat->List PV->Prop} {R':Prop} (h:A[n]?=some (.lst l)) (q:R n l):(∃n' l',PV.ref n=.ref n'/\C7 n' A=.ok l' A/\R n' l')\/R':=.inl ⟨n,l,rfl,G6 h,q⟩
theorem exRC {A:PHp} {n:Nat} {l:List PV} {R:Nat->List PV->Prop} {R':Prop} (h:A[n]?=some (.ro l)) (q:R n l):(∃n' l',PV.ref n=.ref n'/\C7 n' A=.ok l' A/\R n' l')\/R':=.inl ⟨n,l,rfl,av0 h,q⟩
variable {QI:It->PHp->Prop}
theorem w_iseq (h:Wp (e σ) A (λx A1=>(∃n l,x=.ref n/\C7 n A1=.ok l A1/\QI (.lst n) A1)\/∃l,x=.tup l/\QI (.tup l) A1) E):Wp (ap1 e σ) A QI E:=A7 (w_mono h λx A1 h1=>by
 rcases h1 with ⟨n,l,rfl,h2,q⟩ | ⟨l,rfl,q⟩
 ·exact A7 (w_eq h2 q)
 ·exact q)
theorem w_irng1 (h:Wp (e σ) A (λx A1=>∃n:Nat,x=.int n/\n<=1000000/\QI (.rng 0 n) A1) E):Wp (iRng1 e σ) A QI E:=A7 (w_mono h λx A1 ⟨n,hx,hn,q⟩=>by
 subst hx
 have l1:(n:Int)<=1000000:=Int.ofNat_le.mpr hn
 refine C4 ⟨Int.le_trans (by decide) (Int.natCast_nonneg n),Int.lt_of_le_of_lt l1 (by decide)⟩ (ah9 ?_)
 rw [Int.toNat_natCast];exact q)
end
end Ws
local macro_rules | `(tactic| walk_at "st")=>`(tactic| first
 | assumption
 | exact Ws.get_app
 | (refine Ws.get_app_of ?_;walk_at "st")
 | (refine Ws.C8 (by assumption) ?_;walk_at "st"))
local macro_rules | `(tactic| walk_at "lim")=>`(tactic| first
 | (refine Ws.lim_le ?_;(try simp only [List.length_map,List.length_append,List.length_cons,List.length_nil]);omega)
 | (refine Ws.lim_lt ?_;(try simp only [List.length_map,List.length_append,List.length_cons,List.length_nil]);omega))
local macro_rules | `(tactic| walk_at "s1")=>`(tactic| first
 | with_reducible refine Ws.w_seq ?_
 | with_reducible refine Ws.w_asg ?_
 | with_reducible refine Ws.w_if ?_
 | with_reducible refine Ws.w_exp ?_
 | with_reducible refine Ws.w_retS ?_
 | with_reducible refine Ws.w_pass ?_
 | with_reducible refine Ws.w_tval ?_
 | with_reducible refine Ws.w_tand ?_
 | with_reducible refine Ws.w_tor ?_
 | with_reducible refine Ws.w_tnot ?_
 | with_reducible refine Ws.w_bin ?_
 | with_reducible refine Ws.w_chain ?_
 | with_reducible refine Ws.w_or ?_
 | with_reducible refine Ws.w_isN ?_
 | with_reducible refine Ws.w_cons ?_
 | with_reducible refine Ws.w_tup ?_
 | with_reducible refine Ws.w_lst ?_
 | with_reducible refine Ws.w_call ?_
 | with_reducible refine Ws.w_len ?_
 | with_reducible refine Ws.w_tupleOf ?_
 | with_reducible refine Ws.w_cut ?_
 | with_reducible refine Ws.w_cut2 ?_
 | with_reducible refine Ws.w_lat ?_
 | with_reducible refine Ws.w_append ?_
 | with_reducible refine Ws.w_all ?_
 | with_reducible refine Ws.w_iseq ?_
 | with_reducible refine Ws.w_irng1 ?_
 | with_reducible refine Ws.w_ienm ?_)
local macro_rules | `(tactic| walk_at "s2")=>`(tactic| first
 | ((with_reducible apply Ws.w_var);(·rfl))
 | with_reducible refine Ws.w_k ?_
 | with_reducible refine Ws.w_true ?_
 | with_reducible refine Ws.w_nil ?_
 | with_reducible refine Ws.w_gname ?_
 | with_reducible refine Ws.w_gnil ?_
 | with_reducible refine Ws.w_gcons ?_
 | ((with_reducible apply Ws.w_gtup);(·rfl))
 | with_reducible refine Ws.w_add ?_
 | with_reducible refine Ws.w_add2 ?_
 | with_reducible refine Ws.w_sub ?_
 | ((with_reducible apply Ws.w_mod);(·omega))
 | ((with_reducible apply Ws.w_fdiv);(·omega))
 | with_reducible refine Ws.w_lt ?_
 | with_reducible refine Ws.w_le ?_
 | with_reducible refine Ws.w_gt ?_
 | with_reducible refine Ws.w_eqI ?_
 | with_reducible refine Ws.w_neI ?_
 | with_reducible refine Ws.w_lno ?_
 | ((with_reducible apply Ws.w_seqL);(·walk_at "st");(try dsimp only);(try rw [List.length_map]))
 | ((with_reducible apply Ws.w_ixL);(·walk_at "st");(·walk_at "ix"))
 | ((with_reducible apply Ws.w_ixT);(·walk_at "ix")))
local macro_rules | `(tactic| walk_at "ix")=>`(tactic| first
 | assumption
 | rfl
 | exact Ws.atl (by omega))
local macro_rules | `(tactic| walk_at "s3")=>`(tactic| first
 | with_reducible refine Ws.brT ?_
 | with_reducible refine Ws.brF ?_
 | with_reducible refine Ws.brNT ?_
 | with_reducible refine Ws.brNF ?_
 | with_reducible refine⟨_,rfl,?_⟩
 | ((with_reducible apply Ws.exL);(·walk_at "st"))
 | ((with_reducible apply Ws.exL1);(·walk_at "st"))
 | ((with_reducible apply Ws.exLA);(·walk_at "st"))
 | ((with_reducible apply Ws.exLC);(·walk_at "st"))
 | ((with_reducible apply Ws.exRC);(·walk_at "st"))
 | ((with_reducible refine And.intro ?h1 ?_);(case h1=>first | walk_at "lim" | omega)))
local macro_rules | `(tactic| walk_at "s")=>`(tactic| (first | walk_at "s1" | walk_at "s2" | walk_at "s3");(try dsimp only [List.set,Ws.ab3]))
local macro_rules | `(tactic| walk_at "fn")=>`(tactic| (refine Ws.aU4 (by rfl) ?_;simp only [Ws.start,List.map_cons,List.map_nil,List.length_cons,List.length_nil,Nat.reduceAdd,Nat.reduceSub,List.replicate,List.cons_append,List.nil_append]))
local macro_rules | `(tactic| walk_at "go")=>`(tactic| repeat walk_at "s")
namespace Ws
def f_is_number_c1:ED:=Z5 (aI9 (eVar 0)) (bst [none]) (gName 0) Z4 (A9 aI8 (eVar 0) (eK (.str "0123456789")))
def G1:Fun:=fn 1 1
 (C6 (sIf (tOr (tNot (E8 (t5 oLe oLe (eK (.int 1)) (ap9 (eVar 0)) (eK (.int 9))))) (tNot (E8 (ay2 f_is_number_c1))))
 (sRet (eK (.bl false)))
 E7)
 (sRet (eOr (A9 oEq (eVar 0) (eK (.str "0"))) (A9 oNe (A9 ak0 (eVar 0) (eK (.int 0))) (eK (.str "0"))))))
def J6:ED:=Z5 (ap1 (eVar 0)) (bst [none]) (gName 0) Z4 (J8 G1 (aCons (eVar 0) aNil))
def f_read_numbers_c2:ED:=Z5 (ap1 (eVar 0)) (bst [none]) (gName 0) Z4 (af8 (eVar 0))
def D4:Fun:=fn 1 1
 (C6 (sIf (tNot (E8 (ay2 J6)))
 (sRet (eK .non))
 E7)
 (sRet f_read_numbers_c2))
def D3:Fun:=fn 5 1
 (C6 (E9 (T4 (eVar 0) (eK (.str " "))) (gName 1))
 (C6 (E9 (J8 D4 (aCons (A9 N4 (V6 (eVar 1) lNo (lAt (eK (.int 1)))) (V6 (eVar 1) (lAt (eK (.int 2))) lNo)) aNil)) (gName 2))
 (C6 (sIf (tOr (E8 (ap0 (eVar 2))) (E8 (A9 oLt (t6 (eVar 2)) (eK (.int 3)))))
 (sRet (eK .non))
 E7)
 (C6 (E9 (U1 (aCons (A9 oIx (eVar 2) (eK (.int 1))) (aCons (A9 oIx (eVar 2) (eK (.int 2))) aNil))) (gName 3))
 (C6 (E9 (Z6 (V6 (eVar 2) (lAt (eK (.int 3))) lNo)) (gName 4))
 (C6 (sIf (tAnd (E8 (A9 oEq (A9 oIx (eVar 1) (eK (.int 1))) (eK (.str "lay")))) (E8 (A9 oEq (eVar 4) (U1 aNil))))
 (sRet (U1 (aCons (A9 oIx (eVar 2) (eK (.int 0))) (aCons (U1 (aCons (eK (.str "lay")) (aCons (eVar 3) aNil))) aNil))))
 E7)
 (C6 (sIf (tAnd (E8 (A9 oEq (A9 oIx (eVar 1) (eK (.int 1))) (eK (.str "say")))) (E8 (A9 oNe (eVar 4) (U1 aNil))))
 (sRet (U1 (aCons (A9 oIx (eVar 2) (eK (.int 0))) (aCons (U1 (aCons (eK (.str "say")) (aCons (eVar 3) (aCons (eVar 4) aNil)))) aNil))))
 E7)
 (sRet (eK .non)))))))))
def f_read_deeds_b1:SD:=
 (C6 (E9 (J8 D3 (aCons (eVar 4) aNil)) (gName 5))
 (C6 (sIf (tOr (E8 (ap0 (eVar 5))) (E8 (A9 oLt (A9 oIx (eVar 5) (eK (.int 0))) (eVar 2))))
 ap2
 E7)
 (C6 (E9 (A9 oIx (eVar 5) (eK (.int 0))) (gName 2))
 (S5 (P3 (eVar 1) (eVar 5))))))
def f_read_deeds_l1:SD:=U2 (ax9 1 (T4 (eVar 0) (eK (.str "\n")))) (gTup 2 (gCons (gName 3) (gCons (gName 4) gNil))) f_read_deeds_b1
def E3:Fun:=fn 6 1
 (C6 (sIf (E8 (A9 oEq (eVar 0) (eK (.str ""))))
 (sRet (L7 aNil))
 E7)
 (C6 (E9 (L7 aNil) (gName 1))
 (C6 (E9 (eK (.int 1)) (gName 2))
 (C6 f_read_deeds_l1
 (sRet (eVar 1))))))
def x_read_deeds_b1:SD:=
 (C6 (Z7 (E9 (J8 D3 (aCons (eVar 4) aNil)) (gName 5)))
 (C6 (sIf (ay3 (tOr (E8 (ap0 (eVar 5))) (E8 (A9 oLt (A9 oIx (eVar 5) (eK (.int 0))) (eVar 2)))))
 (t9 17 (aCons (eVar 3) aNil))
 (Z7 E7))
 (C6 (Z7 (E9 (A9 oIx (eVar 5) (eK (.int 0))) (gName 2)))
 (Z7 (S5 (P3 (eVar 1) (eVar 5)))))))
def x_read_deeds_l1:SD:=U2 (ay4 (ax9 1 (T4 (eVar 0) (eK (.str "\n"))))) (Z8 (gTup 2 (gCons (gName 3) (gCons (gName 4) gNil)))) x_read_deeds_b1
def G3:Fun:=fn 6 1
 (C6 (Z7 (sIf (E8 (A9 oEq (eVar 0) (eK (.str ""))))
 (sRet (L7 aNil))
 E7))
 (C6 (Z7 (E9 (L7 aNil) (gName 1)))
 (C6 (Z7 (E9 (eK (.int 1)) (gName 2)))
 (C6 x_read_deeds_l1
 (Z7 (sRet (eVar 1)))))))
def D0:Fun:=fn 2 2
 (C6 (sIf (E8 (A9 oLt (eVar 1) (t6 (eVar 0))))
 (sRet (A9 oIx (eVar 0) (eVar 1)))
 E7)
 (sRet (eK (.int 0))))
def Q3:SD:=
 (C6 (S5 (P3 (eVar 2) (A9 M1 (eVar 3) (eK (.int 5040)))))
 (E9 (A9 Z1 (eVar 3) (eK (.int 5040))) (gName 3)))
def J0:SD:=U2 (iRng1 (eVar 1)) (gName 4) Q3
def Q4:SD:=
 (C6 (E9 (A9 M1 (A9 N4 (A9 N4 (A9 aI4 (eVar 5) (A9 N4 (A9 Z1 (eVar 5) (eK (.int 1009))) (eK (.int 69621)))) (eVar 4)) (eK (.int 1))) (eK (.int 2147483647))) (gName 5))
 (S5 (P3 (eVar 2) (eVar 5))))
def J1:SD:=U2 (iRng1 (eVar 1)) (gName 4) Q4
def E4:Fun:=fn 6 2
 (C6 (E9 (L7 aNil) (gName 2))
 (C6 (sIf (E8 (A9 oEq (A9 M1 (eVar 0) (eK (.int 2))) (eK (.int 1))))
 (C6 (E9 (A9 Z1 (eVar 0) (eK (.int 2))) (gName 3))
 (C6 J0
 (sRet (eVar 2))))
 E7)
 (C6 (E9 (A9 M1 (A9 N4 (A9 aI4 (eVar 0) (eK (.int 48271))) (eK (.int 7919))) (eK (.int 2147483647))) (gName 5))
 (C6 J1
 (sRet (eVar 2))))))
def S9:ED:=Z5 (iRng1 (A9 N4 (eK (.int 1)) (A9 M1 (A9 Z1 (A9 oIx (eVar 4) (eK (.int 3))) (eK (.int 3))) (eK (.int 6))))) (bst [none,some 4]) (gName 0) Z4 (ad2 (A9 M1 (A9 oIx (eVar 1) (A9 N4 (eK (.int 4)) (eVar 0))) (eK (.int 6))))
def f_law_rows_b1:SD:=
 (C6 (E9 (J8 E4 (aCons (A9 N4 (J8 D0 (aCons (eVar 0) (aCons (eK (.int 1)) aNil))) (eVar 3)) (aCons (eK (.int 10)) aNil))) (gName 4))
 (C6 (E9 (A9 N4 (eVar 2) (A9 M1 (A9 oIx (eVar 4) (eK (.int 0))) (eK (.int 4)))) (gName 2))
 (C6 (E9 (L7 (aCons (ad2 (eVar 2)) (aCons (eK (.str "lay")) (aCons (ad2 (A9 M1 (A9 oIx (eVar 4) (eK (.int 1))) (eK (.int 6)))) (aCons (ad2 (A9 M1 (A9 oIx (eVar 4) (eK (.int 2))) (eK (.int 6)))) aNil))))) (gName 5))
 (C6 (sIf (E8 (A9 oGt (A9 M1 (A9 oIx (eVar 4) (eK (.int 3))) (eK (.int 3))) (eK (.int 0))))
 (C6 (E9 (eK (.str "say")) (gIx (eVar 5) (eK (.int 1))))
 (E9 (A9 N4 (eVar 5) S9) (gName 5)))
 E7)
 (S5 (P3 (eVar 1) (S7 (eK (.str " ")) (eVar 5))))))))
def T1:SD:=U2 (iRng1 (A9 N4 (eK (.int 1)) (A9 M1 (J8 D0 (aCons (eVar 0) (aCons (eK (.int 0)) aNil))) (eK (.int 12))))) (gName 3) f_law_rows_b1
def K4:Fun:=fn 6 1
 (C6 (E9 (L7 aNil) (gName 1))
 (C6 (E9 (eK (.int 2)) (gName 2))
 (C6 T1
 (sRet (eVar 1)))))
def M4:Fun:=fn 5 3
 (C6 (E9 (T4 (eVar 0) (eK (.str " "))) (gName 3))
 (C6 (E9 (A9 oIx (L7 (aCons (eK (.str "")) (aCons (eK (.str "x")) (aCons (eK (.str "-1")) (aCons (eK (.str "+1")) (aCons (eK (.str "01")) (aCons (eK (.str "00")) (aCons (eK (.str "1000000000")) (aCons (eK (.str "2x")) aNil))))))))) (A9 M1 (eVar 2) (eK (.int 8)))) (gName 4))
 (C6 (sIf (tAnd (E8 (A9 oEq (eVar 1) (eK (.int 0)))) (E8 (A9 oEq (A9 oIx (eVar 3) (eK (.int 1))) (eK (.str "lay")))))
 (sRet (A9 z8 (eVar 0) (A9 oIx (L7 (aCons (eK (.str " x")) (aCons (eK (.str " ")) (aCons (eK (.str " -1")) (aCons (eK (.str " 01")) (aCons (eK (.str " 0")) (aCons (eK (.str " 1 2")) aNil))))))) (A9 M1 (eVar 2) (eK (.int 6))))))
 E7)
 (C6 (sIf (E8 (A9 oEq (eVar 1) (eK (.int 0))))
 (sRet (A9 z8 (eVar 0) (A9 oIx (L7 (aCons (eK (.str " x")) (aCons (eK (.str " ")) (aCons (eK (.str " -1")) (aCons (eK (.str " 01")) aNil))))) (A9 M1 (eVar 2) (eK (.int 4))))))
 E7)
 (C6 (sIf (E8 (A9 oEq (eVar 1) (eK (.int 1))))
 (sRet (S7 (eK (.str " ")) (V6 (eVar 3) lNo (lAt (A9 M1 (eVar 2) (A9 N4 (eK (.int 4)) (ap8 (A9 oEq (A9 oIx (eVar 3) (eK (.int 1))) (eK (.str "say"))))))))))
 E7)
 (C6 (sIf (E8 (A9 oEq (eVar 1) (eK (.int 2))))
 (sRet (S7 (eK (.str " ")) (A9 N4 (A9 N4 (V6 (eVar 3) lNo (lAt (eK (.int 1)))) (L7 (aCons (A9 oIx (L7 (aCons (eK (.str "Lay")) (aCons (eK (.str "says")) (aCons (eK (.str "")) (aCons (eK (.str "pass")) (aCons (eK (.str "7")) aNil)))))) (A9 M1 (eVar 2) (eK (.int 5)))) aNil))) (V6 (eVar 3) (lAt (eK (.int 2))) lNo))))
 E7)
 (C6 (sIf (E8 (A9 oEq (eVar 1) (eK (.int 3))))
 (sRet (ad3 (eVar 0) " " "  "))
 E7)
 (C6 (sIf (E8 (A9 oEq (eVar 1) (eK (.int 4))))
 (sRet (S7 (eK (.str " ")) (A9 N4 (V6 (eVar 3) lNo (lAt (eK (.int (-1))))) (L7 (aCons (eVar 4) aNil)))))
 E7)
 (C6 (sIf (E8 (A9 oEq (eVar 1) (eK (.int 5))))
 (sRet (S7 (eK (.str " ")) (A9 N4 (L7 (aCons (A9 oIx (L7 (aCons (eK (.str "0")) (aCons (eK (.str "x")) (aCons (eK (.str "-2")) (aCons (eK (.str "02")) (aCons (eK (.str "1000000000")) aNil)))))) (A9 M1 (eVar 2) (eK (.int 5)))) aNil)) (V6 (eVar 3) (lAt (eK (.int 1))) lNo))))
 E7)
 (sRet (S7 (eK (.str " ")) (A9 N4 (A9 N4 (V6 (eVar 3) lNo (lAt (eK (.int 2)))) (L7 (aCons (eVar 4) aNil))) (V6 (eVar 3) (lAt (eK (.int 3))) lNo)))))))))))))
def G7:Fun:=fn 7 4
 (C6 (sIf (E8 (A9 oEq (eVar 2) (eK (.int 7))))
 (C6 (E9 (A9 M1 (eVar 3) (A9 K0 (t6 (eVar 0)) (eK (.int 1)))) (gName 1))
 (C6 (E9 (A9 M1 (A9 Z1 (eVar 3) (A9 K0 (t6 (eVar 0)) (eK (.int 1)))) (eK (.int 2))) (gName 4))
 (sRet (U1 (aCons (A9 K0 (A9 K0 (X3 (eVar 0) lNo (lAt (eVar 1))) (L7 (aCons (A9 oIx (L7 (aCons (eK (.str "")) (aCons (eK (.str " ")) aNil))) (eVar 4)) aNil))) (X3 (eVar 0) (lAt (eVar 1)) lNo)) (aCons (A9 K0 (eVar 1) (eK (.int 1))) aNil))))))
 E7)
 (C6 (sIf (E8 (A9 oEq (eVar 2) (eK (.int 8))))
 (C6 (E9 (af8 (A9 oIx (T4 (A9 oIx (eVar 0) (eVar 1)) (eK (.str " "))) (eK (.int 0)))) (gName 5))
 (C6 (E9 (ad2 (A9 K0 (eK (.int 1)) (A9 M1 (eVar 3) (A9 aI3 (eVar 5) (eK (.int 1)))))) (gName 6))
 (sRet (U1 (aCons (A9 K0 (A9 K0 (X3 (eVar 0) lNo (lAt (A9 K0 (eVar 1) (eK (.int 1))))) (L7 (aCons (A9 z8 (eVar 6) (eK (.str " lay 0 1"))) aNil))) (X3 (eVar 0) (lAt (A9 K0 (eVar 1) (eK (.int 1)))) lNo)) (aCons (A9 K0 (eVar 1) (eK (.int 2))) aNil))))))
 E7)
 (sRet (U1 (aCons (A9 K0 (A9 K0 (X3 (eVar 0) lNo (lAt (eVar 1))) (L7 (aCons (J8 M4 (aCons (A9 oIx (eVar 0) (eVar 1)) (aCons (eVar 2) (aCons (eVar 3) aNil)))) aNil))) (X3 (eVar 0) (lAt (A9 K0 (eVar 1) (eK (.int 1)))) lNo)) (aCons (A9 K0 (eVar 1) (eK (.int 1))) aNil))))))
def G8:Fun:=fn 3 1
 (C6 (E9 (eK .non) (gName 1))
 (C6 (ap7 [7,12,17] (S5 (V8 G3 (aCons (eVar 0) aNil))) [(7,some 2,(E9 (U1 (aCons (eAt [7,12,17] (eVar 2)) (aCons (ay5 [7,12,17] (eVar 2) 17) (aCons (ay5 [7,12,17] (eVar 2) 12) aNil)))) (gName 1)))])
 (sRet (eVar 1))))
def f_law_b1:SD:=
 (C6 (E9 (J8 E4 (aCons (eVar 2) (aCons (eK (.int 3)) aNil))) (gName 3))
 (C6 (E9 (J8 G7 (aCons (eVar 1) (aCons (A9 M1 (A9 oIx (eVar 3) (eK (.int 0))) (t6 (eVar 1))) (aCons (A9 M1 (A9 oIx (eVar 3) (eK (.int 1))) (eK (.int 9))) (aCons (A9 oIx (eVar 3) (eK (.int 2))) aNil))))) (gTup 2 (gCons (gName 4) (gCons (gName 5) gNil))))
 (sIf (E8 (A9 oEq (eVar 4) (L7 (aCons (eK (.str "")) aNil))))
 (sIf (E8 (A9 oNe (J8 E3 (aCons (eK (.str "")) aNil)) (L7 aNil)))
 (sRet (eK (.bl false)))
 E7)
 (sIf (E8 (A9 aI7 (J8 G8 (aCons (S7 (eK (.str "\n")) (eVar 4)) aNil)) (U1 (aCons (eVar 5) (aCons (eK (.bl true)) (aCons (eK (.bl false)) aNil))))))
 (sRet (eK (.bl false)))
 E7))))
def f_law_l1:SD:=U2 (ap1 (V6 (eVar 0) (lAt (eK (.int 2))) (lAt (eK (.int 30))))) (gName 2) f_law_b1
def ai0:Fun:=fn 6 1
 (C6 (E9 (J8 K4 (aCons (eVar 0) aNil)) (gName 1))
 (C6 (sIf (E8 (A9 oNe (t6 (J8 E3 (aCons (S7 (eK (.str "\n")) (eVar 1)) aNil))) (t6 (eVar 1))))
 (sRet (eK (.bl false)))
 E7)
 (C6 f_law_l1
 (sRet (eK (.bl true))))))
end Ws
namespace Ws
open PySem PySem.StrLaws PySem.Builtin PySem.Builtin.Str
def one (c:Nat):Str:=⟨#[c]⟩
theorem i5 (x:Str) (c limit:Nat):∀(l:List Nat) (st:Array Nat×Nat),(∀i∈l,st.2<=i)->l.Pairwise (·< ·)->st.1.size+l.length<=limit->
 (forIn l st (occBody x (one c) x.length limit)).run.fst.toList=st.1.toList++l.filter (λi=>x.cps.toList[i]? == some c)
 | [],st,_,_,_=>by simp
 | a::l,st,hf,hp,hl=>by
   rw [List.forIn_cons]
   unfold occBody
   have hp2:=List.pairwise_cons.mp hp
   have key:=subAt_one x c a
   by_cases h:x.cps.toList[a]?=some c
   ·have k:=key.mpr h
    rw [if_pos ⟨⟨⟨by simp only [List.length_cons] at hl;omega,hf a (List.mem_cons_self ..)⟩,k.1⟩,k.2⟩]
    have ih:=i5 x c limit l (st.1.push a,a+(one c).length) (λi hi=>by have:=hp2.1 i hi;show a+1<=i;omega) hp2.2 (by simp only [List.length_cons] at hl;simp;omega)
    refine ih.trans ?_
    have:(x.cps.toList[a]? == some c)=true:=by rw [h];simp
    rw [List.filter_cons,this];simp
   ·rw [if_neg λk=>h (key.mp ⟨k.1.2,k.2⟩)]
    have ih:=i5 x c limit l (st.1,st.2) (λi hi=>hf i (List.mem_cons_of_mem _ hi)) hp2.2 (by simp only [List.length_cons] at hl;show st.1.size+l.length<=limit;omega)
    refine ih.trans ?_
    have:(x.cps.toList[a]? == some c)=false:=by simpa using h
    rw [List.filter_cons,this];simp
theorem ai1 (x:Str) (c:Nat):occurrences x (one c) 0 x.length (x.length+1)=(List.range' 0 x.length).filter λi=>x.cps.toList[i]? == some c:=by
 rw [occ_eq,i5 x c (x.length+1) _ _ (λi _=>Nat.zero_le i) List.pairwise_lt_range' (by simp)]
 show []++_=_
 rw [List.nil_append,Nat.sub_zero,List.range'_concat,List.filter_append]
 have:(x.cps.toList[0+1*x.length]? == some c)=false:=by rw [List.getElem?_eq_none (by simp [Str.length])];rfl
 rw [List.filter_cons,this];simp
def D5 (c:Nat):List (List Nat)->List Nat
 | []=>[]
 | [w]=>w
 | w::v::r=>w++c::D5 c (v::r)
theorem ai2 {c:Nat} {L:List Nat} {a:Nat}:∀{n:Nat},(∀i,a<=i->i<a+n->L[i]?≠some c)->(List.range' a n).filter (λi=>L[i]? == some c)=[]:=λh=>by
 rw [List.filter_eq_nil_iff]
 intro i hi
 have:=List.mem_range'_1.mp hi
 simpa using h i this.1 this.2
theorem X4 (x:Str) (c:Nat):∀(ws:List (List Nat)),ws≠[]->(∀w∈ws,c∉w)->∀(P:List Nat),x.cps.toList=P++D5 c ws->
 (partsFrom x 1 P.length ((List.range' P.length (x.length - P.length)).filter λi=>x.cps.toList[i]? == some c)).map (λy=>y.cps.toList)=ws
 | [],h,_,_,_=>absurd rfl h
 | [w],_,hw,P,hx=>by
   have hn:x.length=P.length+w.length:=by
    have:=congrArg List.length hx
    simpa [D5,Str.length] using this
   rw [ai2 (c:=c) λi h1 h2 h3=>?_]
   ·simp only [partsFrom,List.map_cons,List.map_nil,strSub_toList,hx,hn]
    simp [D5]
   ·rw [hx,List.getElem?_append_right h1] at h3
    exact hw w (List.mem_cons_self ..) (List.mem_of_getElem? h3)
 | w::v::r,_,hw,P,hx=>by
   have hx':x.cps.toList=(P++w++[c])++D5 c (v::r):=by rw [hx];simp [D5]
   have hn:x.length=P.length+w.length+1+(D5 c (v::r)).length:=by
    have:=congrArg List.length hx'
    simp only [Str.length,List.length_append,List.length_cons,List.length_nil,Array.length_toList] at this ⊢;omega
   have ih:=X4 x c (v::r) (by simp) (λu hu=>hw u (List.mem_cons_of_mem _ hu)) (P++w++[c]) hx'
   have hl:(P++w++[c]).length=P.length+w.length+1:=by simp;omega
   rw [hl] at ih
   have hs:x.length - P.length=w.length+(1+(x.length - (P.length+w.length+1))):=by omega
   rw [hs,←List.range'_append_1,←List.range'_append_1,List.filter_append,List.filter_append,ai2 (c:=c) (n:=w.length) λi h1 h2 h3=>?_]
   ·have hc:x.cps.toList[P.length+w.length]?=some c:=by
     rw [hx',List.getElem?_append_left (by simp),List.getElem?_append_right (by simp)];simp
    have e1:(List.range' (P.length+w.length) 1).filter (λi=>x.cps.toList[i]? == some c)=[P.length+w.length]:=by
     have:(x.cps.toList[P.length+w.length]? == some c)=true:=by rw [hc];simp
     show List.filter _ [P.length+w.length]=_
     rw [List.filter_cons,this];rfl
    rw [e1]
    simp only [List.nil_append,List.singleton_append,partsFrom,List.map_cons,ih,strSub_toList]
    congr 1
    rw [hx]
    simp [D5]
   ·rw [hx',List.append_assoc,List.append_assoc,List.getElem?_append_right h1,List.getElem?_append_left (by omega)] at h3
    exact hw w (List.mem_cons_self ..) (List.mem_of_getElem? h3)
theorem V0 {a b:Str} (h:a.cps.toList=b.cps.toList):a=b:=Str.ext' (Array.toList_inj.mp h)
theorem J2 (c:Nat):∀ws:List Str,(Str.join (one c) ws).cps.toList=D5 c (ws.map λw=>w.cps.toList)
 | []=>rfl
 | [w]=>rfl
 | w::v::r=>by
   show (w++one c++Str.join (one c) (v::r)).cps.toList=_
   rw [Str.cps_append,Str.cps_append,Array.toList_append,Array.toList_append,J2 c (v::r)]
   simp [D5,one]
theorem ae6 (c:Nat) (hc:c<256) (ws:List Str) (h0:ws≠[]) (hw:∀w∈ws,c∉w.cps.toList) :
 Txt.split (Txt.join (one c) ws) (one c)=ws/\partsBetween (Txt.join (one c) ws) (occurrences (Txt.join (one c) ws) (one c) 0 (Txt.join (one c) ws).length ((Txt.join (one c) ws).length+1)) (one c).length=ws:=by
 have hj:Txt.join (one c) ws=Str.join (one c) ws:=glued_eq_join _ _
 generalize Txt.join (one c) ws=x at hj ⊢
 have hx:x.cps.toList=[]++D5 c (ws.map λw=>w.cps.toList):=by rw [hj,J2];rfl
 have key:=X4 x c (ws.map λw=>w.cps.toList) (by simpa using h0) (λw hm=>by
  obtain⟨v,hv,rfl⟩:=List.mem_map.mp hm
  exact hw v hv) [] hx
 have e:partsBetween x (occurrences x (one c) 0 x.length (x.length+1)) (one c).length=ws:=by
  rw [partsBetween_eq,ai1]
  have inj:∀{l m:List Str},l.map (λy=>y.cps.toList)=m.map (λy=>y.cps.toList)->l=m:=λ{l}=>by
   induction l with
   | nil=>intro m h;cases m with | nil=>rfl | cons _ _=>cases h
   | cons a l ih=>
     intro m h
     cases m with
     | nil=>cases h
     | cons b m=>
       have h:=List.cons.inj h
       rw [V0 h.1,ih h.2]
  exact inj key
 have e1:occurrences x (one c) 0 x.length (x.length+1)=[]->[x]=ws:=λe0=>by
  rw [e0,partsBetween_eq] at e
  have:strSub x 0 x.length=x:=sub_whole x
  simpa [partsFrom,this] using e
 refine⟨?_,e⟩
 unfold Txt.split
 split
 ·rename_i hb
  refine e1 ?_
  have k1:Str.strKind (one c)=1:=by simp [Str.strKind,one,hc]
  have k2:1<=Str.strKind x:=by unfold Str.strKind;split <;> (try split) <;> decide
  have hz:x.length=0:=by
   have:x.length<(one c).length\/Str.strKind x<Str.strKind (one c):=by simpa using hb
   rcases this with h | h
   ·have:(one c).length=1:=rfl
    omega
   ·omega
  rw [ai1,hz];rfl
 ·split
  ·rename_i hemp
   exact e1 (by simpa using hemp)
  ·exact e
end Ws
namespace Ws
open PySem
def num (n:Nat):Str:=Str.ofString (toString ((n:Nat):Int))
theorem V1 (n:Nat):(num n).cps.toList=(Nat.toDigits 10 n).map Char.toNat:=PySem.W.KIN.signs_num n
theorem num_dig {n c:Nat} (h:c∈(num n).cps.toList):48<=c/\c<=57:=by
 rw [V1] at h
 obtain⟨ch,hch,e⟩:=List.mem_map.mp h
 have r:=PyProof.Rows.digit_range (Nat.isDigit_of_mem_toDigits (by decide) (by decide) hch)
 rw [←e];exact r
theorem R7 {n:Nat} (h:n<1000000000):1<=(num n).length/\(num n).length<=9:=by
 have e:(num n).length=(Nat.toDigits 10 n).length:=by
  rw [←List.length_map (f:=Char.toNat),←V1];simp [Str.length]
 rw [e]
 exact⟨PySem.toDigits_len_ge 10 n,PySem.toDigits_len_pow (by decide) (by decide) (Nat.lt_of_lt_of_le h (by decide))⟩
theorem av1 (n:Nat) (h0:n≠0):∃c cs,(num n).cps.toList=c::cs/\c≠48:=by
 induction n using Nat.strongRecOn with
 | _ m ih=>
   by_cases h:m<10
   ·refine⟨(Nat.digitChar m).toNat,[],by rw [V1,Nat.toDigits_of_lt_base h];rfl,?_⟩
    have:∀d:Nat,d<10->d≠0->(Nat.digitChar d).toNat≠48:=by decide
    exact this m h h0
   ·have hm:m%10<10:=Nat.mod_lt m (by decide)
    have t:Nat.toDigits 10 (m / 10)++Nat.toDigits 10 (m%10)=Nat.toDigits 10 (10*(m / 10)+m%10):=Nat.toDigits_append_toDigits (by decide) (by omega) hm
    rw [Nat.div_add_mod] at t
    obtain⟨c,cs,e,hc⟩:=ih (m / 10) (by omega) (by omega)
    rw [V1] at e
    refine⟨c,cs++(Nat.toDigits 10 (m%10)).map Char.toNat,?_,hc⟩
    rw [V1,←t,List.map_append,e];rfl
theorem ab4:num 0="0":=by decide +kernel
theorem aB8 {n:Nat} (h:n<1000000000):intText? (num n)=some (n:Int):=PySem.W.KIN.num_reads (by omega) (by omega)
end Ws
namespace Ws
open PySem PySem.StrLaws
section
variable {A:PHp} {Q:PV->PHp->Prop} {QI:It->PHp->Prop} {E:XP} {σ:PSt} {e e1 e2:ED}
theorem w_strE (h:Wp (e σ) A (λx A1=>∃n:Nat,x=.int n/\n<1000000000/\Q (.str (num n)) A1) E):Wp (ad2 e σ) A Q E:=
 A7 (w_mono h λx A1 ⟨n,hx,hn,q⟩=>by
  subst hx
  exact C4 (by show ((n:Int)).natAbs<_;omega) q)
theorem w_intT (h:Wp (e σ) A (λx A1=>∃n:Nat,x=.str (num n)/\n<1000000000/\Q (.int n) A1) E):Wp (af8 e σ) A Q E:=
 A7 (w_mono h λx A1 ⟨n,hx,hn,q⟩=>by
  subst hx
  show Wp (match intText? (num n) with | some k=>C3 ((num n).length<=640) (ret (.int k)) | none=>stuck) A1 Q E
  rw [aB8 hn]
  exact C4 (Nat.le_trans (R7 hn).2 (by decide)) q)
theorem i6:∀ys:List Str,P7 (ys.map .str)=some ys
 | []=>rfl
 | y::ys=>by show (P7 (ys.map .str)).map _=_;rw [i6 ys];rfl
theorem w_join (h:Wp (e1 σ) A (λx A1=>∃z,x=.str z/\Wp (e2 σ) A1 (λy A2=>∃n ys,y=.ref n/\A2[n]?=some (.lst (ys.map .str))/\(z.length<=16/\(ys.map (·.length)).sum+ys.length<=1048576)/\Q (.str (Txt.join z ys)) A2) E) E):Wp (S7 e1 e2 σ) A Q E:=
 A7 (w_mono h λx A1 ⟨z,hx,h1⟩=>by
  subst hx
  exact A7 (w_mono h1 λy A2 ⟨n,ys,hy,hn,hl,q⟩=>by
   subst hy
   refine A7 (M3 hn ?_)
   rw [i6]
   exact C4 hl q))
theorem w_split (h:Wp (e1 σ) A (λx A1=>∃z,x=.str z/\Wp (e2 σ) A1 (λy A2=>∃c ws,y=.str (one c)/\z=Txt.join (one c) ws/\(c<256/\ws≠[]/\(∀w∈ws,c∉w.cps.toList)/\z.length<=LIM/\ws.length<=LIM)/\Q (.ref A2.length) (A2++[.lst (ws.map .str)])) E) E):Wp (T4 e1 e2 σ) A Q E:=
 A7 (w_mono h λx A1 ⟨z,hx,h1⟩=>by
  subst hx
  exact A7 (w_mono h1 λy A2 ⟨c,ws,hy,hz,⟨hc,h0,hw,hl,hl2⟩,q⟩=>by
   subst hy
   obtain⟨s1,s2⟩:=ae6 c hc ws h0 hw
   rw [←hz] at s1 s2
   refine C4 ⟨rfl,hl,by rw [s1];exact hl2,by rw [s2];exact hl2⟩ ?_
   rw [s1]
   exact q))
theorem w_addS {x y:Str} (h:x.length+y.length<=LIM) (q:Q (.str (x++y)) A):Wp (z8 (.str x) (.str y)) A Q E:=C4 h q
theorem w_inS {c:Nat} {y:Str} (q:Q (.bl (decide (c∈y.cps.toList))) A):Wp (aI8 (.str ⟨#[c]⟩) (.str y)) A Q E:=by
 show Q (.bl (!(Builtin.Str.occurrences y ⟨#[c]⟩ 0 y.length 1).isEmpty)) A
 rw [found_one];exact q
theorem w_lenS (h:Wp (e σ) A (λx A1=>∃z,x=.str z/\z.length<=LIM/\Q (.int z.length) A1) E):Wp (ap9 e σ) A Q E:=
 A7 (w_mono h λx A1 ⟨z,hx,hl,q⟩=>by subst hx;exact C4 hl q)
theorem w_ixS {z:Str} {i:Int} {c:Nat} (hi:atI z.cps.toList i=some c) (hl:z.length<=LIM) (q:Q (.str ⟨#[c]⟩) A):Wp (ak0 (.str z) (.int i)) A Q E:=by
 show Wp (match atI z.cps.toList i with | some c=>C3 (z.length<=LIM) (ret (.str ⟨#[c]⟩)) | none=>stuck) A Q E
 rw [hi];exact C4 hl q
theorem w_istr (h:Wp (e σ) A (λx A1=>∃z,x=.str z/\z.cps.all (·< 128)=true/\QI (.fix (z.cps.toList.map λc=>.str ⟨#[c]⟩)) A1) E):Wp (aI9 e σ) A QI E:=
 A7 (w_mono h λx A1 ⟨z,hx,hl,q⟩=>by subst hx;exact C4 hl q)
theorem w_ienk {k:Nat} (h:Wp (e σ) A (λx A1=>∃n l,x=.ref n/\C7 n A1=.ok l A1/\QI (.enk k n) A1) E):Wp (ax9 k e σ) A QI E:=A7 (w_mono h λx A1 ⟨n,l,hx,h2,q⟩=>by
 subst hx
 exact A7 (w_eq h2 q))
theorem ai3 (x y:Str):eqv (.str x) (.str y)=decide (x=y):=by simp [eqv]
theorem w_eqS2 {x y:Str} (q:Q (.bl (decide (x=y))) A):Wp (oEq (.str x) (.str y)) A Q E:=aR1 rfl rfl (by rw [ai3];exact q)
theorem w_neS2 {x y:Str} (q:Q (.bl (!decide (x=y))) A):Wp (oNe (.str x) (.str y)) A Q E:=aR2 rfl rfl (by rw [ai3];exact q)
end
end Ws
local macro_rules | `(tactic| walk_at "s1")=>`(tactic| first
 | with_reducible refine Ws.w_strE ?_
 | with_reducible refine Ws.w_intT ?_
 | with_reducible refine Ws.w_join ?_
 | with_reducible refine Ws.w_split ?_
 | with_reducible refine Ws.w_lenS ?_
 | with_reducible refine Ws.w_istr ?_
 | with_reducible refine Ws.w_ienk ?_)
local macro_rules | `(tactic| walk_at "s2")=>`(tactic| first
 | with_reducible refine Ws.w_inS ?_
 | with_reducible refine Ws.w_eqS2 ?_
 | with_reducible refine Ws.w_neS2 ?_)
namespace Ws
theorem ab5 {e:ED} {σ:PSt} {A A1:PHp} {m k:Nat} (hm:m<=k) (h:e σ A=.ok (.int m) A1) (hk:k<=1000000:=by decide):iRng1 e σ A=.ok (.rng 0 m) A1:=by
 show bnd (e σ) _ A=_
 rw [bnd_ok h]
 show C3 (-(2 ^ 62)<=(m:Int)/\(m:Int)<2 ^ 62) _ A1=_
 rw [J4 (by omega)]
 rfl
theorem al4 (c:Int) (m:Nat) (hm:m<=64) (d:Int) (A:PHp):∃(σ:PSt) (xs:List Int),xs.length=m/\(∀x∈xs,(0:Int)<=x)/\σ[2]?=some (some (.ref A.length))/\
 J0 [some (.int c),some (.int m),some (.ref A.length),some (.int d),none,none] (A++[.lst []])=.ok (.nx σ) (A++[.lst (xs.map .int)]):=by
 have h:Comes (J0 [some (.int c),some (.int m),some (.ref A.length),some (.int d),none,none] (A++[.lst []]))
  (λσ A'=>∃(xs:List Int) (d:Int) (k:Option PV),xs.length=m/\(∀x∈xs,(0:Int)<=x)/\σ=[some (.int c),some (.int m),some (.ref A.length),some (.int d),k,none]/\A'=A++[.lst (xs.map .int)]) (λ_ _=>False):=by
  unfold J0
  refine z4 (lo:=0) (n:=m) (A1:=A++[.lst []]) (ab5 hm (by rfl)) (λi σ A'=>∃(xs:List Int) (d:Int) (k:Option PV),xs.length=i/\(∀x∈xs,(0:Int)<=x)/\σ=[some (.int c),some (.int m),some (.ref A.length),some (.int d),k,none]/\A'=A++[.lst (xs.map .int)]) ⟨[],d,none,rfl,by simp,rfl,rfl⟩ ?_ (λ_ _ h=>h)
  rintro i σ A' hi ⟨xs,d,k,hl,hx,rfl,rfl⟩
  have hlim:xs.length<LIM:=lim_lt (by omega)
  refine Turns.nx ?_ ⟨xs++[d%5040],d / 5040,some (.int i),by simp [hl],?_,rfl,rfl⟩
  ·simp [Q3,hlim,z6]
  ·intro x hx'
   rcases List.mem_append.mp hx' with h | h
   ·exact hx x h
   ·simp at h;subst h;exact Int.emod_nonneg _ (by decide)
 obtain⟨σ,A',e,xs,d,k,h1,h2,rfl,rfl⟩:=h.end
 exact⟨_,xs,h1,h2,rfl,e⟩
theorem al5 (c:Int) (m:Nat) (hm:m<=64) (z:Int) (hz:0<=z/\z<2147483647) (A:PHp):∃(σ:PSt) (xs:List Int),xs.length=m/\(∀x∈xs,(0:Int)<=x)/\σ[2]?=some (some (.ref A.length))/\
 J1 [some (.int c),some (.int m),some (.ref A.length),none,none,some (.int z)] (A++[.lst []])=.ok (.nx σ) (A++[.lst (xs.map .int)]):=by
 have h:Comes (J1 [some (.int c),some (.int m),some (.ref A.length),none,none,some (.int z)] (A++[.lst []]))
  (λσ A'=>∃(xs:List Int) (z:Int) (k:Option PV),xs.length=m/\(∀x∈xs,(0:Int)<=x)/\(0<=z/\z<2147483647)/\σ=[some (.int c),some (.int m),some (.ref A.length),none,k,some (.int z)]/\A'=A++[.lst (xs.map .int)]) (λ_ _=>False):=by
  unfold J1
  refine z4 (lo:=0) (n:=m) (A1:=A++[.lst []]) (ab5 hm (by rfl)) (λi σ A'=>∃(xs:List Int) (z:Int) (k:Option PV),xs.length=i/\(∀x∈xs,(0:Int)<=x)/\(0<=z/\z<2147483647)/\σ=[some (.int c),some (.int m),some (.ref A.length),none,k,some (.int z)]/\A'=A++[.lst (xs.map .int)]) ⟨[],z,none,rfl,by simp,hz,rfl,rfl⟩ ?_ (λ_ _ h=>h)
  rintro i σ A' hi ⟨xs,z,k,hl,hx,hz,rfl,rfl⟩
  have hlim:xs.length<LIM:=lim_lt (by omega)
  have hb:(-(18446744073709551616)<z/\z<18446744073709551616):=by omega
  refine Turns.nx ?_ ⟨xs++[(z*(z / 1009+69621)+i+1)%2147483647],(z*(z / 1009+69621)+i+1)%2147483647,some (.int i),by simp [hl],?_,⟨Int.emod_nonneg _ (by decide),Int.emod_lt_of_pos _ (by decide)⟩,rfl,rfl⟩
  ·simp [Q4,hlim,z6,hb]
  ·intro x hx'
   rcases List.mem_append.mp hx' with h | h
   ·exact hx x h
   ·simp at h;subst h;exact Int.emod_nonneg _ (by decide)
 obtain⟨σ,A',e,xs,z,k,h1,h2,h3,rfl,rfl⟩:=h.end
 exact⟨_,xs,h1,h2,rfl,e⟩
theorem n9 (c:Int) (m:Nat) (hm:m<=64) (A:PHp):∃xs:List Int,xs.length=m/\(∀x∈xs,0<=x)/\E4 [.int c,.int m] A=.ok (.ref A.length) (A++[.lst (xs.map .int)]):=by
 by_cases h:c%2=1
 ·obtain⟨σ,xs,h1,h2,h3,h4⟩:=al4 c m hm (c / 2) A
  refine⟨xs,h1,h2,?_⟩
  unfold E4
  refine aD0 rfl ?_
  rw [T3 (ap4 (z5 _ _) rfl)]
  refine aI5 ?_
  rw [aT5 (A':=A++[.lst []]) (by simp [h,plain,eqv])]
  rw [T3 (σ':=[some (.int c),some (.int m),some (.ref A.length),some (.int (c / 2)),none,none]) (A':=A++[.lst []]) (by simp)]
  rw [T3 h4]
  simp [h3]
 ·obtain⟨σ,xs,h1,h2,h3,h4⟩:=al5 c m hm ((c*48271+7919)%2147483647) ⟨Int.emod_nonneg _ (by decide),Int.emod_lt_of_pos _ (by decide)⟩ A
  refine⟨xs,h1,h2,?_⟩
  unfold E4
  refine aD0 rfl ?_
  rw [T3 (ap4 (z5 _ _) rfl)]
  rw [T3 (σ':=[some (.int c),some (.int m),some (.ref A.length),none,none,none]) (A':=A++[.lst []]) (by rw [aT6 (A':=A++[.lst []]) (by simp [h,plain,eqv])];rfl)]
  rw [T3 (σ':=[some (.int c),some (.int m),some (.ref A.length),none,none,some (.int ((c*48271+7919)%2147483647))]) (A':=A++[.lst []]) (by simp)]
  rw [T3 h4]
  simp [h3]
end Ws
namespace Ws
open PySem
theorem R8 {α:Type} {A:PHp} {Q:PV->PHp->Prop} {E:XP} {σ:PSt} {it:ID} {mk:PSt->PSt} {g:GD} {e:ED} (xs:List α) (vi vo:α->PV) (S:PSt->Prop)
 (h:Wp (it σ) A (λJ A1=>P4 J A1=.ok xs.length A1/\xs.length<=LIM/\S (mk σ)/\(∀i B,A1<+:B->item J i B=.ok (xs.map vi)[i]? B)/\
  (∀x σ B,x∈xs->S σ->A1<+:B->Wp (g (vi x) σ) B (λσ1 B1=>B1=B/\S σ1/\Wp (e σ1) B (λy B3=>y=vo x/\B<+:B3) E) E)/\
  ∀B,A1<+:B->Q (.ref B.length) (B++[.lst (xs.map vo)])) E):Wp (Z5 it mk g Z4 e σ) A Q E:=
 aM2 (w_mono h λJ A1 ⟨hf,hL,h0,hit,hs,he⟩=>⟨xs.map vi,xs.length,λi acc σ B=>A1<+:B/\S σ/\acc=(xs.take i).map vo,hf,by simp,⟨List.prefix_refl _,h0,by simp⟩,λi acc σ B ⟨h1,_⟩=>hit i B h1,λi v acc σ B hv ⟨h1,h2,h3⟩=>by
  rw [List.getElem?_map] at hv
  obtain⟨x,hx,rfl⟩:=Option.map_eq_some_iff.mp hv
  refine w_mono (hs x σ B (List.mem_of_getElem? hx) h2 h1) λσ1 B1 ⟨e1,h4,h5⟩=>?_
  subst e1
  refine w_true ⟨λ_=>w_mono h5 λy B3 ⟨h8,h7⟩=>⟨h1.trans h7,h4,?_⟩,λhc=>by cases hc⟩
  rw [h3,h8,List.take_succ,hx];simp,λacc σ B ⟨h1,_,h3⟩=>by
  rw [List.length_map,List.take_of_length_le (Nat.le_refl _)] at h3
  subst h3
  exact⟨by rw [List.length_map];exact hL,he B h1⟩⟩)
theorem av2 {n:Nat} {l:List PV} {A B:PHp} (h:A[n]?=some (.lst l)) (p:A<+:B) (i:Nat):item (.lst n) i B=.ok l[i]? B:=au8 (C8 p h) i
theorem T2:(" " : Str)=one 32:=by decide +kernel
theorem ai4:("\n" : Str)=one 10:=by decide +kernel
theorem fig {c:Nat} (h:48<=c/\c<=57):c∈("0123456789" : Str).cps.toList:=by
 have:∀c:Nat,c<=57->48<=c->c∈("0123456789" : Str).cps.toList:=by decide +kernel
 exact this c h.2 h.1
theorem brTx {p P R:Prop} [Decidable p] (hp:p) (h:P):(decide p=true->P)/\(decide p=false->R):=⟨λ_=>h,λz=>absurd hp (of_decide_eq_false z)⟩
theorem brFx {p P R:Prop} [Decidable p] (hp:¬p) (h:R):(decide p=true->P)/\(decide p=false->R):=⟨λz=>absurd (of_decide_eq_true z) hp,λ_=>h⟩
theorem brTx' {p P R:Prop} [Decidable p] (hp:p) (h:R):((!decide p)=true->P)/\((!decide p)=false->R):=⟨λz=>absurd (decide_eq_true hp) (by simpa using z),λ_=>h⟩
theorem aR3 {p P R:Prop} [Decidable p] (hp:¬p) (h:P):((!decide p)=true->P)/\((!decide p)=false->R):=⟨λ_=>h,λz=>absurd (decide_eq_false hp) (by simpa using z)⟩
theorem aE5 {α:Type} (xs:List α):(xs.map λ_=>true).all id=true:=by simp
theorem is_number_num {n:Nat} (h:n<1000000000) (A:PHp):Wp (G1 [.str (num n)]) A (λv A'=>v=.bl true/\A<+:A') NoX:=by
 have hl:=R7 h
 have hn9:(num n).cps.toList.length=(num n).length:=by simp [Str.length]
 unfold G1
 walk_at "fn"
 refine w_seq (w_if (w_tor (w_tnot (w_tval ?_))))
 walk_at "go"
 refine brTx (by omega) ?_
 walk_at "go"
 refine brTx' (by omega) ?_
 walk_at "go"
 unfold f_is_number_c1
 refine R8 (num n).cps.toList (λc=>.str ⟨#[c]⟩) (λ_=>.bl true) (λσ=>∃x,σ=[x]) ?_
 walk_at "go"
 refine⟨?_,by simp,lim_le (by rw [hn9];omega),⟨_,rfl⟩,λi B _=>rfl,?_,λB hB=>?_⟩
 ·rw [←Array.all_toList]
  exact List.all_eq_true.mpr λc hc=>by have:=num_dig hc;simp;omega
 ·rintro c σ B hc ⟨x,rfl⟩ _
  walk_at "go"
  refine⟨rfl,⟨_,rfl⟩,?_⟩
  walk_at "go"
  exact⟨congrArg PV.bl (decide_eq_true (fig (num_dig hc))),List.prefix_refl _⟩
 ·refine⟨_,(num n).cps.toList.map λ_=>true,rfl,by rw [get_app,List.map_map];rfl,?_⟩
  ·rw [aE5]
   walk_at "go"
   by_cases h0:n=0
   ·subst h0
    refine brTx ab4 ?_
    exact⟨rfl,hB.trans (List.prefix_append _ _)⟩
   ·obtain⟨c,cs,e,hc⟩:=av1 n h0
    refine brFx (λz=>?_) ?_
    ·rw [z] at e
     have:("0" : Str).cps.toList=[48]:=by decide +kernel
     rw [this] at e;cases e;exact hc rfl
    ·walk_at "go"
     refine w_ixS (c:=c) (by rw [e];simp [atI,ixN]) (lim_le (by omega)) ?_
     walk_at "go"
     refine⟨?_,hB.trans (List.prefix_append _ _)⟩
     rw [decide_eq_false];rfl
     intro z
     have z:(⟨#[c]⟩:Str)=⟨#[48]⟩:=z.trans (by decide +kernel)
     cases z;exact hc rfl
theorem L8 (ns:List Nat) (h:∀n∈ns,n<1000000000) (hl:ns.length<=100) {A:PHp} {k:Nat} (hk:A[k]?=some (.lst ((ns.map num).map .str))) :
 Wp (D4 [.ref k]) A (λv A'=>∃m,v=.ref m/\A'[m]?=some (.lst (ns.map λn=>.int (n:Nat)))/\A<+:A') NoX:=by
 rw [List.map_map] at hk
 unfold D4
 walk_at "fn"
 walk_at "go"
 unfold J6
 refine R8 ns (λn=>.str (num n)) (λ_=>.bl true) (λσ=>∃x,σ=[x]) ?_
 walk_at "go"
 refine⟨by rw [fuel_lst hk];simp,lim_le (by omega),⟨_,rfl⟩,λi B p=>av2 hk p i,?_,λB hB=>?_⟩
 ·rintro n σ B hn ⟨x,rfl⟩ _
  walk_at "go"
  refine⟨rfl,⟨_,rfl⟩,?_⟩
  walk_at "go"
  exact is_number_num (h n hn) B
 ·refine⟨_,ns.map λ_=>true,rfl,by rw [get_app,List.map_map];rfl,?_⟩
  rw [aE5]
  walk_at "go"
  unfold f_read_numbers_c2
  have hk2:(B++[PO.lst (ns.map λ_=>PV.bl true)])[k]?=some (.lst (ns.map (PV.str ∘ num))):=get_app_of (C8 hB hk)
  refine R8 ns (λn=>.str (num n)) (λn=>.int (n:Nat)) (λσ=>∃x,σ=[x]) ?_
  walk_at "go"
  refine⟨by rw [fuel_lst hk2];simp,lim_le (by omega),⟨_,rfl⟩,λi B p=>av2 hk2 p i,?_,λB2 hB2=>?_⟩
  ·rintro n σ B hn ⟨x,rfl⟩ _
   walk_at "go"
   refine⟨rfl,⟨_,rfl⟩,?_⟩
   walk_at "go"
   exact⟨h n hn,rfl,List.prefix_refl _⟩
  ·exact⟨_,rfl,get_app,((hB.trans (List.prefix_append _ _)).trans hB2).trans (List.prefix_append _ _)⟩
theorem ae7 {ys:List Str} {b:Nat} (h:∀y∈ys,y.length<=b):(ys.map (·.length)).sum<=ys.length*b:=StrLaws.sumLen_le ys h
structure Row where
 t:Nat
 a:Nat
 b:Nat
 ch:List Nat
abbrev nvs (l:List Nat):List PV:=l.map λn=>.int (n:Nat)
def Row.k (r:Row):Str:=if r.ch=[] then "lay" else "say"
def Row.dv (r:Row):PV:=.tup (if r.ch=[] then [.str "lay",.tup (nvs [r.a,r.b])] else [.str "say",.tup (nvs [r.a,r.b]),.tup (nvs r.ch)])
def Row.v (r:Row):PV:=.tup [.int r.t,r.dv]
def Row.ok (r:Row):Prop:=r.t<1000000000/\(∀n∈r.a::r.b::r.ch,n<1000000000)/\r.ch.length<=6
def Row.words (r:Row):List Str:=num r.t::r.k::(r.a::r.b::r.ch).map num
def Row.line (r:Row):Str:=Txt.join (one 32) r.words
theorem aR4 (r:Row):r.k.length=3:=by unfold Row.k;split <;> decide +kernel
theorem R9 (c:Nat) (l:List Str):(Txt.join (one c) l).length<=(l.map (·.length)).sum+l.length:=by
 have e:Txt.join (one c) l=Str.join (one c) l:=StrLaws.glued_eq_join _ _
 rw [e]
 have:=StrLaws.join_length_le (one c) l
 have h1:(one c).length=1:=rfl
 rw [h1] at this;omega
theorem W5 {r:Row} (h:r.ok):∀w∈r.words,w.length<=9:=by
 intro w hw
 unfold Row.words at hw
 rcases List.mem_cons.mp hw with rfl | hw
 ·exact (R7 h.1).2
 ·rcases List.mem_cons.mp hw with rfl | hw
  ·rw [aR4];decide
  ·obtain⟨n,hn,rfl⟩:=List.mem_map.mp hw
   exact (R7 (h.2.1 n hn)).2
theorem N2 {r:Row} (h:r.ok):r.words.length<=10:=by have:=h.2.2;simp [Row.words];omega
theorem J7 {r:Row} (h:r.ok):r.line.length<=100:=by
 have h1:=R9 32 r.words
 have h2:=ae7 (W5 h)
 have h3:=N2 h
 unfold Row.line;omega
def T6 (rs:List Row):Str:=Txt.join (one 10) (rs.map Row.line)
theorem ae8 {rs:List Row} (h:∀r∈rs,r.ok) (hl:rs.length<=50):(Str.ofString "\n").length<=16/\((rs.map Row.line).map (·.length)).sum+(rs.map Row.line).length<=1048576:=by
 refine⟨by decide +kernel,?_⟩
 have:=ae7 (ys:=rs.map Row.line) (b:=100) λy hy=>by
  obtain⟨r,hr,rfl⟩:=List.mem_map.mp hy
  exact J7 (h r hr)
 rw [List.length_map] at this ⊢
 omega
theorem Y3 {r:Row}:∀w∈r.words,32∉w.cps.toList/\10∉w.cps.toList:=by
 intro w hw
 have hn:∀n,32∉(num n).cps.toList/\10∉(num n).cps.toList:=λn=>⟨λz=>by have:=num_dig z;omega,λz=>by have:=num_dig z;omega⟩
 unfold Row.words at hw
 rcases List.mem_cons.mp hw with rfl | hw
 ·exact hn _
 ·rcases List.mem_cons.mp hw with rfl | hw
  ·unfold Row.k;split <;> decide +kernel
  ·obtain⟨n,_,rfl⟩:=List.mem_map.mp hw
   exact hn n
theorem i7 {c d:Nat} (hcd:c≠d):∀ws:List (List Nat),(∀w∈ws,c∉w)->c∉D5 d ws
 | [],_=>by simp [D5]
 | [w],h=>h w (by simp)
 | w::v::r,h=>by
   have ih:=i7 hcd (v::r) λu hu=>h u (List.mem_cons_of_mem _ hu)
   simp only [D5,List.mem_append,List.mem_cons,not_or]
   exact⟨h w (by simp),hcd,ih⟩
theorem Y4 (r:Row):10∉r.line.cps.toList:=by
 have e:Txt.join (one 32) r.words=Str.join (one 32) r.words:=StrLaws.glued_eq_join _ _
 unfold Row.line
 rw [e,J2]
 refine i7 (by decide) _ λw hw=>?_
 obtain⟨v,hv,rfl⟩:=List.mem_map.mp hw
 exact (Y3 v hv).2
theorem atN {α:Type} {l:List α} {i:Nat} {v:α} (h:l[i]?=some v):atI l (i:Int)=some v:=by
 have:=(List.getElem?_eq_some_iff.mp h).1
 have e:ixN l.length (i:Int)=some i:=by simp [ixN,this]
 rw [atI,e];exact h
theorem ae9 {α:Type} (xs:List α) (i:Nat) (h:i<=xs.length):cut xs none (some (i:Int))=xs.take i:=by
 have e:G0 xs.length xs.length (some (i:Int))=i:=by simp only [G0];split <;> omega
 unfold cut;rw [e];simp [G0]
theorem R4 {α:Type} (xs:List α) (i:Nat) (h:i<=xs.length):cut xs (some (i:Int)) none=xs.drop i:=by
 have e:G0 xs.length 0 (some (i:Int))=i:=by simp only [G0];split <;> omega
 unfold cut;rw [e];exact List.take_of_length_le (by simp [G0])
theorem read_deed_ok {r:Row} (h:r.ok) (A:PHp):Wp (D3 [.str r.line]) A (λv A'=>v=r.v/\A<+:A') NoX:=by
 unfold D3
 walk_at "fn"
 walk_at "go"
 have hll:=J7 h
 have hwn:=N2 h
 refine⟨32,r.words,congrArg PV.str T2,rfl,⟨by decide,by simp [Row.words],λw hw=>(Y3 w hw).1,lim_le (by omega),lim_le (by omega)⟩,?_⟩
 have hw:r.words.map PV.str=.str (num r.t) :: .str r.k::((r.a::r.b::r.ch).map num).map .str:=rfl
 have c1:cut (r.words.map PV.str) none (some 1)=[.str (num r.t)]:=by rw [hw];exact (ae9 _ 1 (by simp)).trans rfl
 have c2:cut (r.words.map PV.str) (some 2) none=((r.a::r.b::r.ch).map num).map .str:=by rw [hw];exact (R4 _ 2 (by simp)).trans rfl
 walk_at "go"
 rw [c1,c2]
 refine N0 (get_app_of get_app) get_app (lim_le (by have:=h.2.2;simp;omega)) ?_
 walk_at "go"
 generalize hB:A++[PO.lst (r.words.map PV.str)]++[PO.lst [PV.str (num r.t)]]++[PO.lst (((r.a::r.b::r.ch).map num).map .str)]=B
 have hB1:A++[PO.lst (r.words.map PV.str)]<+:B:=by rw [←hB];exact (List.prefix_append _ _).trans (List.prefix_append _ _)
 refine w_mono (L8 (r.t::r.a::r.b::r.ch) (λn hn=>?_) (by have:=h.2.2;simp;omega) (k:=B.length) get_app) λv A1 ⟨m,hv,hm,hp⟩=>?_
 ·rcases List.mem_cons.mp hn with rfl | hn
  ·exact h.1
  ·exact h.2.1 n hn
 subst hv
 have hp2:A++[PO.lst (r.words.map PV.str)]<+:A1:=(hB1.trans (List.prefix_append _ _)).trans hp
 have hpA:A<+:A1:=(List.prefix_append _ _).trans hp2
 have hW:A1[A.length]?=some (.lst (r.words.map PV.str)):=C8 hp2 get_app
 have x0:atI (nvs (r.t::r.a::r.b::r.ch)) 0=some (.int r.t):=atN (i:=0) rfl
 have x1:atI (nvs (r.t::r.a::r.b::r.ch)) 1=some (.int r.a):=atN (i:=1) rfl
 have x2:atI (nvs (r.t::r.a::r.b::r.ch)) 2=some (.int r.b):=atN (i:=2) rfl
 have y1:atI (r.words.map PV.str) 1=some (.str r.k):=atN (i:=1) rfl
 have c3:cut (nvs (r.t::r.a::r.b::r.ch)) (some 3) none=nvs r.ch:=(R4 _ 3 (by simp [nvs])).trans rfl
 walk_at "go"
 refine brF ?_
 walk_at "go"
 refine brFx (by simp;omega) ?_
 walk_at "go"
 rw [c3]
 walk_at "go"
 refine⟨lim_le (by have:=h.2.2;simp [nvs];omega),?_⟩
 have hpr:plain (.tup (nvs r.ch))=true/\plain (.tup [])=true:=⟨by show (nvs r.ch).all X0=true;rw [List.all_map];exact List.all_eq_true.mpr λ_ _=>rfl,rfl⟩
 by_cases hc:r.ch=[]
 ·have hk:r.k="lay":=by unfold Row.k;rw [if_pos hc]
  walk_at "go"
  refine brTx hk ?_
  walk_at "go"
  have he:H8 (nvs r.ch) []=true:=by rw [hc];simp [nvs,H8]
  refine w_eqT hpr ?_
  rw [he]
  walk_at "go"
  refine⟨?_,hpA.trans (List.prefix_append _ _)⟩
  unfold Row.v Row.dv;rw [if_pos hc];rfl
 ·have hk:r.k="say":=by unfold Row.k;rw [if_neg hc]
  have he:H8 (nvs r.ch) []=false:=by
   cases hh:r.ch with
   | nil=>exact absurd hh hc
   | cons a l=>simp [nvs,H8]
  walk_at "go"
  refine brFx (by rw [hk];decide +kernel) ?_
  walk_at "go"
  refine brTx hk ?_
  walk_at "go"
  refine w_neT hpr ?_
  rw [he]
  walk_at "go"
  refine⟨?_,hpA.trans (List.prefix_append _ _)⟩
  unfold Row.v Row.dv;rw [if_neg hc];rfl
theorem av3 {it:ID} {g:GD} {s:SD} {σ:PSt} {A:PHp} {QF:Fl->PHp->Prop} {E:XP} (P:Nat->PSt->PHp->Prop) (h:Wp (it σ) A (λJ A1=>∃k a l,J=.enk k a/\P 0 σ A1/\(∀i σ B,P i σ B->C7 a B=.ok l B)/\(∀(i:Nat) v σ B,l[i]?=some v->P i σ B->Wp (g (.tup [.int ((k+i:Nat):Int),v]) σ) B (λσ1 B1=>Wp (s σ1) B1 (ab3 (P (i+1)) QF) E) E)/\∀σ B,P l.length σ B->QF (.nx σ) B) E) :
 Wp (U2 it g s σ) A QF E:=A7 (w_mono h λJ A1 ⟨k,a,l,hJ,h0,hl,hs,he⟩=>by
 subst hJ
 refine A7 (A7 (w_eq (hl 0 σ A1 h0) (ah9 ?_)))
 refine U9 P (λσ B hP=>⟨by show bnd (C7 a) _ B=_;rw [bnd_ok (hl _ σ B hP)];simp,he σ B hP⟩) (λi σ B hi hP=>?_) l.length 0 σ A1 (by omega) h0 (l.length+1) (Nat.lt_succ_self _)
 exact⟨.tup [.int ((k+i:Nat):Int),l[i]],by show bnd (C7 a) _ B=_;rw [bnd_ok (hl _ σ B hP),List.getElem?_eq_getElem hi];rfl,hs i l[i] σ B (List.getElem?_eq_getElem hi) hP⟩)
def av4 (rs:List Row):Prop:=(∀r∈rs,1<=r.t)/\rs.Pairwise λr q=>r.t<=q.t
theorem aB9 (r:Row):r.line≠"":=by
 intro z
 have h:=congrArg (λx:Str=>x.cps.toList) z
 have e:r.line.cps.toList=D5 32 (r.words.map λw=>w.cps.toList):=by
  have e:Txt.join (one 32) r.words=Str.join (one 32) r.words:=StrLaws.glued_eq_join _ _
  unfold Row.line;rw [e,J2]
 have e2:("" : Str).cps.toList=[]:=by decide +kernel
 simp only [e,e2,Row.words,List.map_cons,D5] at h
 exact absurd (List.append_eq_nil_iff.mp h).2 (by simp)
theorem aC0 {rs:List Row} (h:rs≠[]):T6 rs≠"":=by
 intro z
 have hx:=congrArg (λx:Str=>x.cps.toList) z
 have e:(T6 rs).cps.toList=D5 10 ((rs.map Row.line).map λw=>w.cps.toList):=by
  have e:Txt.join (one 10) (rs.map Row.line)=Str.join (one 10) (rs.map Row.line):=StrLaws.glued_eq_join _ _
  unfold T6;rw [e,J2]
 have e2:("" : Str).cps.toList=[]:=by decide +kernel
 simp only [e,e2] at hx
 cases rs with
 | nil=>exact h rfl
 | cons r l=>
   cases l with
   | nil=>
     simp only [List.map_cons,List.map_nil,D5] at hx
     exact aB9 r (V0 (hx.trans e2.symm))
   | cons q l=>simp only [List.map_cons,D5] at hx;exact absurd (List.append_eq_nil_iff.mp hx).2 (by simp)
theorem av5 {rs:List Row} (h:∀r∈rs,r.ok) (hl:rs.length<=50):(T6 rs).length<=6000:=by
 have h1:=R9 10 (rs.map Row.line)
 have:=ae7 (ys:=rs.map Row.line) (b:=100) λy hy=>by
  obtain⟨r,hr,rfl⟩:=List.mem_map.mp hy
  exact J7 (h r hr)
 rw [List.length_map] at this h1
 unfold T6;omega
theorem read_none (A:PHp):Wp (E3 [.str ""]) A (λv A'=>∃m,v=.ref m/\A'[m]?=some (.lst [])/\A<+:A'/\A.length<=m) NoX:=by
 unfold E3
 walk_at "fn"
 walk_at "go"
 refine brTx rfl ?_
 walk_at "go"
 exact⟨get_app,List.prefix_append _ _,Nat.le_refl _⟩
theorem read_deeds_ok {rs:List Row} (h:∀r∈rs,r.ok) (hl:rs.length<=50) (hr:av4 rs) (A:PHp) :
 Wp (E3 [.str (T6 rs)]) A (λv A'=>∃m,v=.ref m/\A'[m]?=some (.lst (rs.map Row.v))/\A<+:A'/\A.length<=m) NoX:=by
 by_cases h0:rs=[]
 ·subst h0
  exact read_none A
 ·unfold E3
  walk_at "fn"
  walk_at "go"
  refine brFx (aC0 h0) ?_
  walk_at "go"
  unfold f_read_deeds_l1
  have htl:=av5 h hl
  refine av3 (λi σ B=>∃(w:Nat) (x y z:Option PV),σ=[some (.str (T6 rs)),some (.ref A.length),some (.int (w:Nat)),x,y,z]/\(∀r,rs[i]?=some r->w<=r.t)/\A<+:B/\B[A.length]?=some (.lst ((rs.take i).map Row.v))/\B[A.length+1]?=some (.lst ((rs.map Row.line).map .str))) ?_
  walk_at "go"
  refine⟨10,rs.map Row.line,congrArg PV.str ai4,rfl,⟨by decide,by simpa using h0,λw hw=>?_,lim_le (by omega),lim_le (by simp;omega)⟩,?_⟩
  ·obtain⟨r,_,rfl⟩:=List.mem_map.mp hw
   exact Y4 r
  have e1:(A++[PO.lst []]).length=A.length+1:=by simp
  have hls:(A++[PO.lst []]++[PO.lst ((rs.map Row.line).map .str)])[A.length+1]?=some (.lst ((rs.map Row.line).map .str)):=by rw [←e1];exact get_app
  refine⟨_,_,rfl,by rw [e1];exact G6 hls,_,_,(rs.map Row.line).map .str,rfl,⟨1,_,_,_,rfl,λr h=>hr.1 r (List.mem_of_getElem? h),(List.prefix_append _ _).trans (List.prefix_append _ _),get_app_of get_app,hls⟩,λi σ B ⟨w,x,y,z,_,_,_,_,hB⟩=>by rw [e1];exact G6 hB,?_,?_⟩
  ·rintro i v σ B hv ⟨w,x,y,z,rfl,hw,hA,h1,h2⟩
   rw [List.getElem?_map,List.getElem?_map] at hv
   obtain⟨l,hl',rfl⟩:=Option.map_eq_some_iff.mp hv
   obtain⟨r,hri,rfl⟩:=Option.map_eq_some_iff.mp hl'
   have hrm:=List.mem_of_getElem? hri
   have hin:=(List.getElem?_eq_some_iff.mp hri).1
   walk_at "go"
   unfold f_read_deeds_b1
   walk_at "go"
   refine w_mono (read_deed_ok (h r hrm) B) λv B1 ⟨hv,hp⟩=>?_
   subst hv
   have k1:=C8 hp h1
   have k2:=C8 hp h2
   have hwr:=hw r hri
   unfold Row.v
   walk_at "go"
   refine brF ?_
   walk_at "go"
   refine brFx (by omega) ?_
   walk_at "go"
   refine⟨lim_lt (by simp;omega),r.t,_,_,_,rfl,λq hq=>?_,t8 (hA.trans hp) (Nat.le_refl _),?_,?_⟩
   ·have hq1:=(List.getElem?_eq_some_iff.mp hq)
    have:=List.pairwise_iff_getElem.mp hr.2 i (i+1) hin hq1.1 (by omega)
    rw [hq1.2,(List.getElem?_eq_some_iff.mp hri).2] at this
    exact this
   ·rw [Y1 k1,List.take_succ,hri,List.map_append];rfl
   ·rw [P5 (by omega)];exact k2
  ·rintro σ B ⟨w,x,y,z,rfl,hw,hA,h1,h2⟩
   walk_at "go"
   refine⟨?_,hA,Nat.le_refl _⟩
   rw [h1,List.length_map,List.length_map,List.take_of_length_le (Nat.le_refl _)]
section
variable {α:Type} {m:M α} {A:PHp} {E:XP} {σ:PSt}
theorem o0 {Q:α->PHp->Prop} (h:Wp m A Q NoX):Wp (noX m) A Q E:=by
 obtain⟨a,A',e,q⟩:=aE4 h
 exact w_eq (aI6 e) q
theorem w_sNoX {s:SD} {Q:Fl->PHp->Prop} (h:Wp (s σ) A Q NoX):Wp (Z7 s σ) A Q E:=o0 h
theorem w_tNoX {t:TD} {Q:Bool->PHp->Prop} (h:Wp (t σ) A Q NoX):Wp (ay3 t σ) A Q E:=o0 h
theorem w_iNoX {t:ID} {Q:It->PHp->Prop} (h:Wp (t σ) A Q NoX):Wp (ay4 t σ) A Q E:=o0 h
theorem w_gNoX {g:GD} {v:PV} {Q:PSt->PHp->Prop} (h:Wp (g v σ) A Q NoX):Wp (Z8 g v σ) A Q E:=o0 h
theorem w_raise {c:Nat} {e:ED} {Q:Fl->PHp->Prop} (h:Wp (e σ) A (λv A1=>E c v A1) NoX):Wp (t9 c (aCons e aNil) σ) A Q E:=by
 refine A7 (o0 (w_cons (w_mono h λv A1 h1=>w_nil ?_)))
 exact h1
end
section
variable {A:PHp} {E:XP} {σ:PSt} {Q:PV->PHp->Prop} {QF:Fl->PHp->Prop} {g:GD} {s b:SD} {es:AD} {e:ED}
theorem brC {c:Bool} {P R:Prop} (h:c=false) (q:R):(c=true->P)/\(c=false->R):=⟨λz=>(by rw [h] at z;cases z),λ_=>q⟩
theorem brD {c:Bool} {P R:Prop} (h:c=true) (q:P):(c=true->P)/\(c=false->R):=⟨λ_=>q,λz=>by rw [h] at z;cases z⟩
theorem get_appL {o:PO} {k:Nat} (h:A.length=k):(A++[o])[k]?=some o:=by subst h;exact get_app
theorem w_intB (h:Wp (e σ) A (λx A1=>∃b:Bool,x=.bl b/\Q (.int (if b then 1 else 0)) A1) E):Wp (ap8 e σ) A Q E:=A7 (w_mono h λx A1 ⟨b,hx,q⟩=>by subst hx;exact q)
theorem aR5 {cs:List Nat} {hs:List Hd} (h:Wp (b σ) A QF (λc v A'=>c∈cs/\Wp (P6 hs c v σ) A' QF E)):Wp (ap7 cs b hs σ) A QF E:=by
 unfold Wp at h ⊢
 unfold ap7
 cases e:b σ A with
 | ok f A'=>rw [e] at h;exact h
 | ex c v A'=>
   rw [e] at h
   dsimp only at h ⊢
   rw [J4 h.1]
   exact h.2
 | no=>rw [e] at h;exact h.elim
theorem av6 {c k i:Nat} {v:PV} {r:List Hd} (hs:subX c k=true) (h:Wp (b (σ.set i (some (.ref A.length)))) (A++[.exc c v]) (λf A1=>QF (aD3 i f) A1) E):Wp (P6 ((k,some i,b)::r) c v σ) A QF E:=by
 unfold P6
 rw [if_pos hs]
 exact A7 (w_eq (a:=.ref A.length) (A':=A++[.exc c v]) rfl (A7 h))
theorem w_callX {f:Fun} (h:Wp (es σ) A (λvs A1=>Wp (f vs) A1 Q E) NoX):Wp (V8 f es σ) A Q E:=A7 (o0 h)
theorem ai5 {n:Nat} {cs:List Nat} {c:Nat} {v:PV} {QP:Nat×PV->PHp->Prop} (h:A[n]?=some (.exc c v)) (hc:c∈cs) (q:QP (c,v) A):Wp (n4 n cs) A QP E:=by
 refine w_eq (a:=(c,v)) (A':=A) ?_ q
 unfold n4
 rw [h]
 dsimp only
 rw [J4 hc];rfl
theorem w_at {cs:List Nat} (h:Wp (e σ) A (λx A1=>∃n c v,x=.ref n/\A1[n]?=some (.exc c v)/\c∈cs/\Q v A1) E):Wp (eAt cs e σ) A Q E:=A7 (w_mono h λx A1 ⟨n,c,v,hx,h1,hc,q⟩=>by subst hx;exact A7 (ai5 h1 hc q))
theorem w_isE {cs:List Nat} {k:Nat} (h:Wp (e σ) A (λx A1=>∃n c v,x=.ref n/\A1[n]?=some (.exc c v)/\c∈cs/\Q (.bl (subX c k)) A1) E):Wp (ay5 cs e k σ) A Q E:=A7 (w_mono h λx A1 ⟨n,c,v,hx,h1,hc,q⟩=>by subst hx;exact A7 (ai5 h1 hc q))
theorem exX {n c:Nat} {v:PV} {cs:List Nat} {R:Nat->PV->Prop} (h:A[n]?=some (.exc c v)) (hc:c∈cs) (q:R c v):∃n' c' v',PV.ref n=.ref n'/\A[n']?=some (.exc c' v')/\c'∈cs/\R c' v':=⟨n,c,v,rfl,h,hc,q⟩
end
end Ws
local macro_rules | `(tactic| walk_at "s1")=>`(tactic| first
 | with_reducible refine Ws.w_callX ?_
 | with_reducible refine Ws.w_at ?_
 | with_reducible refine Ws.w_isE ?_
 | with_reducible refine Ws.w_isV ?_)
local macro_rules | `(tactic| walk_at "s3")=>`(tactic| ((with_reducible apply Ws.exX);(·walk_at "st");(·decide)))
local macro_rules | `(tactic| walk_at "s1")=>`(tactic| first
 | with_reducible refine Ws.w_intB ?_
 | with_reducible refine Ws.w_sNoX ?_
 | with_reducible refine Ws.w_tNoX ?_
 | with_reducible refine Ws.w_iNoX ?_
 | with_reducible refine Ws.w_gNoX ?_
 | with_reducible refine Ws.w_raise ?_)
local macro_rules | `(tactic| walk_at "pre")=>`(tactic| first
 | assumption
 | exact List.prefix_refl _
 | (refine Ws.ay0 ?_;walk_at "pre")
 | (refine List.IsPrefix.trans (by assumption) ?_;walk_at "pre"))
local macro_rules | `(tactic| walk_at "s3")=>`(tactic| ((with_reducible refine And.intro (a:=List.IsPrefix _ _) ?h1 ?_);(case h1=>walk_at "pre")))
local macro_rules | `(tactic| walk_at "ne")=>`(tactic| first
 | assumption
 | omega
 | ((simp only [List.length_set,List.length_append,List.length_cons,List.length_nil]);omega))
local macro_rules | `(tactic| walk_at "st")=>`(tactic| first
 | ((with_reducible refine Ws.get_appL ?_);(first | rfl | ((simp only [List.length_set,List.length_append,List.length_cons,List.length_nil]);done) | ((simp only [List.length_set,List.length_append,List.length_cons,List.length_nil]);omega)))
 | ((with_reducible apply Ws.get_app_of);walk_at "st"))
local macro_rules | `(tactic| walk_at "br")=>`(tactic| first
 | ((with_reducible refine Ws.brC ?_ ?_);(·first | rfl | (simp;done) | decide))
 | ((with_reducible refine Ws.brD ?_ ?_);(·first | rfl | (simp;done) | decide)))
local macro_rules | `(tactic| walk_at "gb")=>`(tactic| repeat (first | walk_at "s" | walk_at "br"))
namespace Ws
open PySem PySem.StrLaws PySem.Builtin PySem.Builtin.Str
def isN (w:Str):Bool:=decide (1<=w.length/\w.length<=9)&&w.cps.toList.all (λc=>decide (c∈("0123456789" : Str).cps.toList))&&(decide (w="0")||!decide (w.cps.toList.head?=some 48))
theorem i8 (w:Str):w.cps.toList.length=w.length:=by simp [Str.length]
theorem is_number_is {w:Str} (ha:w.cps.all (·< 128)=true) (hl:w.length<=1000) (A:PHp):Wp (G1 [.str w]) A (λv A'=>v=.bl (isN w)/\A<+:A') NoX:=by
 have hn9:=i8 w
 unfold G1
 walk_at "fn"
 refine w_seq (w_if (w_tor (w_tnot (w_tval ?_))))
 walk_at "go"
 by_cases h1:¬1<=w.length
 ·refine brFx (by omega) ?_
  walk_at "go"
  exact⟨by simp [isN,h1],List.prefix_refl _⟩
 refine brTx (by omega) ?_
 walk_at "go"
 have h1:1<=w.length:=Decidable.not_not.mp h1
 by_cases h9:¬w.length<=9
 ·refine aR3 (by omega) ?_
  walk_at "go"
  exact⟨by simp [isN,h9],List.prefix_refl _⟩
 have h9:w.length<=9:=Decidable.not_not.mp h9
 refine brTx' (by omega) ?_
 walk_at "go"
 unfold f_is_number_c1
 refine R8 w.cps.toList (λc=>.str ⟨#[c]⟩) (λc=>.bl (decide (c∈("0123456789" : Str).cps.toList))) (λσ=>∃x,σ=[x]) ?_
 walk_at "go"
 refine⟨by simp,lim_le (by rw [hn9];omega),⟨_,rfl⟩,λi B _=>rfl,?_,λB hB=>?_⟩
 ·rintro c σ B hc ⟨x,rfl⟩ _
  walk_at "go"
  refine⟨rfl,⟨_,rfl⟩,?_⟩
  walk_at "go"
  exact⟨rfl,List.prefix_refl _⟩
 ·refine⟨_,w.cps.toList.map λc=>decide (c∈("0123456789" : Str).cps.toList),rfl,by rw [get_app,List.map_map];rfl,?_⟩
  have ea:(w.cps.toList.map λc=>decide (c∈("0123456789" : Str).cps.toList)).all id=w.cps.toList.all (λc=>decide (c∈("0123456789" : Str).cps.toList)):=by rw [List.all_map];rfl
  rw [ea]
  cases hx:w.cps.toList.all (λc=>decide (c∈("0123456789" : Str).cps.toList))
  ·walk_at "gb"
   exact⟨by unfold isN;rw [hx,Bool.and_false,Bool.false_and],hB.trans (List.prefix_append _ _)⟩
  ·walk_at "gb"
   by_cases h0:w="0"
   ·refine brTx h0 ?_
    exact⟨by simp [isN,h1,h9,hx,h0];decide +kernel,hB.trans (List.prefix_append _ _)⟩
   ·obtain⟨c,cs,e⟩:∃c cs,w.cps.toList=c::cs:=by
     cases h:w.cps.toList with
     | nil=>rw [h] at hn9;simp at hn9;omega
     | cons c cs=>exact⟨c,cs,rfl⟩
    refine brFx h0 ?_
    walk_at "go"
    refine w_ixS (c:=c) (by rw [e];simp [atI,ixN]) (lim_le (by omega)) ?_
    walk_at "go"
    refine⟨?_,hB.trans (List.prefix_append _ _)⟩
    have e48:decide ((⟨#[c]⟩:Str)="0")=decide (c=48):=by
     have z:("0" : Str)=⟨#[48]⟩:=by decide +kernel
     rw [z]
     by_cases hc:c=48
     ·subst hc;simp
     ·simp [hc]
    rw [e48]
    have:isN w = !decide (c=48):=by
     unfold isN
     rw [decide_eq_true ⟨h1,h9⟩,hx,decide_eq_false h0,e]
     simp
    rw [this]
theorem X8 {ws:List Str} (hw:∀w∈ws,w.cps.all (·< 128)=true/\w.length<=1000) (hl:ws.length<=100) (hx:∃w∈ws,isN w=false) {A:PHp} {k:Nat} (hk:A[k]?=some (.lst (ws.map .str))) :
 Wp (D4 [.ref k]) A (λv A'=>v=.non/\A<+:A') NoX:=by
 unfold D4
 walk_at "fn"
 walk_at "go"
 unfold J6
 refine R8 ws PV.str (λw=>.bl (isN w)) (λσ=>∃x,σ=[x]) ?_
 walk_at "go"
 refine⟨by rw [fuel_lst hk];simp,lim_le (by omega),⟨_,rfl⟩,λi B p=>av2 hk p i,?_,λB hB=>?_⟩
 ·rintro n σ B hn ⟨x,rfl⟩ _
  walk_at "go"
  refine⟨rfl,⟨_,rfl⟩,?_⟩
  walk_at "go"
  exact is_number_is (hw n hn).1 (hw n hn).2 B
 ·refine⟨_,ws.map isN,rfl,by rw [get_app,List.map_map];rfl,?_⟩
  have e:(ws.map isN).all id=false:=by
   obtain⟨w,h1,h2⟩:=hx
   rw [List.all_map,List.all_eq_false]
   exact⟨w,h1,by simp [h2]⟩
  rw [e]
  walk_at "gb"
  exact⟨rfl,hB.trans (List.prefix_append _ _)⟩
def P9 (ws:List Str):Prop:=ws≠[]/\ws.length<=20/\∀w∈ws,w.cps.all (·< 128)=true/\w.length<=12/\32∉w.cps.toList/\10∉w.cps.toList
def lineOf (ws:List Str):Str:=Txt.join (one 32) ws
theorem aU5 {ws:List Str} (h:P9 ws):(ws.map (·.length)).sum+ws.length<=260:=by
 have:=ae7 (ys:=ws) (b:=12) λy hy=>(h.2.2 y hy).2.1
 have:=h.2.1
 omega
theorem K5 {ws:List Str} (h:P9 ws):(lineOf ws).length<=260:=by
 have:=R9 32 ws
 have:=aU5 h
 unfold lineOf;omega
theorem W6 {ws:List Str} (h:P9 ws):10∉(lineOf ws).cps.toList:=by
 have e:Txt.join (one 32) ws=Str.join (one 32) ws:=StrLaws.glued_eq_join _ _
 unfold lineOf
 rw [e,J2]
 refine i7 (by decide) _ λw hw=>?_
 obtain⟨v,hv,rfl⟩:=List.mem_map.mp hw
 exact (h.2.2 v hv).2.2.2
def Bad (t:Nat) (l:Str):Prop:=l.length<=300/\10∉l.cps.toList/\∀A,Wp (D3 [.str l]) A (λv A'=>(v=.non\/∃q:Row,v=q.v/\q.t<t)/\A<+:A') NoX
theorem Q0 {α:Type} (xs:List α) (i:Nat):cut xs none (some (i:Int))=xs.take i:=by
 by_cases h:i<=xs.length
 ·exact ae9 xs i h
 ·have e:G0 xs.length xs.length (some (i:Int))=xs.length:=by simp only [G0];split <;> omega
  unfold cut;rw [e];simp [G0];rw [List.take_of_length_le (by omega)]
theorem M5 {α:Type} (xs:List α) (i:Nat):cut xs (some (i:Int)) none=xs.drop i:=by
 by_cases h:i<=xs.length
 ·exact R4 xs i h
 ·have e:G0 xs.length 0 (some (i:Int))=xs.length:=by simp only [G0];split <;> omega
  unfold cut;rw [e,List.drop_of_length_le (by omega:xs.length<=i),List.drop_of_length_le (Nat.le_refl xs.length)];simp
theorem L3 {ws:List Str} (h:P9 ws) (hx:∃w∈ws.take 1++ws.drop 2,isN w=false) (t:Nat):Bad t (lineOf ws):=by
 refine⟨by have:=K5 h;omega,W6 h,λA=>?_⟩
 have hll:=K5 h
 have hwn:=h.2.1
 unfold D3
 walk_at "fn"
 walk_at "go"
 refine⟨32,ws,congrArg PV.str T2,rfl,⟨by decide,h.1,λw hw=>(h.2.2 w hw).2.2.1,lim_le (by omega),lim_le (by omega)⟩,?_⟩
 have c1:cut (ws.map PV.str) none (some 1)=(ws.take 1).map .str:=(Q0 _ 1).trans (List.map_take ..).symm
 have c2:cut (ws.map PV.str) (some 2) none=(ws.drop 2).map .str:=(M5 _ 2).trans (List.map_drop ..).symm
 walk_at "go"
 rw [c1,c2]
 refine N0 (get_app_of get_app) get_app (lim_le (by simp;omega)) ?_
 walk_at "go"
 rw [←List.map_append]
 refine w_mono (X8 (ws:=ws.take 1++ws.drop 2) (λw hw=>?_) (by simp;omega) hx get_app) λv A1 ⟨hv,hp⟩=>?_
 ·have hm:w∈ws:=by
   rcases List.mem_append.mp hw with hw | hw
   ·exact List.mem_of_mem_take hw
   ·exact List.mem_of_mem_drop hw
  have:=h.2.2 w hm
  exact⟨this.1,by omega⟩
 subst hv
 walk_at "gb"
 exact⟨.inl rfl,(((((List.prefix_append _ _).trans (List.prefix_append _ _)).trans (List.prefix_append _ _)).trans (List.prefix_append _ _))).trans hp⟩
theorem W7 {ws:List Str} (h:P9 ws) {ns:List Nat} (hn:ws.take 1++ws.drop 2=ns.map num) (hb:∀n∈ns,n<1000000000) (hl:ns.length<3) (t:Nat):Bad t (lineOf ws):=by
 refine⟨by have:=K5 h;omega,W6 h,λA=>?_⟩
 have hll:=K5 h
 have hwn:=h.2.1
 unfold D3
 walk_at "fn"
 walk_at "go"
 refine⟨32,ws,congrArg PV.str T2,rfl,⟨by decide,h.1,λw hw=>(h.2.2 w hw).2.2.1,lim_le (by omega),lim_le (by omega)⟩,?_⟩
 have c1:cut (ws.map PV.str) none (some 1)=(ws.take 1).map .str:=(Q0 _ 1).trans (List.map_take ..).symm
 have c2:cut (ws.map PV.str) (some 2) none=(ws.drop 2).map .str:=(M5 _ 2).trans (List.map_drop ..).symm
 walk_at "go"
 rw [c1,c2]
 refine N0 (get_app_of get_app) get_app (lim_le (by simp;omega)) ?_
 walk_at "go"
 rw [←List.map_append,hn]
 refine w_mono (L8 ns hb (by omega) get_app) λv A1 ⟨m,hv,hm,hp⟩=>?_
 subst hv
 walk_at "go"
 refine brF ?_
 walk_at "go"
 refine brTx (by first | omega | (simp;omega)) ?_
 walk_at "go"
 exact⟨.inl rfl,(((((List.prefix_append _ _).trans (List.prefix_append _ _)).trans (List.prefix_append _ _)).trans (List.prefix_append _ _))).trans hp⟩
theorem i9 {t a b:Nat} {k:Str} {ch:List Nat} (h:P9 (num t::k::(a::b::ch).map num)) (hb:∀n∈t::a::b::ch,n<1000000000) (h1:k="lay"->ch≠[]) (h2:k="say"->ch=[]) (tt:Nat):Bad tt (lineOf (num t::k::(a::b::ch).map num)):=by
 refine⟨by have:=K5 h;omega,W6 h,λA=>?_⟩
 have hll:=K5 h
 have hwn:=h.2.1
 have hch:ch.length<=16:=by simp at hwn;omega
 generalize hws:num t::k::(a::b::ch).map num=ws at h hll hwn
 unfold D3
 walk_at "fn"
 walk_at "go"
 refine⟨32,ws,congrArg PV.str T2,rfl,⟨by decide,h.1,λw hw=>(h.2.2 w hw).2.2.1,lim_le (by omega),lim_le (by omega)⟩,?_⟩
 have hw:ws.map PV.str=.str (num t) :: .str k::((a::b::ch).map num).map .str:=by rw [←hws];rfl
 have c1:cut (ws.map PV.str) none (some 1)=[.str (num t)]:=by rw [hw];exact (ae9 _ 1 (by simp)).trans rfl
 have c2:cut (ws.map PV.str) (some 2) none=((a::b::ch).map num).map .str:=by rw [hw];exact (R4 _ 2 (by simp)).trans rfl
 walk_at "go"
 rw [c1,c2]
 refine N0 (get_app_of get_app) get_app (lim_le (by simp;omega)) ?_
 walk_at "go"
 generalize hB:A++[PO.lst (ws.map PV.str)]++[PO.lst [PV.str (num t)]]++[PO.lst (((a::b::ch).map num).map .str)]=B
 have hB1:A++[PO.lst (ws.map PV.str)]<+:B:=by rw [←hB];exact (List.prefix_append _ _).trans (List.prefix_append _ _)
 refine w_mono (L8 (t::a::b::ch) hb (by simp;omega) (k:=B.length) get_app) λv A1 ⟨m,hv,hm,hp⟩=>?_
 subst hv
 have hp2:A++[PO.lst (ws.map PV.str)]<+:A1:=(hB1.trans (List.prefix_append _ _)).trans hp
 have hpA:A<+:A1:=(List.prefix_append _ _).trans hp2
 have hW:A1[A.length]?=some (.lst (ws.map PV.str)):=C8 hp2 get_app
 have x0:atI (nvs (t::a::b::ch)) 0=some (.int t):=atN (i:=0) rfl
 have x1:atI (nvs (t::a::b::ch)) 1=some (.int a):=atN (i:=1) rfl
 have x2:atI (nvs (t::a::b::ch)) 2=some (.int b):=atN (i:=2) rfl
 have hln:(nvs ch).length<=LIM:=lim_le (by simp [nvs];omega)
 have y1:atI (ws.map PV.str) 1=some (.str k):=by rw [hw];exact atN (i:=1) rfl
 have hpr:plain (.tup (nvs ch))=true/\plain (.tup [])=true:=⟨by show (nvs ch).all X0=true;rw [List.all_map];exact List.all_eq_true.mpr λ_ _=>rfl,rfl⟩
 have he:H8 (nvs ch) []=decide (ch=[]):=by
  cases ch with
  | nil=>simp [nvs,H8]
  | cons a l=>simp [nvs,H8]
 have c3:cut (nvs (t::a::b::ch)) (some 3) none=nvs ch:=(R4 _ 3 (by simp [nvs])).trans rfl
 walk_at "go"
 refine brF ?_
 walk_at "go"
 refine brFx (by simp;omega) ?_
 walk_at "go"
 rw [c3]
 walk_at "go"
 by_cases k1:k="lay"
 ·have hc:=h1 k1
  refine brTx k1 ?_
  walk_at "go"
  refine w_eqT hpr ?_
  rw [he,decide_eq_false hc]
  walk_at "gb"
  refine brFx (by rw [k1];decide +kernel) ?_
  walk_at "go"
  exact⟨.inl rfl,hpA.trans (List.prefix_append _ _)⟩
 ·refine brFx k1 ?_
  walk_at "go"
  by_cases k2:k="say"
  ·have hc:=h2 k2
   refine brTx k2 ?_
   walk_at "go"
   refine w_neT hpr ?_
   rw [he,decide_eq_true hc]
   walk_at "gb"
   exact⟨.inl rfl,hpA.trans (List.prefix_append _ _)⟩
  ·refine brFx k2 ?_
   walk_at "go"
   exact⟨.inl rfl,hpA.trans (List.prefix_append _ _)⟩
theorem ab6 {q:Row} (h:q.ok) {t:Nat} (ht:q.t<t):Bad t q.line:=by
 refine⟨by have:=J7 h;omega,Y4 q,λA=>?_⟩
 exact w_mono (read_deed_ok h A) λv A' ⟨h1,h2⟩=>⟨.inr ⟨q,h1,ht⟩,h2⟩
def tOf (ls:List Str):Str:=Txt.join (one 10) ls
theorem N1 (c:Nat) (ws:List Str):(Txt.join (one c) ws).cps.toList=D5 c (ws.map λw=>w.cps.toList):=by
 have e:Txt.join (one c) ws=Str.join (one c) ws:=StrLaws.glued_eq_join _ _
 rw [e,J2]
theorem S0 {c:Nat}:∀{ws vs:List (List Nat)},ws≠[]->vs≠[]->D5 c (ws++vs)=D5 c ws++c::D5 c vs
 | [],_,h,_=>absurd rfl h
 | [w],[],_,h=>absurd rfl h
 | [w],v::vs,_,_=>by simp [D5]
 | w::w2::ws,vs,_,h=>by
   have ih:=S0 (c:=c) (ws:=w2::ws) (vs:=vs) (by simp) h
   simp only [List.cons_append,D5] at ih ⊢
   rw [ih];simp
theorem V2 {ws vs:List Str} {s:Str} (h1:ws≠[]) (h2:vs≠[]) (hs:s.cps.toList=32::D5 32 (vs.map λw=>w.cps.toList)):lineOf ws++s=lineOf (ws++vs):=by
 refine V0 ?_
 have e:(lineOf ws++s).cps.toList=(lineOf ws).cps.toList++s.cps.toList:=by show ((lineOf ws).cps++s.cps).toList=_;simp
 unfold lineOf at e ⊢
 rw [e,N1,N1,hs,List.map_append,S0 (by simpa using h1) (by simpa using h2)]
theorem ab7 (x:Str) (c:Nat):∀(l:List Nat) (st:Array Nat×Nat),st.1.size=1->(forIn l st (occBody x (one c) x.length 1)).run.fst.toList=st.1.toList
 | [],st,_=>by simp
 | a::l,st,h=>by
   rw [List.forIn_cons]
   unfold occBody
   rw [if_neg λk=>by have:=k.1.1.1;omega]
   exact ab7 x c l (st.1,st.2) h
theorem o6 (x:Str) (c:Nat):∀(l:List Nat) (f:Nat),(∀i∈l,f<=i)->(forIn l ((#[]:Array Nat),f) (occBody x (one c) x.length 1)).run.fst.toList=(l.find? λi=>x.cps.toList[i]? == some c).toList
 | [],f,_=>by simp
 | a::l,f,hf=>by
   rw [List.forIn_cons]
   unfold occBody
   have key:=subAt_one x c a
   by_cases h:x.cps.toList[a]?=some c
   ·have k:=key.mpr h
    rw [if_pos ⟨⟨⟨by simp,hf a (List.mem_cons_self ..)⟩,k.1⟩,k.2⟩]
    refine (ab7 x c l ((#[]:Array Nat).push a,a+(one c).length) (by simp)).trans ?_
    have:(x.cps.toList[a]? == some c)=true:=by rw [h];simp
    rw [List.find?_cons,this];simp
   ·rw [if_neg λk=>h (key.mp ⟨k.1.2,k.2⟩)]
    refine (o6 x c l f λi hi=>hf i (List.mem_cons_of_mem _ hi)).trans ?_
    have:(x.cps.toList[a]? == some c)=false:=by simpa using h
    rw [List.find?_cons,this]
theorem aM3 {x:Str} {c:Nat} {P R:List Nat} (hx:x.cps.toList=P++c::R) (hP:c∉P):occurrences x (one c) 0 x.length 1=[P.length]:=by
 have hlen:x.length=P.length+(R.length+1):=by have:=congrArg List.length hx;rw [i8] at this;simpa using this
 rw [occ_eq,o6 x c _ _ λi _=>Nat.zero_le i]
 have e:List.range' 0 (x.length+1 - 0)=List.range' 0 P.length++(P.length::List.range' (P.length+1) (R.length+1)):=by
  rw [hlen,show P.length+(R.length+1)+1 - 0=P.length+(R.length+1+1) by omega,←List.range'_append_1,List.range'_succ]
  simp
 rw [e,List.find?_append,List.find?_eq_none.mpr λi hi=>?_,List.find?_cons]
 ·have:(x.cps.toList[P.length]? == some c)=true:=by rw [hx];simp
  rw [this];rfl
 ·have hi:=(List.mem_range'_1.mp hi).2
  rw [hx,List.getElem?_append_left (by omega)]
  intro z
  have z:P[i]?=some c:=by simpa using z
  exact hP (List.mem_of_getElem? z)
theorem al6 {w:Str} {ws:List Str} (h0:ws≠[]) (hw:32∉w.cps.toList):Q8 (lineOf (w::ws)) " " "  " = lineOf (w :: "" :: ws)/\(occurrences (lineOf (w::ws)) " " 0 (lineOf (w::ws)).length 1).length=1:=by
 have hx:(lineOf (w::ws)).cps.toList=w.cps.toList++32::D5 32 (ws.map λv=>v.cps.toList):=by
  unfold lineOf
  rw [N1,show w::ws=[w]++ws from rfl,List.map_append,S0 (by simp) (by simpa using h0)]
  rfl
 generalize lineOf (w::ws)=x at hx
 have ho:=aM3 hx hw
 rw [←T2] at ho
 refine⟨?_,by rw [ho];rfl⟩
 have hlen:x.length=w.cps.toList.length+((D5 32 (ws.map λv=>v.cps.toList)).length+1):=by have:=congrArg List.length hx;rw [i8] at this;simpa using this
 unfold Q8
 rw [ho,if_neg (by simp)]
 refine V0 ?_
 have e1:partsBetween x [w.cps.toList.length] (" " : Str).length=[strSub x 0 w.cps.toList.length,strSub x (w.cps.toList.length+1) x.length]:=rfl
 rw [e1]
 have e2:(glued "  " [strSub x 0 w.cps.toList.length,strSub x (w.cps.toList.length+1) x.length]).cps=(strSub x 0 w.cps.toList.length).cps++("  " : Str).cps++(strSub x (w.cps.toList.length+1) x.length).cps:=rfl
 have e3:(strSub x 0 w.cps.toList.length).cps.toList=w.cps.toList:=by
  show (x.cps.extract 0 _).toList=_
  rw [Array.toList_extract,hx];simp
 have e4:(strSub x (w.cps.toList.length+1) x.length).cps.toList=D5 32 (ws.map λv=>v.cps.toList):=by
  show (x.cps.extract _ _).toList=_
  rw [Array.toList_extract,hx]
  have z:(w.cps.toList++32::D5 32 (ws.map λv=>v.cps.toList)).drop (w.cps.toList.length+1)=D5 32 (ws.map λv=>v.cps.toList):=by rw [List.drop_append,List.drop_of_length_le (by omega),show w.cps.toList.length+1 - w.cps.toList.length=1 by omega];rfl
  rw [List.extract_eq_drop_take,z]
  exact List.take_of_length_le (by omega)
 have e5:("  " : Str).cps.toList=[32,32]:=by decide +kernel
 rw [e2,Array.toList_append,Array.toList_append,e3,e4,e5]
 unfold lineOf
 rw [N1,show w :: "" :: ws=[w,""]++ws from rfl,List.map_append,S0 (by simp) (by simpa using h0)]
 have e6:("" : Str).cps.toList=[]:=by decide +kernel
 simp only [List.map_cons,List.map_nil,D5,e6]
 simp
def P0 (w:Str):Prop:=w.cps.all (·< 128)=true/\w.length<=12/\32∉w.cps.toList/\10∉w.cps.toList
theorem L4 {n:Nat} (h:n<1000000000):P0 (num n):=by
 refine⟨?_,by have:=R7 h;omega,λz=>by have:=num_dig z;omega,λz=>by have:=num_dig z;omega⟩
 rw [←Array.all_toList]
 exact List.all_eq_true.mpr λc hc=>by have:=num_dig hc;simp;omega
theorem av7 (r:Row):P0 r.k:=by unfold Row.k P0;split <;> decide +kernel
theorem J3 {r:Row} (h:r.ok):∀w∈r.words,P0 w:=by
 intro w hw
 unfold Row.words at hw
 rcases List.mem_cons.mp hw with rfl | hw
 ·exact L4 h.1
 ·rcases List.mem_cons.mp hw with rfl | hw
  ·exact av7 r
  ·obtain⟨n,hn,rfl⟩:=List.mem_map.mp hw
   exact L4 (h.2.1 n hn)
theorem N3 {ws:List Str} (h0:ws≠[]) (hl:ws.length<=20) (h:∀w∈ws,P0 w):P9 ws:=⟨h0,hl,λw hw=>h w hw⟩
theorem aM4 (r:Row):isN r.k=false:=by unfold Row.k;split <;> decide +kernel
theorem al7 (l:List Str) (d:Nat) (h:0<l.length):∃o∈l,atI (l.map PV.str) ((d:Int)%(l.length:Int))=some (.str o):=by
 have hlt:=Nat.mod_lt d h
 refine⟨l[d%l.length],List.getElem_mem _,?_⟩
 rw [show ((d:Int)%(l.length:Int))=((d%l.length:Nat):Int) by omega]
 exact atN (by rw [List.getElem?_map,List.getElem?_eq_getElem hlt];rfl)
def odds:List Str:=["","x","-1","+1","01","00","1000000000","2x"]
theorem x8:∀o∈odds,isN o=false/\o.cps.all (·< 128)=true/\o.length<=12/\32∉o.cps.toList/\10∉o.cps.toList:=by decide +kernel
theorem al8 {A B:PHp} {k:Nat} {ws:List Str} (hk:B[k]?=some (.lst (ws.map .str))) (hs:(ws.map (·.length)).sum+ws.length<=1048576) (hb:Bad 1 (lineOf ws)) (hp:A<+:B) :
 ∃n ys,PV.ref k=.ref n/\B[n]?=some (.lst (ys.map .str))/\((Str.ofString " ").length<=16/\(ys.map (·.length)).sum+ys.length<=1048576)/\(∃l,PV.str (Txt.join (Str.ofString " ") ys)=.str l/\Bad 1 l)/\A<+:B:=
 ⟨k,ws,rfl,hk,⟨by decide +kernel,hs⟩,⟨lineOf ws,by rw [show Str.ofString " " = one 32 from T2];rfl,hb⟩,hp⟩
theorem w_repl {A:PHp} {Q:PV->PHp->Prop} {E:XP} {σ:PSt} {e:ED} {u w:Str} (h:Wp (e σ) A (λx A1=>∃z,x=.str z/\(((u.length == 0)=false/\(u == w)=false)/\z.length+(occurrences z u 0 z.length 1).length*w.length<=LIM/\(Q8 z u w).length<=LIM)/\Q (.str (Q8 z u w)) A1) E):Wp (ad3 e u w σ) A Q E:=
 A7 (w_mono h λx A1 ⟨z,hx,hc,q⟩=>by subst hx;exact C4 hc q)
variable {r:Row}
theorem two (r:Row):r.words=num r.t::r.k::(r.a::r.b::r.ch).map num:=rfl
theorem aC1 (h:r.ok) {vs:List Str} (h0:vs≠[]) (hl:vs.length<=2) (hg:∀v∈vs,P0 v) (hx:∃v∈vs,isN v=false):Bad 1 (lineOf (r.words++vs)):=by
 refine L3 (N3 (by simp [Row.words]) (by have:=N2 h;simp;omega) λw hw=>?_) ?_ 1
 ·rcases List.mem_append.mp hw with hw | hw
  ·exact J3 h w hw
  ·exact hg w hw
 ·obtain⟨v,hv,e⟩:=hx
  exact⟨v,List.mem_append.mpr (.inr (by rw [two];simp [hv])),e⟩
theorem ab8 (h:r.ok) (hc:r.ch=[]) {ns:List Nat} (h0:ns≠[]) (hl:ns.length<=2) (hg:∀n∈ns,n<1000000000):Bad 1 (lineOf (r.words++ns.map num)):=by
 have e:r.words++ns.map num=num r.t::r.k::(r.a::r.b::ns).map num:=by rw [two,hc];simp
 rw [e]
 refine i9 (N3 (by simp) (by simp;omega) λw hw=>?_) (λn hn=>?_) (λ_=>h0) (λz=>?_) 1
 ·rw [←e] at hw
  rcases List.mem_append.mp hw with hw | hw
  ·exact J3 h w hw
  ·obtain⟨n,hn,rfl⟩:=List.mem_map.mp hw
   exact L4 (hg n hn)
 ·simp only [List.mem_cons] at hn
  rcases hn with rfl | rfl | rfl | hn
  ·exact h.1
  ·exact h.2.1 _ (by simp)
  ·exact h.2.1 _ (by simp)
  ·exact hg n hn
 ·have:r.k="lay":=by unfold Row.k;rw [if_pos hc]
  rw [this] at z
  exact absurd z (by decide +kernel)
theorem ab9 (h:r.ok) (n:Nat) (hn:n<5) (h4:n=4->r.k="say"):Bad 1 (lineOf (r.words.take n)):=by
 have hg:∀w∈r.words.take n,P0 w:=λw hw=>J3 h w (List.mem_of_mem_take hw)
 have hl:(r.words.take n).length<=20:=by simp;omega
 have ht:=h.1
 have ha:=h.2.1 r.a (by simp)
 have hb:=h.2.1 r.b (by simp)
 have hw:=two r
 match n,hn,h4,hg,hl with
 | 0,_,_,_,_=>
   have e:lineOf (r.words.take 0)=lineOf [""]:=by show lineOf ([]:List Str)=lineOf [""];decide +kernel
   rw [e]
   exact L3 (N3 (by simp) (by simp) (by unfold P0;decide +kernel)) ⟨"",by decide +kernel,by decide +kernel⟩ 1
 | 1,_,_,hg,hl=>exact W7 (N3 (by rw [hw];simp) hl hg) (ns:=[r.t]) (by rw [hw];rfl) (by simp [ht]) (by simp) 1
 | 2,_,_,hg,hl=>exact W7 (N3 (by rw [hw];simp) hl hg) (ns:=[r.t]) (by rw [hw];rfl) (by simp [ht]) (by simp) 1
 | 3,_,_,hg,hl=>exact W7 (N3 (by rw [hw];simp) hl hg) (ns:=[r.t,r.a]) (by rw [hw];rfl) (by simp [ht,ha]) (by simp) 1
 | 4,_,h4,hg,hl=>
   have hk:=h4 rfl
   have e:r.words.take 4=num r.t::r.k::(r.a::r.b::[]).map num:=by rw [hw];rfl
   rw [e] at hg hl ⊢
   exact i9 (N3 (by simp) hl hg) (by simp [ht,ha,hb]) (λz=>by rw [hk] at z;exact absurd z (by decide +kernel)) (λ_=>rfl) 1
def others:List Str:=["Lay","says","","pass","7"]
theorem o7:∀o∈others,(o≠"lay"/\o≠"say")/\o.cps.all (·< 128)=true/\o.length<=12/\32∉o.cps.toList/\10∉o.cps.toList:=by decide +kernel
theorem al9 (h:r.ok) {o:Str} (ho:o∈others):Bad 1 (lineOf (r.words.take 1++[o]++r.words.drop 2)):=by
 have e:r.words.take 1++[o]++r.words.drop 2=num r.t::o::(r.a::r.b::r.ch).map num:=rfl
 have g:=o7 o ho
 rw [e]
 refine i9 (N3 (by simp) (by have:=h.2.2;simp;omega) λw hw=>?_) (λn hn=>?_) (λz=>absurd z g.1.1) (λz=>absurd z g.1.2) 1
 ·simp only [List.mem_cons] at hw
  rcases hw with rfl | rfl | hw
  ·exact L4 h.1
  ·exact g.2
  ·obtain⟨n,hn,rfl⟩:=List.mem_map.mp hw
   exact L4 (h.2.1 n hn)
 ·rcases List.mem_cons.mp hn with rfl | hn
  ·exact h.1
  ·exact h.2.1 n hn
theorem am0 (h:r.ok):Bad 1 (lineOf (num r.t :: "" :: r.k::(r.a::r.b::r.ch).map num)):=by
 refine L3 (N3 (by simp) (by have:=h.2.2;simp;omega) λw hw=>?_) ⟨r.k,by simp,aM4 r⟩ 1
 simp only [List.mem_cons] at hw
 rcases hw with rfl | rfl | hw
 ·exact L4 h.1
 ·unfold P0;decide +kernel
 ·exact J3 h w (by rw [two];exact List.mem_cons_of_mem _ (by simpa using hw))
theorem av8 (h:r.ok) {o:Str} (ho:o∈odds):Bad 1 (lineOf (r.words.dropLast++[o])):=by
 have g:=x8 o ho
 have hw:=N2 h
 have hlen:4<=r.words.length:=by rw [two];simp
 refine L3 (N3 (by simp) (by simp;omega) λw hw=>?_) ⟨o,?_,g.1⟩ 1
 ·rcases List.mem_append.mp hw with hw | hw
  ·exact J3 h w (List.dropLast_subset _ hw)
  ·rw [List.mem_singleton.mp hw];exact g.2
 ·refine List.mem_append.mpr (.inr ?_)
  rw [List.drop_append_of_le_length (by simp;omega)]
  simp
def firsts:List Str:=["0","x","-2","02","1000000000"]
theorem o8:∀o∈firsts,(o="0"\/isN o=false)/\o.cps.all (·< 128)=true/\o.length<=12/\32∉o.cps.toList/\10∉o.cps.toList:=by decide +kernel
theorem am1 (h:r.ok) {o:Str} (ho:o∈firsts):Bad 1 (lineOf ([o]++r.words.drop 1)):=by
 have g:=o8 o ho
 rcases g.1 with rfl | hn
 ·have e:lineOf ([("0" : Str)]++r.words.drop 1)=({ r with t:=0 }:Row).line:=by
   show Txt.join (one 32) _=Txt.join (one 32) _
   rw [←ab4];rfl
  rw [e]
  exact ab6 (q:={ r with t:=0 }) ⟨by show 0<_;decide,h.2.1,h.2.2⟩ (by show 0<1;decide)
 ·refine L3 (N3 (by simp) (by have:=N2 h;simp;omega) λw hw=>?_) ⟨o,by simp,hn⟩ 1
  rcases List.mem_append.mp hw with hw | hw
  ·rw [List.mem_singleton.mp hw];exact g.2
  ·exact J3 h w (List.mem_of_mem_drop hw)
theorem am2 (h:r.ok) {o:Str} (ho:o∈odds):Bad 1 (lineOf (r.words.take 2++[o]++r.words.drop 3)):=by
 have g:=x8 o ho
 have e:r.words.take 2++[o]++r.words.drop 3=num r.t::r.k::o::(r.b::r.ch).map num:=rfl
 rw [e]
 refine L3 (N3 (by simp) (by have:=h.2.2;simp;omega) λw hw=>?_) ⟨o,by simp,g.1⟩ 1
 simp only [List.mem_cons] at hw
 rcases hw with rfl | rfl | rfl | hw
 ·exact L4 h.1
 ·exact av7 r
 ·exact g.2
 ·exact J3 h w (by rw [two];simp at hw ⊢;exact .inr (.inr (.inr hw)))
def sufL:List Str:=[" x"," "," -1"," 01"," 0"," 1 2"]
def sufS:List Str:=[" x"," "," -1"," 01"]
theorem aR6 (h:r.ok) {s:Str} (hs:s∈sufS):Bad 1 (r.line++s):=by
 have key:∀v:Str,v∈(["x","","-1","01"]:List Str)->P0 v/\isN v=false:=by unfold P0;decide +kernel
 have go:∀v:Str,v∈(["x","","-1","01"]:List Str)->s.cps.toList=32::D5 32 ([v].map λw=>w.cps.toList)->Bad 1 (r.line++s):=λv hv e=>by
  rw [show r.line=lineOf r.words from rfl,V2 (by rw [two];simp) (by simp) e]
  exact aC1 h (by simp) (by simp) (by simpa using (key v hv).1) ⟨v,by simp,(key v hv).2⟩
 have hs:s=" x"\/s=" "\/s=" -1"\/s=" 01":=by simpa [sufS] using hs
 rcases hs with rfl | rfl | rfl | rfl
 ·exact go "x" (by simp) (by decide +kernel)
 ·exact go "" (by simp) (by decide +kernel)
 ·exact go "-1" (by simp) (by decide +kernel)
 ·exact go "01" (by simp) (by decide +kernel)
theorem aU6 (h:r.ok) (hc:r.ch=[]) {s:Str} (hs:s∈sufL):Bad 1 (r.line++s):=by
 have hs:s∈sufS\/s=" 0"\/s=" 1 2":=by simpa [sufL,sufS,or_assoc] using hs
 rcases hs with hs | rfl | rfl
 ·exact aR6 h hs
 ·rw [show r.line=lineOf r.words from rfl,V2 (vs:=[0].map num) (by rw [two];simp) (by simp) (by decide +kernel)]
  exact ab8 h hc (by simp) (by simp) (by simp)
 ·rw [show r.line=lineOf r.words from rfl,V2 (vs:=[1,2].map num) (by rw [two];simp) (by simp) (by decide +kernel)]
  exact ab8 h hc (by simp) (by simp) (by simp)
variable {r:Row}
theorem G5 (l m:List Str):l.map PV.str++m.map PV.str=(l++m).map PV.str:=(List.map_append ..).symm
theorem W8 {ws:List Str} {n:Nat} (h:∀w∈ws,w.length<=12) (hl:ws.length<=n) (hn:n<=20):(ws.map (·.length)).sum+ws.length<=1048576:=by
 have:=ae7 (ys:=ws) (b:=12) h
 have:ws.length*12<=20*12:=Nat.mul_le_mul_right _ (by omega)
 omega
theorem av9 {α:Type} (xs:List α) (h:1<=xs.length):cut xs none (some (-1))=xs.dropLast:=by
 have e:G0 xs.length xs.length (some (-1))=xs.length - 1:=by simp only [G0];split <;> omega
 unfold cut;rw [e,List.dropLast_eq_take];simp [G0]
set_option maxHeartbeats 4000000 in
theorem af0 (h:r.ok) (way:Int) (hway:way=0\/way=1\/way=2\/way=3\/way=4\/way=5\/way=6) (d:Nat) (A:PHp) :
 Wp (M4 [.str r.line,.int way,.int d]) A (λv A'=>(∃l,v=.str l/\Bad 1 l)/\A<+:A') NoX:=by
 have hll:=J7 h
 have hwn:=N2 h
 have hwl:=W5 h
 have hl4:4<=r.words.length:=by rw [two];simp
 obtain⟨o,ho,hoi⟩:=al7 odds d (by decide)
 have hoi:atI [PV.str "",PV.str "x",PV.str "-1",PV.str "+1",PV.str "01",PV.str "00",PV.str "1000000000",PV.str "2x"] ((d:Int)%8)=some (.str o):=hoi
 have hol:=(x8 o ho).2.2.1
 have y1:atI (r.words.map PV.str) 1=some (.str r.k):=atN (i:=1) rfl
 unfold M4
 walk_at "fn"
 walk_at "go"
 refine⟨32,r.words,congrArg PV.str T2,rfl,⟨by decide,by simp [Row.words],λw hw=>(Y3 w hw).1,lim_le (by omega),lim_le (by omega)⟩,?_⟩
 walk_at "go"
 generalize hB:A++[PO.lst (r.words.map PV.str)]++[PO.lst [PV.str "",PV.str "x",PV.str "-1",PV.str "+1",PV.str "01",PV.str "00",PV.str "1000000000",PV.str "2x"]]=B
 have hAB:A<+:B:=by rw [←hB];exact (List.prefix_append _ _).trans (List.prefix_append _ _)
 have hW:B[A.length]?=some (.lst (r.words.map PV.str)):=by rw [←hB];exact get_app_of get_app
 clear hB
 rcases hway with rfl | rfl | rfl | rfl | rfl | rfl | rfl
 ·refine brTx rfl ?_
  by_cases hc:r.ch=[]
  ·have hk:r.k="lay":=by unfold Row.k;rw [if_pos hc]
   obtain⟨s,hs,hsi⟩:=al7 sufL d (by decide)
   have hsi:atI [PV.str " x",PV.str " ",PV.str " -1",PV.str " 01",PV.str " 0",PV.str " 1 2"] ((d:Int)%6)=some (.str s):=hsi
   have hsl:s.length<=12:=(show ∀s∈sufL,s.length<=12 by decide +kernel) s hs
   walk_at "go"
   refine brTx hk ?_
   walk_at "go"
   refine w_addS (lim_le (by omega)) ?_
   walk_at "go"
   exact⟨⟨_,rfl,aU6 h hc hs⟩,hAB.trans (List.prefix_append _ _)⟩
  ·have hk:r.k="say":=by unfold Row.k;rw [if_neg hc]
   obtain⟨s,hs,hsi⟩:=al7 sufS d (by decide)
   have hsi:atI [PV.str " x",PV.str " ",PV.str " -1",PV.str " 01"] ((d:Int)%4)=some (.str s):=hsi
   have hsl:s.length<=12:=(show ∀s∈sufS,s.length<=12 by decide +kernel) s hs
   walk_at "go"
   refine brFx (by rw [hk];decide +kernel) ?_
   walk_at "gb"
   refine w_addS (lim_le (by omega)) ?_
   walk_at "go"
   exact⟨⟨_,rfl,aR6 h hs⟩,hAB.trans (List.prefix_append _ _)⟩
 ·walk_at "gb"
  by_cases hk:r.k="say"
  ·rw [decide_eq_true hk]
   walk_at "gb"
   have e:(d:Int)%(4+(if true=true then 1 else 0))=((d%5:Nat):Int):=by rw [if_pos rfl];omega
   rw [e,Q0,←List.map_take]
   exact al8 get_app (W8 (n:=10) (λw hw=>by have:=hwl w (List.mem_of_mem_take hw);omega) (by simp;omega) (by decide)) (ab9 h _ (Nat.mod_lt _ (by decide)) λ_=>hk) (hAB.trans (List.prefix_append _ _))
  ·rw [decide_eq_false hk]
   walk_at "gb"
   have e:(d:Int)%(4+(if false=true then 1 else 0))=((d%4:Nat):Int):=by rw [if_neg (by simp)];omega
   rw [e,Q0,←List.map_take]
   have hm:d%4<4:=Nat.mod_lt _ (by decide)
   exact al8 get_app (W8 (n:=10) (λw hw=>by have:=hwl w (List.mem_of_mem_take hw);omega) (by simp;omega) (by decide)) (ab9 h _ (by omega) λz=>by omega) (hAB.trans (List.prefix_append _ _))
 ·obtain⟨s,hs,hsi⟩:=al7 others d (by decide)
  have hsi:atI [PV.str "Lay",PV.str "says",PV.str "",PV.str "pass",PV.str "7"] ((d:Int)%5)=some (.str s):=hsi
  have hsl:=(o7 s hs).2.2.1
  walk_at "gb"
  have c1:cut (r.words.map PV.str) none (some 1)=(r.words.take 1).map .str:=(Q0 _ 1).trans (List.map_take ..).symm
  have c2:cut (r.words.map PV.str) (some 2) none=(r.words.drop 2).map .str:=(M5 _ 2).trans (List.map_drop ..).symm
  rw [c1]
  refine N0 (m:=[s].map PV.str) (get_app_of (get_app_of get_app)) get_app (lim_le (by simp;omega)) ?_
  walk_at "go"
  rw [c2]
  refine N0 (l:=(r.words.take 1++[s]).map PV.str) (get_app_of (by rw [←G5];exact get_app)) get_app (lim_le (by simp;omega)) ?_
  rw [G5]
  exact al8 get_app (W8 (n:=12) (λw hw=>by
   simp only [List.mem_append,List.mem_singleton] at hw
   rcases hw with (hw | rfl) | hw
   ·have:=hwl w (List.mem_of_mem_take hw);omega
   ·exact hsl
   ·have:=hwl w (List.mem_of_mem_drop hw);omega) (by simp;omega) (by decide)) (al9 h hs) (by walk_at "pre")
 ·walk_at "gb"
  refine w_repl ?_
  walk_at "go"
  have hr:=al6 (w:=num r.t) (ws:=r.k::(r.a::r.b::r.ch).map num) (by simp) (L4 h.1).2.2.1
  have hr1:Q8 r.line " " "  " = lineOf (num r.t :: "" :: r.k::(r.a::r.b::r.ch).map num):=hr.1
  have hr2:(occurrences r.line " " 0 r.line.length 1).length=1:=hr.2
  have hbb:=am0 h
  rw [hr1,hr2]
  exact⟨⟨⟨by decide +kernel,by decide +kernel⟩,lim_le (by rw [show ("  " : Str).length=2 by decide +kernel];omega),lim_le (by have:=hbb.1;omega)⟩,⟨_,rfl,hbb⟩,hAB⟩
 ·walk_at "gb"
  have c1:cut (r.words.map PV.str) none (some (-1))=r.words.dropLast.map .str:=(av9 _ (by simp;omega)).trans (List.map_dropLast ..).symm
  rw [c1]
  refine N0 (m:=[o].map PV.str) (get_app_of get_app) get_app (lim_le (by simp;omega)) ?_
  rw [G5]
  exact al8 get_app (W8 (n:=12) (λw hw=>by
   simp only [List.mem_append,List.mem_singleton] at hw
   rcases hw with hw | rfl
   ·have:=hwl w (List.dropLast_subset _ hw);omega
   ·exact hol) (by simp;omega) (by decide)) (av8 h ho) (by walk_at "pre")
 ·obtain⟨s,hs,hsi⟩:=al7 firsts d (by decide)
  have hsi:atI [PV.str "0",PV.str "x",PV.str "-2",PV.str "02",PV.str "1000000000"] ((d:Int)%5)=some (.str s):=hsi
  have hsl:=(o8 s hs).2.2.1
  walk_at "gb"
  have c2:cut (r.words.map PV.str) (some 1) none=(r.words.drop 1).map .str:=(M5 _ 1).trans (List.map_drop ..).symm
  rw [c2]
  refine N0 (l:=[s].map PV.str) (get_app_of get_app) get_app (lim_le (by simp;omega)) ?_
  rw [G5]
  exact al8 get_app (W8 (n:=12) (λw hw=>by
   simp only [List.mem_append,List.mem_singleton] at hw
   rcases hw with rfl | hw
   ·exact hsl
   ·have:=hwl w (List.mem_of_mem_drop hw);omega) (by simp;omega) (by decide)) (am1 h hs) (by walk_at "pre")
 ·walk_at "gb"
  have c1:cut (r.words.map PV.str) none (some 2)=(r.words.take 2).map .str:=(Q0 _ 2).trans (List.map_take ..).symm
  have c2:cut (r.words.map PV.str) (some 3) none=(r.words.drop 3).map .str:=(M5 _ 3).trans (List.map_drop ..).symm
  rw [c1]
  refine N0 (m:=[o].map PV.str) (get_app_of get_app) get_app (lim_le (by simp;omega)) ?_
  walk_at "go"
  rw [c2]
  refine N0 (l:=(r.words.take 2++[o]).map PV.str) (get_app_of (by rw [←G5];exact get_app)) get_app (lim_le (by simp;omega)) ?_
  rw [G5]
  exact al8 get_app (W8 (n:=12) (λw hw=>by
   simp only [List.mem_append,List.mem_singleton] at hw
   rcases hw with (hw | rfl) | hw
   ·have:=hwl w (List.mem_of_mem_take hw);omega
   ·exact hol
   ·have:=hwl w (List.mem_of_mem_drop hw);omega) (by simp;omega) (by decide)) (am2 h ho) (by walk_at "pre")
def lt (rs:List Row):Nat:=(rs.getLast?.map Row.t).getD 1
theorem aw0 {ls:List Str} (h0:ls≠[]) (h:ls≠[("" : Str)]):tOf ls≠"":=by
 intro z
 have hx:=congrArg (λx:Str=>x.cps.toList) z
 have e2:("" : Str).cps.toList=[]:=by decide +kernel
 unfold tOf at hx
 simp only [N1,e2] at hx
 match ls,h0,h,hx with
 | [l],_,h,hx=>
   simp only [List.map_cons,List.map_nil,D5] at hx
   exact h (by rw [V0 (hx.trans e2.symm)])
 | l::m::ls,_,_,hx=>simp only [List.map_cons,D5] at hx;exact absurd (List.append_eq_nil_iff.mp hx).2 (by simp)
theorem ai6 {ls:List Str} (h:∀l∈ls,l.length<=300) (hl:ls.length<=50):(tOf ls).length<=16000/\(ls.map (·.length)).sum+ls.length<=16000:=by
 have h1:=R9 10 ls
 have:=ae7 (ys:=ls) (b:=300) h
 unfold tOf;omega
set_option maxHeartbeats 4000000 in
theorem aw1 {rs:List Row} {l:Str} {ls:List Str} (h:∀r∈rs,r.ok) (hr:av4 rs) (hlen:rs.length+1+ls.length<=50) (hbad:Bad (lt rs) l) (hls:∀x∈ls,x.length<=300/\10∉x.cps.toList)
 (hne:rs.map Row.line++l::ls≠[("" : Str)]) (A:PHp) :
 Wp (G3 [.str (tOf (rs.map Row.line++l::ls))]) A (λ_ _=>False) (λc v A'=>c=17/\v=.int ((rs.length+1:Nat):Int)/\A<+:A'):=by
 have hall:∀x∈rs.map Row.line++l::ls,x.length<=300/\10∉x.cps.toList:=by
  intro x hx
  rcases List.mem_append.mp hx with hx | hx
  ·obtain⟨r,hr,rfl⟩:=List.mem_map.mp hx
   exact⟨by have:=J7 (h r hr);omega,Y4 r⟩
  ·rcases List.mem_cons.mp hx with rfl | hx
   ·exact⟨hbad.1,hbad.2.1⟩
   ·exact hls x hx
 have hLn:(rs.map Row.line++l::ls).length=rs.length+1+ls.length:=by simp;omega
 have hat:(rs.map Row.line++l::ls)[rs.length]?=some l:=by rw [List.getElem?_append_right (by simp)];simp
 have hlo:∀(i:Nat) (r:Row),rs[i]?=some r->(rs.map Row.line++l::ls)[i]?=some r.line:=λi r hi=>by
  have:=(List.getElem?_eq_some_iff.mp hi).1
  rw [List.getElem?_append_left (by simpa using this),List.getElem?_map,hi];rfl
 generalize hL:rs.map Row.line++l::ls=L at hne hall hLn hat hlo
 have hL0:L≠[]:=by rw [←hL];simp
 have htl:=ai6 (λx hx=>(hall x hx).1) (by omega:L.length<=50)
 unfold G3
 walk_at "fn"
 walk_at "go"
 refine brFx (aw0 hL0 hne) ?_
 walk_at "go"
 unfold x_read_deeds_l1
 refine av3 (λi σ B=>∃(w:Nat) (x y z:Option PV),i<=rs.length/\σ=[some (.str (tOf L)),some (.ref A.length),some (.int (w:Nat)),x,y,z]/\(∀r,rs[i]?=some r->w<=r.t)/\(i=rs.length->w=lt rs)/\A<+:B/\B[A.length]?=some (.lst ((rs.take i).map Row.v))/\B[A.length+1]?=some (.lst (L.map .str))) ?_
 walk_at "go"
 refine⟨10,L,congrArg PV.str ai4,rfl,⟨by decide,hL0,λw hw=>(hall w hw).2,(by have:=htl.1;unfold LIM;omega),lim_le (by omega)⟩,?_⟩
 have e1:(A++[PO.lst []]).length=A.length+1:=by simp
 have hls:(A++[PO.lst []]++[PO.lst (L.map .str)])[A.length+1]?=some (.lst (L.map .str)):=by rw [←e1];exact get_app
 refine⟨_,_,rfl,by rw [e1];exact G6 hls,_,_,L.map .str,rfl,⟨1,_,_,_,Nat.zero_le _,rfl,λr h=>hr.1 r (List.mem_of_getElem? h),λz=>?_,(List.prefix_append _ _).trans (List.prefix_append _ _),get_app_of get_app,hls⟩,λi σ B ⟨w,x,y,z,_,_,_,_,_,_,hB⟩=>by rw [e1];exact G6 hB,?_,?_⟩
 ·have:rs=[]:=List.length_eq_zero_iff.mp z.symm
  rw [this];rfl
 ·rintro i v σ B hv ⟨w,x,y,z,hi,rfl,hw,hw2,hA,h1,h2⟩
  rw [List.getElem?_map] at hv
  obtain⟨l',hl',rfl⟩:=Option.map_eq_some_iff.mp hv
  walk_at "go"
  unfold x_read_deeds_b1
  walk_at "go"
  by_cases hlt:i<rs.length
  ·have hri:=List.getElem?_eq_getElem hlt
   generalize hrr:rs[i]=r at hri
   have:=hlo i r hri
   rw [this] at hl'
   cases hl'
   have hrm:=List.mem_of_getElem? hri
   refine w_mono (read_deed_ok (h r hrm) B) λv B1 ⟨hv,hp⟩=>?_
   subst hv
   have k1:=C8 hp h1
   have k2:=C8 hp h2
   have hwr:=hw r hri
   unfold Row.v
   walk_at "go"
   refine brF ?_
   walk_at "go"
   refine brFx (by omega) ?_
   walk_at "go"
   refine⟨lim_lt (by simp;omega),r.t,_,_,_,by omega,rfl,λq hq=>?_,λz=>?_,t8 (hA.trans hp) (Nat.le_refl _),?_,?_⟩
   ·have hq1:=(List.getElem?_eq_some_iff.mp hq)
    have:=List.pairwise_iff_getElem.mp hr.2 i (i+1) hlt hq1.1 (by omega)
    rw [hq1.2,hrr] at this
    exact this
   ·unfold lt
    rw [List.getLast?_eq_getElem?,show rs.length - 1=i by omega,hri];rfl
   ·rw [Y1 k1,List.take_succ,hri,List.map_append];rfl
   ·rw [P5 (by omega)];exact k2
  ·have hie:i=rs.length:=by omega
   have hwe:=hw2 hie
   rw [hie,hat] at hl'
   cases hl'
   refine w_mono (hbad.2.2 B) λv B1 ⟨hv,hp⟩=>?_
   rcases hv with rfl | ⟨q,rfl,hq⟩
   ·walk_at "gb"
    exact⟨by rw [hie,Nat.add_comm],hA.trans hp⟩
   ·unfold Row.v
    walk_at "go"
    refine brF ?_
    walk_at "go"
    refine brTx (by omega) ?_
    walk_at "go"
    exact⟨by rw [hie,Nat.add_comm],hA.trans hp⟩
 ·rintro σ B ⟨w,x,y,z,hi,_⟩
  rw [List.length_map] at hi
  omega
theorem refused_ok {rs:List Row} {l:Str} {ls:List Str} (h:∀r∈rs,r.ok) (hr:av4 rs) (hlen:rs.length+1+ls.length<=50) (hbad:Bad (lt rs) l) (hls:∀x∈ls,x.length<=300/\10∉x.cps.toList)
 (hne:rs.map Row.line++l::ls≠[("" : Str)]) (A:PHp) :
 Wp (G8 [.str (tOf (rs.map Row.line++l::ls))]) A (λv A'=>v=.tup [.int ((rs.length+1:Nat):Int),.bl true,.bl false]/\A<+:A') NoX:=by
 unfold G8
 walk_at "fn"
 walk_at "go"
 refine aR5 ?_
 walk_at "go"
 have hX:Wp (G3 [.str (tOf (rs.map Row.line++l::ls))]) A (λ_ _=>False) (λc v A'=>c=17/\v=.int ((rs.length+1:Nat):Int)/\A<+:A'):=aw1 h hr hlen hbad hls hne A
 refine ah8 hX (λ_ _ z=>z.elim) λc v A' ⟨hc,hv,hp⟩=>?_
 subst hc hv
 refine⟨by decide,?_⟩
 refine av6 (by decide) ?_
 walk_at "go"
 show Wp (sRet (eVar 1) [some (.str (tOf (rs.map Row.line++l::ls))),some (.tup [.int ((rs.length+1:Nat):Int),.bl (subX 17 17),.bl (subX 17 12)]),none]) _ _ _
 walk_at "go"
 exact⟨by rw [show subX 17 17=true by decide,show subX 17 12=false by decide],hp.trans (List.prefix_append _ _)⟩
variable {r:Row}
theorem ai7 {A:PHp} {a:Nat} {ns:List Int} (h:A[a]?=some (.ro (ns.map .int))) (k:Nat):∃c,D0 [.ref a,.int k] A=.ok (.int c) A:=by
 by_cases hk:k<ns.length
 ·refine⟨ns[k],?_⟩
  have hk':(k:Int)<(ns.length:Int):=by omega
  simp [D0,h,hk',hk,atI,ixN]
 ·refine⟨0,?_⟩
  have hk':¬(k:Int)<(ns.length:Int):=by omega
  simp [D0,h,hk',hk]
theorem w_gixL {A:PHp} {E:XP} {σ:PSt} {e1 e2:ED} {v:PV} {Q:PSt->PHp->Prop} (h:Wp (e1 σ) A (λx A1=>Wp (e2 σ) A1 (λy A2=>∃n l k j,x=.ref n/\y=.int k/\A2[n]?=some (.lst l)/\ixN l.length k=some j/\Q σ (A2.set n (.lst (l.set j v)))) E) E):Wp (gIx e1 e2 v σ) A Q E:=
 A7 (w_mono h λx A1 h1=>A7 (w_mono h1 λy A2 ⟨n,l,k,j,hx,hy,h2,h3,q⟩=>by
  subst hx hy
  refine A7 (i3 h2 ?_)
  rw [h3]
  exact A7 (w_eq (a:=()) rfl q)))
structure GrownL (A:PHp) (i:Nat) (rs:List Row) (t:Nat) (B:PHp):Prop where
 pre:A<+:B
 rows:B[A.length]?=some (.lst ((rs.map Row.line).map .str))
 len:rs.length=i
 ok:∀r∈rs,r.ok/\2<=r.t/\r.t<=t
 up:rs.Pairwise λr q=>r.t<=q.t
 t1:2<=t
 t2:t<=2+3*i
theorem GrownL.step {A B B1:PHp} {i t:Nat} {rs:List Row} (G:GrownL A i rs t B) (q:Row) (hq:q.ok) (h1:t<=q.t) (h2:q.t<=t+3) (hp:B<+:B1) :
 GrownL A (i+1) (rs++[q]) q.t (B1.set A.length (.lst ((rs.map Row.line).map .str++[.str q.line]))) where
 pre:=t8 (G.pre.trans hp) (Nat.le_refl _)
 rows:=by rw [Y1 (C8 hp G.rows),List.map_append,List.map_append];rfl
 len:=by simp [G.len]
 ok:=λr hr=>by
  have:=G.t1
  rcases List.mem_append.mp hr with hr | hr
  ·have:=G.ok r hr;exact⟨this.1,this.2.1,by omega⟩
  ·simp at hr;subst hr;exact⟨hq,by omega,Nat.le_refl _⟩
 up:=by
  rw [List.pairwise_append]
  refine⟨G.up,by simp,λr hr q' hq'=>?_⟩
  simp at hq';subst hq'
  have:=(G.ok r hr).2.2;omega
 t1:=by have:=G.t1;omega
 t2:=by have:=G.t2;omega
theorem atp {xs:List Int} (hx:xs.length=10) (hp:∀x∈xs,0<=x) (j:Nat) (hj:j<10):∃v,atI (xs.map PV.int) (j:Int)=some (.int v)/\0<=v:=
 ⟨xs[j],atm (by omega),hp _ (List.getElem_mem _)⟩
theorem am3 (v:Int) (m:Nat) (h:0<m):∃d:Nat,v%(m:Int)=(d:Int)/\d<m:=
 ⟨(v%m).toNat,(Int.toNat_of_nonneg (Int.emod_nonneg _ (by omega))).symm,by have:=Int.emod_lt_of_pos v (b:=m) (by omega);have:=Int.emod_nonneg v (b:=m) (by omega);omega⟩
theorem j0 {q:Row} (h:q.ok):(Str.ofString " ").length<=16/\(q.words.map (·.length)).sum+q.words.length<=1048576:=by
 refine⟨by decide +kernel,?_⟩
 have:=ae7 (ys:=q.words) (b:=9) (W5 h)
 have:=N2 h
 omega
set_option maxHeartbeats 4000000 in
theorem ac0 (ns:List Int) {A:PHp} {k:Nat} (hk:A[k]?=some (.ro (ns.map .int))) :
 Wp (K4 [.ref k]) A (λv A'=>∃(m:Nat) (rs:List Row),v=.ref m/\A'[m]?=some (.lst ((rs.map Row.line).map .str))/\(∀r∈rs,r.ok/\2<=r.t)/\(1<=rs.length/\rs.length<=12)/\(rs.Pairwise λr q=>r.t<=q.t)/\A<+:A') NoX:=by
 unfold K4
 walk_at "fn"
 walk_at "go"
 unfold T1
 refine aM0 (λi σ B=>∃(rs:List Row) (t:Nat) (x y z:Option PV),σ=[some (.ref k),some (.ref A.length),some (.int (t:Nat)),x,y,z]/\GrownL A i rs t B) ?_
 have hk1:(A++[PO.lst []])[k]?=some (.ro (ns.map .int)):=get_app_of hk
 obtain⟨c0,hc0⟩:=ai7 hk1 0
 have hc0:D0 [.ref k,.int 0] (A++[PO.lst []])=.ok (.int c0) (A++[PO.lst []]):=hc0
 obtain⟨m,qm,lm⟩:∃d:Nat,c0%12=(d:Int)/\d<12:=am3 c0 12 (by decide)
 walk_at "go"
 refine w_eq hc0 ?_
 walk_at "go"
 refine⟨1+m,by rw [qm];simp,by omega,0,1+m,rfl,⟨[],2,_,_,_,rfl,List.prefix_append _ _,get_app,rfl,by simp,.nil,Nat.le_refl _,by omega⟩,?_,?_⟩
 ·rintro i σ B hi ⟨rs,t,x,y,z,rfl,G⟩
  have hlen:=G.len
  have hrow:=G.rows
  have ht2:=G.t2
  have hkB:=C8 G.pre hk
  obtain⟨c1,hc1⟩:=ai7 hkB 1
  have hc1:D0 [.ref k,.int 1] B=.ok (.int c1) B:=hc1
  walk_at "go"
  unfold f_law_rows_b1
  walk_at "go"
  refine w_eq hc1 ?_
  walk_at "go"
  obtain⟨xs,hx,hx0,hst⟩:=n9 (c1+(0+(i:Int))) 10 (by decide) B
  refine w_eq hst ?_
  obtain⟨v0,x0,p0⟩:=atp hx hx0 0 (by decide)
  obtain⟨v1,x1,p1⟩:=atp hx hx0 1 (by decide)
  obtain⟨v2,x2,p2⟩:=atp hx hx0 2 (by decide)
  obtain⟨v3,x3,p3⟩:=atp hx hx0 3 (by decide)
  obtain⟨d0,q0,l0⟩:∃d:Nat,v0%4=(d:Int)/\d<4:=am3 v0 4 (by decide)
  obtain⟨d1,q1,l1⟩:∃d:Nat,v1%6=(d:Int)/\d<6:=am3 v1 6 (by decide)
  obtain⟨d2,q2,l2⟩:∃d:Nat,v2%6=(d:Int)/\d<6:=am3 v2 6 (by decide)
  obtain⟨d4,q4,l4⟩:∃d:Nat,v3 / 3%6=(d:Int)/\d<6:=am3 (v3 / 3) 6 (by decide)
  have hxs:(B++[PO.lst (xs.map .int)])[B.length]?=some (.lst (xs.map .int)):=get_app
  walk_at "go"
  have et:(t:Int)+v0%4=((t+d0:Nat):Int):=by rw [q0];omega
  rw [et]
  refine⟨t+d0,rfl,by omega,?_⟩
  walk_at "go"
  refine⟨d1,by rw [q1],by omega,?_⟩
  walk_at "go"
  refine⟨d2,by rw [q2],by omega,?_⟩
  walk_at "go"
  have hxs2:∀o,(B++[PO.lst (xs.map .int)]++[o])[B.length]?=some (.lst (xs.map .int)):=λo=>get_app_of hxs
  have hxs3:=hxs2 (.lst [.str (num (t+d0)),.str "lay",.str (num d1),.str (num d2)])
  have hrow2:(B++[PO.lst (xs.map .int)]++[PO.lst [.str (num (t+d0)),.str "lay",.str (num d1),.str (num d2)]])[A.length]?=some (.lst ((rs.map Row.line).map .str)):=get_app_of (get_app_of hrow)
  have hLl:((rs.map Row.line).map PV.str).length<LIM:=lim_lt (by simp;omega)
  refine⟨λh3=>?_,λh3=>?_⟩
  ·walk_at "go"
   refine w_gixL ?_
   walk_at "go"
   refine⟨_,_,_,1,rfl,rfl,get_app,rfl,?_⟩
   walk_at "go"
   generalize hB1:B++[PO.lst (xs.map .int)]=B1 at hxs hrow2
   have hset:(B1++[PO.lst [PV.str (num (t+d0)),PV.str "lay",PV.str (num d1),PV.str (num d2)]]).set B1.length (.lst [PV.str (num (t+d0)),PV.str "say",PV.str (num d1),PV.str (num d2)])=B1++[PO.lst [PV.str (num (t+d0)),PV.str "say",PV.str (num d1),PV.str (num d2)]]:=by simp
   rw [hset]
   unfold S9
   have hxs4:(B1++[PO.lst [PV.str (num (t+d0)),PV.str "say",PV.str (num d1),PV.str (num d2)]])[B.length]?=some (.lst (xs.map .int)):=get_app_of hxs
   have e6:∀j,(xs.getD j 0%6).toNat<6:=λj=>by have:=Int.emod_nonneg (xs.getD j 0) (b:=6) (by decide);have:=Int.emod_lt_of_pos (xs.getD j 0) (b:=6) (by decide);omega
   refine R8 (List.range (1+d4)) (λj=>.int (j:Nat)) (λj=>.str (num (xs.getD (4+j) 0%6).toNat)) (λσ=>∃x,σ=[x,some (.ref B.length)]) ?_
   walk_at "go"
   refine⟨1+d4,by rw [q4];simp,by omega,by simp,lim_le (by simp;omega),⟨_,rfl⟩,λi B _=>au9 _ _,?_,λB2 hB2=>?_⟩
   ·rintro j σ B3 hj ⟨x,rfl⟩ hp
    rw [List.mem_range] at hj
    have hxs5:=C8 hp hxs4
    have h5:atI (xs.map PV.int) (4+(j:Int))=some (.int (xs.getD (4+j) 0)):=(atl (i:=4+(j:Int)) (by omega)).trans (by rw [show (4+(j:Int)).toNat=4+j by omega])
    walk_at "go"
    refine⟨rfl,⟨_,rfl⟩,?_⟩
    walk_at "go"
    have:=e6 (4+j)
    exact⟨_,by rw [Int.toNat_of_nonneg (Int.emod_nonneg _ (by decide))],by omega,rfl,List.prefix_refl _⟩
   ·have hq:Row.ok ⟨t+d0,d1,d2,(List.range (1+d4)).map λj=>(xs.getD (4+j) 0%6).toNat⟩:=⟨by show t+d0<_;omega,λn hn=>by
     simp only [List.mem_cons,List.mem_map] at hn
     rcases hn with rfl | rfl | ⟨j,_,rfl⟩
     ·omega
     ·omega
     ·have:=e6 (4+j);omega,by simp;omega⟩
    refine N0 (l:=[PV.str (num (t+d0)),PV.str "say",PV.str (num d1),PV.str (num d2)]) (get_app_of (C8 hB2 get_app)) get_app (lim_le (by simp;omega)) ?_
    have hA2:B1<+:B2:=(List.prefix_append _ _).trans hB2
    have hB12:B<+:B1:=by rw [←hB1];exact List.prefix_append _ _
    have hrow3:=C8 (hB12.trans hA2) hrow
    have hrow4:=get_app_of (o:=PO.lst ([PV.str (num (t+d0)),PV.str "say",PV.str (num d1),PV.str (num d2)]++(List.range (1+d4)).map λj=>.str (num (xs.getD (4+j) 0%6).toNat))) (get_app_of (o:=PO.lst ((List.range (1+d4)).map λj=>PV.str (num (xs.getD (4+j) 0%6).toNat))) hrow3)
    walk_at "go"
    refine⟨_,Row.words ⟨t+d0,d1,d2,(List.range (1+d4)).map λj=>(xs.getD (4+j) 0%6).toNat⟩,rfl,?_,j0 hq,?_⟩
    ·rw [get_app]
     unfold Row.words Row.k
     rw [if_neg (by simp)]
     simp [List.map_map]
    walk_at "go"
    refine⟨rs++[⟨t+d0,d1,d2,(List.range (1+d4)).map λj=>(xs.getD (4+j) 0%6).toNat⟩],t+d0,_,_,_,rfl,?_⟩
    rw [show Str.ofString " " = one 32 from T2]
    exact G.step ⟨t+d0,d1,d2,(List.range (1+d4)).map λj=>(xs.getD (4+j) 0%6).toNat⟩ hq (by show t<=t+d0;omega) (by show t+d0<=t+3;omega) (((hB12.trans hA2).trans (List.prefix_append _ _)).trans (List.prefix_append _ _))
  ·have hq:Row.ok ⟨t+d0,d1,d2,[]⟩:=⟨by show t+d0<_;omega,λn hn=>by simp at hn;omega,by simp⟩
   walk_at "go"
   refine⟨_,Row.words ⟨t+d0,d1,d2,[]⟩,rfl,get_app,j0 hq,?_⟩
   walk_at "go"
   refine⟨rs++[⟨t+d0,d1,d2,[]⟩],t+d0,_,_,_,rfl,?_⟩
   rw [show Str.ofString " " = one 32 from T2]
   exact G.step ⟨t+d0,d1,d2,[]⟩ hq (by show t<=t+d0;omega) (by show t+d0<=t+3;omega) ((List.prefix_append _ _).trans (List.prefix_append _ _))
 ·rintro σ B ⟨rs,t,x,y,z,rfl,G⟩
  walk_at "go"
  exact⟨_,rs,rfl,G.rows,λr hr=>⟨(G.ok r hr).1,(G.ok r hr).2.1⟩,by have:=G.len;omega,G.up,G.pre⟩
theorem w_addL2 {A:PHp} {Q:PV->PHp->Prop} {E:XP} {n k:Nat} {l m:List PV} (hn:A[n]?=some (.lst l)) (hk:A[k]?=some (.lst m)) (hl:l.length+m.length<=LIM) (q:Q (.ref A.length) (A++[.lst (l++m)])):Wp (K0 (.ref n) (.ref k)) A Q E:=
 A7 (i3 hn (A7 (i3 hk (C4 hl q))))
theorem Bad.mono {t t':Nat} {l:Str} (h:Bad t l) (ht:t<=t'):Bad t' l:=⟨h.1,h.2.1,λA=>w_mono (h.2.2 A) λv A' ⟨h1,h2⟩=>⟨h1.imp id λ⟨q,e,hq⟩=>⟨q,e,by omega⟩,h2⟩⟩
structure aw2 (rs:List Row) (p:Nat) (ls:List Str):Prop where
 le:p<=rs.length
 eq:∃l ls',ls=(rs.take p).map Row.line++l::ls'/\Bad (lt (rs.take p)) l/\ls'.length<=20/\∀x∈ls',x.length<=300/\10∉x.cps.toList
theorem aM5 {rs:List Row} (h:∀r∈rs,2<=r.t):1<=lt rs:=by
 unfold lt
 cases h1:rs.getLast? with
 | none=>simp
 | some q=>have:=h q (List.mem_of_getLast? h1);simp;omega
theorem aR7 {rs:List Row} {i:Nat} (hi:i<rs.length):lt (rs.take (i+1))=(rs[i]).t:=by
 unfold lt
 rw [List.getLast?_eq_getElem?,List.length_take,show min (i+1) rs.length - 1=i by omega,List.getElem?_take,if_pos (by omega),List.getElem?_eq_getElem hi]
 rfl
theorem j5 {rs:List Row} (h:∀r∈rs,r.ok) (p:Nat):∀x∈(rs.drop p).map Row.line,x.length<=300/\10∉x.cps.toList:=λx hx=>by
 obtain⟨r,hr,rfl⟩:=List.mem_map.mp hx
 exact⟨by have:=J7 (h r (List.mem_of_mem_drop hr));omega,Y4 r⟩
theorem aw3 (t:Nat) {s:Str} (hs:s∈([""," "]:List Str)):Bad t s:=by
 have hs:s=""\/s=" ":=by simpa using hs
 rcases hs with rfl | rfl
 ·have e:("" : Str)=lineOf [""]:=by decide +kernel
  rw [e]
  exact L3 (N3 (by simp) (by simp) (by unfold P0;decide +kernel)) ⟨"",by decide +kernel,by decide +kernel⟩ t
 ·have e:(" " : Str)=lineOf ["",""]:=by decide +kernel
  rw [e]
  exact L3 (N3 (by simp) (by simp) (by unfold P0;decide +kernel)) ⟨"",by decide +kernel,by decide +kernel⟩ t
theorem S2 (rs:List Row) (p:Nat):cut ((rs.map Row.line).map PV.str) none (some (p:Int))=((rs.take p).map Row.line).map .str/\cut ((rs.map Row.line).map PV.str) (some (p:Int)) none=((rs.drop p).map Row.line).map .str:=
 ⟨(Q0 _ p).trans (by rw [List.map_take,List.map_take]),(M5 _ p).trans (by rw [List.map_drop,List.map_drop])⟩
theorem less_line (n:Nat):num n++" lay 0 1" = Row.line ⟨n,0,1,[]⟩:=by
 have e:Row.line ⟨n,0,1,[]⟩=lineOf ([num n]++[("lay" : Str),num 0,num 1]):=by
  show Txt.join (one 32) _=Txt.join (one 32) _
  rfl
 rw [e,←V2 (ws:=[num n]) (vs:=["lay",num 0,num 1]) (s:=" lay 0 1") (by simp) (by simp) (by decide +kernel)]
 congr 1
theorem finS {A B:PHp} {rs:List Row} {p:Nat} {i:Int} {l1 l2:List Str} (hi:i=((p+1:Nat):Int)) (hS:aw2 rs p (l1++l2)) (hp:A<+:B++[PO.lst (l1.map PV.str++l2.map PV.str)]) :
 ∃(n p:Nat) (ls:List Str),PV.tup [PV.ref B.length,.int i]=.tup [.ref n,.int ((p+1:Nat):Int)]/\(B++[PO.lst (l1.map PV.str++l2.map PV.str)])[n]?=some (.lst (ls.map .str))/\aw2 rs p ls/\A<+:B++[PO.lst (l1.map PV.str++l2.map PV.str)]:=
 ⟨B.length,p,l1++l2,by rw [hi],by rw [get_app,List.map_append],hS,hp⟩
set_option maxHeartbeats 4000000 in
theorem af1 {rs:List Row} (h:∀r∈rs,r.ok/\2<=r.t) (h1:1<=rs.length/\rs.length<=12) {A:PHp} {k:Nat} (hk:A[k]?=some (.lst ((rs.map Row.line).map .str))) (at':Nat) (hat:at'<rs.length) (way:Int) (hway:0<=way/\way<9) (d:Nat) :
 Wp (G7 [.ref k,.int at',.int way,.int d]) A (λv A'=>∃(n p:Nat) (ls:List Str),v=.tup [.ref n,.int ((p+1:Nat):Int)]/\A'[n]?=some (.lst (ls.map .str))/\aw2 rs p ls/\A<+:A') NoX:=by
 have hL:((rs.map Row.line).map PV.str).length=rs.length:=by simp
 have hok:∀r∈rs,r.ok:=λr hr=>(h r hr).1
 have hri:=List.getElem?_eq_getElem hat
 have hr:=h rs[at'] (List.getElem_mem _)
 have hai:atI ((rs.map Row.line).map PV.str) (at':Int)=some (.str rs[at'].line):=atN (by rw [List.getElem?_map,List.getElem?_map,hri];rfl)
 unfold G7
 walk_at "fn"
 walk_at "go"
 refine⟨λh7=>?_,λh7=>?_⟩
 ·obtain⟨p,qp,lp⟩:∃p:Nat,(d:Int)%((rs.length:Int)+1)=(p:Int)/\p<rs.length+1:=⟨d%(rs.length+1),by rw [Int.natCast_emod];rfl,Nat.mod_lt _ (by omega)⟩
  obtain⟨s,hs,hsi⟩:=al7 [""," "] (d / (rs.length+1)) (by decide)
  have hsi:atI [PV.str "",PV.str " "] ((d:Int) / ((rs.length:Int)+1)%2)=some (.str s):=by
   rw [←hsi]
   show _=atI [PV.str "",PV.str " "] (((d / (rs.length+1):Nat):Int)%2)
   congr 1
  walk_at "go"
  rw [hL,qp]
  walk_at "go"
  obtain⟨c1,c2⟩:=S2 rs p
  rw [c1]
  refine w_addL2 (m:=[s].map PV.str) (get_app_of (get_app_of get_app)) get_app (lim_le (by simp;omega)) ?_
  walk_at "go"
  rw [c2]
  refine w_addL2 (l:=((rs.take p).map Row.line++[s]).map PV.str) (get_app_of (by rw [←G5];exact get_app)) get_app (lim_le (by simp;omega)) ?_
  rw [G5]
  walk_at "go"
  refine finS (p:=p) (l1:=(rs.take p).map Row.line++[s]) (l2:=(rs.drop p).map Row.line) (by omega) ⟨by omega,s,(rs.drop p).map Row.line,by simp,aw3 _ hs,by simp;omega,j5 hok p⟩ ?_
  walk_at "pre"
 ·walk_at "go"
  refine⟨λh8=>?_,λh8=>?_⟩
  ·walk_at "go"
   have hll:=J7 hr.1
   have hwn:=N2 hr.1
   refine⟨32,rs[at'].words,congrArg PV.str T2,rfl,⟨by decide,by simp [Row.words],λw hw=>(Y3 w hw).1,lim_le (by omega),lim_le (by omega)⟩,?_⟩
   have y0:atI (rs[at'].words.map PV.str) 0=some (.str (num rs[at'].t)):=atN (i:=0) rfl
   walk_at "go"
   refine⟨hr.1.1,?_⟩
   have ht2:=hr.2
   walk_at "go"
   have en:((rs[at'].t:Int) - 1).natAbs=rs[at'].t - 1:=by omega
   rw [en]
   have lq:d%(rs[at'].t - 1)<rs[at'].t - 1:=Nat.mod_lt _ (by omega)
   generalize d%(rs[at'].t - 1)=q at lq
   have ht9:=hr.1.1
   refine⟨by omega,?_⟩
   have hn:=R7 (n:=1+q) (by omega)
   have hsl:(" lay 0 1" : Str).length=8:=by decide +kernel
   obtain⟨c1,c2⟩:=S2 rs (at'+1)
   walk_at "go"
   refine w_addS (lim_le (by omega)) ?_
   walk_at "go"
   rw [less_line,show (at':Int)+1=((at'+1:Nat):Int) by omega,c1]
   refine w_addL2 (m:=[Row.line ⟨1+q,0,1,[]⟩].map PV.str) (get_app_of get_app) get_app (lim_le (by simp;omega)) ?_
   walk_at "go"
   rw [show (at':Int)+1=((at'+1:Nat):Int) by omega,c2]
   refine w_addL2 (l:=((rs.take (at'+1)).map Row.line++[Row.line ⟨1+q,0,1,[]⟩]).map PV.str) (get_app_of (by rw [←G5];exact get_app)) get_app (lim_le (by simp;omega)) ?_
   rw [G5]
   walk_at "go"
   have hq:Row.ok ⟨1+q,0,1,[]⟩:=⟨by show 1+q<_;omega,λn hn=>by simp at hn;omega,by simp⟩
   refine finS (p:=at'+1) (l1:=(rs.take (at'+1)).map Row.line++[Row.line ⟨1+q,0,1,[]⟩]) (l2:=(rs.drop (at'+1)).map Row.line) (by omega) ⟨by omega,_,(rs.drop (at'+1)).map Row.line,by simp,ab6 hq (by rw [aR7 hat];show 1+q<_;omega),by simp;omega,j5 hok _⟩ ?_
   walk_at "pre"
  ·walk_at "go"
   obtain⟨c1,_⟩:=S2 rs at'
   obtain⟨_,c2⟩:=S2 rs (at'+1)
   have h7:¬way=7:=of_decide_eq_false h7
   have h8:¬way=8:=of_decide_eq_false h8
   rw [c1]
   refine w_mono (af0 hr.1 way (by omega) d _) λv B ⟨⟨l,hv,hb⟩,hp⟩=>?_
   subst hv
   have hkB:=C8 ((List.prefix_append _ _).trans hp) hk
   have hcB:=C8 hp get_app
   walk_at "go"
   refine w_addL2 (m:=[l].map PV.str) (get_app_of hcB) get_app (lim_le (by simp;omega)) ?_
   walk_at "go"
   rw [show (at':Int)+1=((at'+1:Nat):Int) by omega,c2]
   refine w_addL2 (l:=((rs.take at').map Row.line++[l]).map PV.str) (get_app_of (by rw [←G5];exact get_app)) get_app (lim_le (by simp;omega)) ?_
   rw [G5]
   walk_at "go"
   refine finS (p:=at') (l1:=(rs.take at').map Row.line++[l]) (l2:=(rs.drop (at'+1)).map Row.line) (by omega) ⟨by omega,l,(rs.drop (at'+1)).map Row.line,by simp,hb.mono (aM5 λr hr=>(h r (List.mem_of_mem_take hr)).2),by simp;omega,j5 hok _⟩ ?_
   have:=(List.prefix_append A _).trans hp
   walk_at "pre"
theorem aM6 {l m:List PV} {A:PHp} {E:XP} {Q:PV->PHp->Prop} (h:l.all M6=true/\m.all M6=true) (q:Q (.bl (!ad1 l m)) A):Wp (aI7 (.tup l) (.tup m)) A Q E:=C4 h q
theorem aR8 (i:Int):ad1 [.int i,.bl true,.bl false] [.int i,.bl true,.bl false]=true:=by simp [ad1,eqB,List.range_succ]
theorem aw4 (ls:List Str):H8 (ls.map PV.str) [.str ""]=decide (ls=[("" : Str)]):=by
 match ls with
 | []=>simp [H8]
 | [l]=>simp [H8,eqv]
 | l::m::ls=>simp [H8]
theorem strs_plain (ls:List Str):L6 (ls.map PV.str)=true:=by unfold L6;rw [List.all_map];exact List.all_eq_true.mpr λ_ _=>rfl
theorem take_rise {rs:List Row} (h:∀r∈rs,r.ok/\2<=r.t) (hu:rs.Pairwise λr q=>r.t<=q.t) (p:Nat):av4 (rs.take p):=
 ⟨λr hr=>by have:=(h r (List.mem_of_mem_take hr)).2;omega,hu.sublist (List.take_sublist _ _)⟩
theorem atq {xs:List Int} (hx:xs.length=3) (hp:∀x∈xs,0<=x) (j:Nat) (hj:j<3):∃v,atI (xs.map PV.int) (j:Int)=some (.int v)/\0<=v:=
 ⟨xs[j],atm (by omega),hp _ (List.getElem_mem _)⟩
theorem cut_map {α β:Type} (f:α->β) (xs:List α) (l h:Option Int):cut (xs.map f) l h=(cut xs l h).map f:=by
 unfold cut;rw [List.length_map,List.map_take,List.map_drop]
set_option maxHeartbeats 4000000 in
theorem law_pure:∀ns:List Int,∃A',ai0 [.ref 0] [.ro (ns.map .int)]=.ok (.bl true) A':=λns=>by
 suffices h:Wp (ai0 [.ref 0]) [.ro (ns.map .int)] (λv _=>v=.bl true) NoX by
  obtain⟨v,A',h1,rfl⟩:=aE4 h
  exact⟨A',h1⟩
 unfold ai0
 walk_at "fn"
 walk_at "go"
 refine w_mono (ac0 ns (k:=0) rfl) λv A1 ⟨m,rs,hv,hm,hok,hl,hu,hp⟩=>?_
 subst hv
 have h0:A1[0]?=some (.ro (ns.map .int)):=C8 hp rfl
 have hok1:∀r∈rs,r.ok:=λr hr=>(hok r hr).1
 have hR:av4 rs:=⟨λr hr=>by have:=(hok r hr).2;omega,hu⟩
 walk_at "go"
 refine⟨_,rs.map Row.line,rfl,hm,ae8 hok1 (by omega),?_⟩
 rw [show Str.ofString "\n" = one 10 from ai4]
 walk_at "go"
 refine w_mono (read_deeds_ok hok1 (by omega) hR A1) λv A2 ⟨q,hv,hq,hp2,_⟩=>?_
 subst hv
 have hm2:=C8 hp2 hm
 have h02:=C8 hp2 h0
 walk_at "go"
 refine brTx' (by simp) ?_
 walk_at "go"
 unfold f_law_l1
 refine aM1 (λi σ B=>∃(x y z u:Option PV),σ=[some (.ref 0),some (.ref m),x,y,z,u]/\A2<+:B/\B[A2.length]?=some (.lst ((cut ns (some 2) (some 30)).map .int))) ?_
 walk_at "go"
 rw [cut_map]
 refine⟨_,(cut ns (some 2) (some 30)).map .int,rfl,⟨_,_,_,_,rfl,List.prefix_append _ _,get_app⟩,λi σ B ⟨_,_,_,_,_,_,hB⟩=>G6 hB,?_,?_⟩
 ·rintro i v σ B hv ⟨x,y,z,u,rfl,hA,hB⟩
  rw [List.getElem?_map] at hv
  obtain⟨c,hci,rfl⟩:=Option.map_eq_some_iff.mp hv
  have hmB:=C8 hA hm2
  walk_at "go"
  unfold f_law_b1
  walk_at "go"
  obtain⟨xs,hx,hx0,hst⟩:=n9 c 3 (by decide) B
  refine w_eq hst ?_
  obtain⟨v0,x0,p0⟩:=atq hx hx0 0 (by decide)
  obtain⟨v1,x1,p1⟩:=atq hx hx0 1 (by decide)
  obtain⟨v2,x2,p2⟩:=atq hx hx0 2 (by decide)
  have hxs:(B++[PO.lst (xs.map .int)])[B.length]?=some (.lst (xs.map .int)):=get_app
  have hm3:(B++[PO.lst (xs.map .int)])[m]?=some (.lst ((rs.map Row.line).map .str)):=get_app_of hmB
  have hLl:((rs.map Row.line).map PV.str).length=rs.length:=by simp
  obtain⟨at',qa,la⟩:∃d:Nat,v0%(rs.length:Int)=(d:Int)/\d<rs.length:=am3 v0 rs.length (by omega)
  obtain⟨d,rfl⟩:∃d:Nat,v2=(d:Int):=⟨v2.toNat,(Int.toNat_of_nonneg p2).symm⟩
  have w0:=Int.emod_nonneg v1 (b:=9) (by decide)
  have w9:=Int.emod_lt_of_pos v1 (b:=9) (by decide)
  walk_at "go"
  refine w_mod (by simp;omega) ?_
  rw [List.length_map,qa]
  walk_at "go"
  generalize v1%9=way at w0 w9
  refine w_mono (af1 hok hl hm3 at' la way ⟨w0,w9⟩ d) λv C ⟨n,p,ls,hv,hn,⟨hpl,l,ls',hls,hbad,hl',hx'⟩,hC⟩=>?_
  subst hv
  have hBC:B<+:C:=(List.prefix_append _ _).trans hC
  walk_at "go"
  refine w_eqL (get_app_of hn) get_app ⟨strs_plain ls,rfl⟩ ?_
  rw [aw4]
  by_cases he:ls=[("" : Str)]
  ·rw [decide_eq_true he]
   walk_at "gb"
   refine w_mono (read_none _) λv D ⟨q3,hv,hq3,hp7,_⟩=>?_
   subst hv
   walk_at "go"
   refine w_neL (get_app_of hq3) get_app ⟨rfl,rfl⟩ ?_
   rw [aj9 (l:=[]) rfl]
   walk_at "gb"
   have hAD:A2<+:D++[PO.lst []]:=((hA.trans hBC).trans ((List.prefix_append _ _).trans hp7)).trans (List.prefix_append _ _)
   exact⟨_,_,_,_,rfl,hAD,get_app_of (C8 hp7 (get_app_of (C8 hBC hB)))⟩
  ·rw [decide_eq_false he]
   walk_at "gb"
   have hok2:∀r∈rs.take p,r.ok:=λr hr=>hok1 r (List.mem_of_mem_take hr)
   have hl2:(rs.take p).length=p:=by simp;omega
   have hg:∀x∈ls,x.length<=300:=by
    intro x hx
    rw [hls] at hx
    rcases List.mem_append.mp hx with hx | hx
    ·obtain⟨r,hr,rfl⟩:=List.mem_map.mp hx
     have:=J7 (hok2 r hr);omega
    ·rcases List.mem_cons.mp hx with rfl | hx
     ·exact hbad.1
     ·exact (hx' x hx).1
   have hln:ls.length<=50:=by rw [hls];simp;omega
   refine⟨_,ls,rfl,get_app_of hn,⟨by decide +kernel,by have:=ai6 hg hln;omega⟩,?_⟩
   have hT:Txt.join (Str.ofString "\n") ls=tOf ((rs.take p).map Row.line++l::ls'):=by rw [show Str.ofString "\n" = one 10 from ai4,hls];rfl
   rw [hT]
   walk_at "go"
   refine w_mono (refused_ok hok2 (take_rise hok hu p) (by rw [hl2];omega) hbad hx' (by rw [←hls];exact he) _) λv D ⟨hv,hp7⟩=>?_
   subst hv
   walk_at "go"
   rw [hl2]
   refine aM6 ⟨rfl,rfl⟩ ?_
   rw [aR8]
   walk_at "gb"
   have hAD:A2<+:D:=(hA.trans hBC).trans ((List.prefix_append _ _).trans hp7)
   exact⟨_,_,_,_,rfl,hAD,C8 hp7 (get_app_of (C8 hBC hB))⟩
 ·rintro σ B ⟨x,y,z,u,rfl,hA,hB⟩
  walk_at "go"
end Ws
namespace Ws
open PySem
structure aM7 (mg:Str->Option Value):Prop where
 g_LAY:∃t,mg "LAY" = some (.str "lay" t)
 g_SAY:∃t,mg "SAY" = some (.str "say" t)
 g_FIGURES:∃t,mg "FIGURES" = some (.str "0123456789" t)
 g_MOST_FIGURES:∃t,mg "MOST_FIGURES" = some (.int 9 t)
section
set_option maxHeartbeats 40000000
variable {P:Program} {w:World} {K:PySem.W.Frag} {mg:Str->Option Value} {base:Heap} {cm:Nat->Addr}
def top (i:Nat):Stmt:=PySem.Challenge.pw_wordswap_k74_texts_of_no_deeds.main.body.getD i (.Pass ⟨0,0,0,0⟩)
structure aR9 (mg:Str->Option Value) (cm:Nat->Addr):Prop where
 m_SwapError:mg "SwapError" = some (.ref (cm 7))
 m_NoDeed:mg "NoDeed" = some (.ref (cm 12))
 m_NoText:mg "NoText" = some (.ref (cm 17))
 m_ValueError:mg "ValueError" = none
theorem V3:L2.D6 ["self","at"] ["self","at"] (L2.A6 (L2.M0 (top 1) 0)):=⟨rfl,rfl,rfl,by decide +kernel,rfl,by decide +kernel,by decide +kernel⟩
theorem V4 {fa:Addr} {fd:FuncData} (F:L2.Fun K "__init__" "SwapError.__init__" (L2.M0 (top 1) 0) fa fd):L2.FnOk P w K mg base L2.CX0 1 fa fd ["self","at"] (SpI K):=
 aA8 F V3 rfl λcdv A outer s0 H E hr=>L2.q8 (aK0 (L2.pv 0) (L2.pv 1) rfl)
theorem x9:L2.D6 ["word"] ["word"] (L2.A6 (top 9)):=by walk_at "sc"
theorem ok_is_number {fa:Addr} {fd:FuncData} (B:O0 K mg cm) (GL:aM7 mg) (F:L2.Fun K "is_number" "is_number" (top 9) fa fd):L2.FnOk P w K mg base L2.CX0 (1) fa fd ["word"] (SpF K cm G1 1):=
 M9 F x9 λ_ _ _ _ _ _ hr hu hu1=>by
  exact (A8 (M7 (L2.PW.pt (ag2 (ad7 (aq7 L2.aC4 aD4 L2.aC4 aD4 r_int (aL8 (r_v 0) rfl B.b_len) (aJ6 rfl GL.g_MOST_FIGURES))) (u6 (ad7 (aq2 (aD8 rfl (v8 (N:=["sign"]) [none] rfl (⟨rfl,rfl,by decide +kernel,by decide +kernel,R1,(fa_cons (λh=>nomatch h) (fa_cons (λh=>nomatch h) (fa_cons (λh=>nomatch h) R1)))⟩) (.own .nil) (aR0 (r_v 0)) (λ_ _ _ _=>(g_name (L2.pg_name (i:=0) (show List.Nodup (["sign"]:List Str) from by decide +kernel) rfl (by walk_at "o2")))) (λ_ _ _ _=>v7) (λ_ _ _ _=>(r_cmp L2.aj2 aL6 (r_v 0) (U7 rfl GL.g_FIGURES) (by rfl)))) rfl B.b_all))))))
 (C2 (E5 ad5))
 E1)
 (C2 (E5 (aT8 (r_cmp (op_eqP hu) ok_eq (r_v 0) r_str (L2.D1 _)) (aP3 (r_cmp (u8 hu) ag5 (aQ9 (r_v 0) r_int (λ_ _=>rfl)) r_str (L2.D1 _)))))))
theorem X9:L2.D6 ["words"] ["words"] (L2.A6 (top 10)):=by walk_at "sc"
theorem ok_read_numbers {fa:Addr} {fd:FuncData} (B:O0 K mg cm) (D_is_number:Def P w K mg base cm "is_number" 1 ["word"] G1 1) (F:L2.Fun K "read_numbers" "read_numbers" (top 10) fa fd):L2.FnOk P w K mg base L2.CX0 (2) fa fd ["words"] (SpF K cm D4 1):=
 M9 F X9 λ_ _ _ _ _ _ hr hu hu1=>by
  exact (A8 (M7 (ad7 (aq2 (aD8 rfl (v8 (N:=["word"]) [none] rfl (⟨rfl,rfl,by decide +kernel,by decide +kernel,R1,(fa_cons (λh=>nomatch h) (fa_cons (λh=>nomatch h) (fa_cons (λh=>nomatch h) R1)))⟩) (.own .nil) (ar3 (r_v 0)) (λ_ _ _ _=>(g_name (L2.pg_name (i:=0) (show List.Nodup (["word"]:List Str) from by decide +kernel) rfl (by walk_at "o2")))) (λ_ _ _ _=>v7) (λ_ _ _ _=>(r_callD D_is_number (by decide) hr rfl (r_cons (r_v 0) r_nil)))) rfl B.b_all)))
 (C2 (E5 ag0))
 E1)
 (C2 (E5 (v8 (N:=["word"]) [none] rfl (⟨rfl,rfl,by decide +kernel,by decide +kernel,R1,(fa_cons (λh=>nomatch h) (fa_cons (λh=>nomatch h) (fa_cons (λh=>nomatch h) R1)))⟩) (.own .nil) (ar3 (r_v 0)) (λ_ _ _ _=>(g_name (L2.pg_name (i:=0) (show List.Nodup (["word"]:List Str) from by decide +kernel) rfl (by walk_at "o2")))) (λ_ _ _ _=>v7) (λ_ _ _ _=>(au3 (r_v 0) rfl B.b_int))))))
theorem sc_read_deed:L2.D6 ["row","words","numbers","passing","chain"] ["row"] (L2.A6 (top 12)):=by walk_at "sc"
theorem ok_read_deed {fa:Addr} {fd:FuncData} (B:O0 K mg cm) (GL:aM7 mg) (D_read_numbers:Def P w K mg base cm "read_numbers" 2 ["words"] D4 1) (F:L2.Fun K "read_deed" "read_deed" (top 12) fa fd):L2.FnOk P w K mg base L2.CX0 (3) fa fd ["row"] (SpF K cm D3 1):=
 M9 F sc_read_deed λ_ _ _ _ _ _ hr hu hu1=>by
  refine @A8 _ _ _ _ _ _ ?_ ?_
  exact (D8 (i:=1) sc_read_deed.nd rfl (.inl rfl) (U8 (r_v 0) r_str))
  refine @A8 _ _ _ _ _ _ ?_ ?_
  exact (D8 (i:=2) sc_read_deed.nd rfl (.inl rfl) (r_callD D_read_numbers (by decide) hr rfl (r_cons (r_bin op_add3 ok_add (r_cut (r_v 1) r_lno (r_lat r_int)) (r_cut (r_v 1) (r_lat r_int) r_lno)) r_nil)))
  refine @A8 _ _ _ _ _ _ ?_ ?_
  exact (M7 (L2.PW.pt (ag2 (ad6 (r_v 2)) (u6 (D7 L2.af4 ag1 (d3 (r_v 2) rfl B.b_len) r_int (L2.D1 _)))))
 (C2 (E5 ag0))
 E1)
  refine @A8 _ _ _ _ _ _ ?_ ?_
  exact (D8 (i:=3) sc_read_deed.nd rfl (.inl rfl) (Q1 (r_cons (r_ix (r_v 2) r_int (λ_ _=>rfl)) (r_cons (r_ix (r_v 2) r_int (λ_ _=>rfl)) r_nil))))
  refine @A8 _ _ _ _ _ _ ?_ ?_
  exact (D8 (i:=4) sc_read_deed.nd rfl (.inl rfl) (ak7 (r_cut (r_v 2) (r_lat r_int) r_lno) rfl B.b_tuple PyProof.Rows.boot_tuple))
  refine @A8 _ _ _ _ _ _ ?_ ?_
  refine @M7 _ _ _ _ _ _ _ _ _ ?_ ?_ ?_
  exact (L2.PW.pt (ad8 (D7 (op_eqP hu) ok_eq (r_ix (r_v 1) r_int (λ_ _=>rfl)) (U7 rfl GL.g_LAY) (L2.D1 _)) (u5 (D7 (op_eqP hu) ok_eq (r_v 4) (Q1 r_nil) (L2.D1 _)))))
  refine @C2 _ _ _ _ ?_
  refine @E5 _ _ _ _ _ ?_
  refine @Q1 _ _ _ _ _ _ ?_;refine @r_cons _ _ _ _ _ _ ?_ ?_ (by exact D2 rfl);exact (r_ix (r_v 2) r_int (λ_ _=>rfl));refine @r_cons _ _ _ _ _ _ ?_ ?_ (by exact D2 rfl);refine @Q1 _ _ _ _ _ _ ?_;refine @r_cons _ _ _ _ _ _ ?_ ?_ (by exact D2 rfl);exact (U7 rfl GL.g_LAY);refine @r_cons _ _ _ _ _ _ ?_ ?_ (by exact D2 rfl);exact (r_v 3);exact r_nil;exact r_nil
  exact E1
  refine @A8 _ _ _ _ _ _ ?_ ?_
  refine @M7 _ _ _ _ _ _ _ _ _ ?_ ?_ ?_
  exact (L2.PW.pt (ad8 (D7 (op_eqP hu) ok_eq (r_ix (r_v 1) r_int (λ_ _=>rfl)) (U7 rfl GL.g_SAY) (L2.D1 _)) (u5 (D7 (u8 hu) ag5 (r_v 4) (Q1 r_nil) (L2.D1 _)))))
  refine @C2 _ _ _ _ ?_
  refine @E5 _ _ _ _ _ ?_
  refine @Q1 _ _ _ _ _ _ ?_;refine @r_cons _ _ _ _ _ _ ?_ ?_ (by exact D2 rfl);exact (r_ix (r_v 2) r_int (λ_ _=>rfl));refine @r_cons _ _ _ _ _ _ ?_ ?_ (by exact D2 rfl);refine @Q1 _ _ _ _ _ _ ?_;refine @r_cons _ _ _ _ _ _ ?_ ?_ (by exact D2 rfl);exact (U7 rfl GL.g_SAY);refine @r_cons _ _ _ _ _ _ ?_ ?_ (by exact D2 rfl);exact (r_v 3);refine @r_cons _ _ _ _ _ _ ?_ ?_ (by exact D2 rfl);exact (r_v 4);exact r_nil;exact r_nil
  exact E1
  exact (C2 (E5 ag0))
theorem sc_read_deeds:L2.D6 ["text","rows","least_turn","at","row","read"] ["text"] (L2.A6 (top 11)):=by walk_at "sc"
theorem ok_read_deeds {fa:Addr} {fd:FuncData} (B:O0 K mg cm) (D_read_deed:Def P w K mg base cm "read_deed" 3 ["row"] D3 1) (F:L2.Fun K "read_deeds" "read_deeds" (top 11) fa fd):L2.FnOk P w K mg base L2.CX0 (4) fa fd ["text"] (SpF K cm E3 1):=
 M9 F sc_read_deeds λ_ _ _ _ _ _ hr hu hu1=>by
  exact (A8 (M7 (D7 (op_eqP hu) ok_eq (r_v 0) r_str (L2.D1 _))
 (C2 (E5 (r_lst r_nil)))
 E1)
 (A8 (D8 (i:=1) sc_read_deeds.nd rfl (.inl rfl) (r_lst r_nil))
 (A8 (D8 (i:=2) sc_read_deeds.nd rfl (.inl rfl) r_int)
 (A8 (aa0 PassesOwn.never rfl (aE3 (k:=1) (by decide) rfl B.b_enumerate (U8 (r_v 0) r_str) r_int) (ar0 rfl (W0 (g_name (L2.pg_name (i:=3) sc_read_deeds.nd rfl (.inl rfl))) (W0 (g_name (L2.pg_name (i:=4) sc_read_deeds.nd rfl (.inl rfl))) aq9)))
 (A8 (D8 (i:=5) sc_read_deeds.nd rfl (.inl rfl) (r_callD D_read_deed (by decide) hr rfl (r_cons (r_v 4) r_nil)))
 (A8 (M7 (L2.PW.pt (ag2 (ad6 (r_v 5)) (u6 (D7 L2.af4 ag1 (r_ix (r_v 5) r_int (λ_ _=>rfl)) (r_v 2) (L2.D1 _)))))
 (C2 ay9)
 E1)
 (A8 (D8 (i:=2) sc_read_deeds.nd rfl (.inl rfl) (r_ix (r_v 5) r_int (λ_ _=>rfl)))
 (C2 (d5 (R0 (r_v 1) (r_v 5))))))))
 (C2 (E5 (r_v 1)))))))
theorem j6 {fa:Addr} {fd:FuncData} (B:O0 K mg cm) (D_read_deed:Def P w K mg base cm "read_deed" 3 ["row"] D3 1) (XD_NoText:at1 P w K mg base cm 17 "NoText" 1) (F:L2.Fun K "read_deeds" "read_deeds" (top 11) fa fd):L2.FnOk P w K mg base (CXw P w) 4 fa fd ["text"] (SpX K cm G3 1):=
 aB6 F sc_read_deeds λ_ _ _ _ _ _ hr hu hu1=>
  (M8 (e9 (M7 (D7 (op_eqP hu) ok_eq (r_v 0) r_str (L2.D1 _))
 (C2 (E5 (r_lst r_nil)))
 E1))
 (M8 (e9 (D8 (i:=1) sc_read_deeds.nd rfl (.inl rfl) (r_lst r_nil)))
 (M8 (e9 (D8 (i:=2) sc_read_deeds.nd rfl (.inl rfl) r_int))
 (M8 (aK4 PassesOwn.leaving rfl (aK9 (aE3 (k:=1) (by decide) rfl B.b_enumerate (U8 (r_v 0) r_str) r_int)) (aL0 (ar0 rfl (W0 (g_name (L2.pg_name (i:=3) sc_read_deeds.nd rfl (.inl rfl))) (W0 (g_name (L2.pg_name (i:=4) sc_read_deeds.nd rfl (.inl rfl))) aq9))))
 (M8 (e9 (D8 (i:=5) sc_read_deeds.nd rfl (.inl rfl) (r_callD D_read_deed (by decide) hr rfl (r_cons (r_v 4) r_nil))))
 (M8 (aQ3 (L2.PW.pt (ag2 (ad6 (r_v 5)) (u6 (D7 L2.af4 ag1 (r_ix (r_v 5) r_int (λ_ _=>rfl)) (r_v 2) (L2.D1 _)))))
 (w6 (at2 aK5 rfl XD_NoText (by decide) hr rfl (r_cons (r_v 3) r_nil)))
 (aK3 E1))
 (M8 (e9 (D8 (i:=2) sc_read_deeds.nd rfl (.inl rfl) (r_ix (r_v 5) r_int (λ_ _=>rfl))))
 (w6 (e9 (d5 (R0 (r_v 1) (r_v 5)))))))))
 (w6 (e9 (E5 (r_v 1))))))))
theorem j7:L2.D6 ["_law_script","_law_k"] ["_law_script","_law_k"] (L2.A6 (top 14)):=by walk_at "sc"
theorem ok_law_cell_at {fa:Addr} {fd:FuncData} (B:O0 K mg cm) (F:L2.Fun K "_law_cell_at" "_law_cell_at" (top 14) fa fd):L2.FnOk P w K mg base L2.CX0 (1) fa fd ["_law_script","_law_k"] (SpF K cm D0 2):=
 M9 F j7 λ_ _ _ _ _ _ hr hu hu1=>by
  exact (A8 (M7 (D7 L2.af4 ag1 (r_v 1) (d3 (r_v 0) rfl B.b_len) (L2.D1 _))
 (C2 (E5 (r_ix (r_v 0) (r_v 1) (λ_ _=>rfl))))
 E1)
 (C2 (E5 r_int)))
theorem sc_law_stream:L2.D6 ["_law_cell","_law_size","_law_found","_law_digits","_law_k","_law_number"] ["_law_cell","_law_size"] (L2.A6 (top 15)):=by walk_at "sc"
theorem ok_law_stream {fa:Addr} {fd:FuncData} (B:O0 K mg cm) (F:L2.Fun K "_law_stream" "_law_stream" (top 15) fa fd):L2.FnOk P w K mg base L2.CX0 (1) fa fd ["_law_cell","_law_size"] (SpF K cm E4 2):=
 M9 F sc_law_stream λ_ _ _ _ _ _ hr hu hu1=>by
  exact (A8 (D8 (i:=2) sc_law_stream.nd rfl (.inl rfl) (r_lst r_nil))
 (A8 (M7 (D7 (op_eqP hu) ok_eq (r_bin L2.op_mod ok_mod (r_v 0) r_int) r_int (L2.D1 _))
 (A8 (D8 (i:=3) sc_law_stream.nd rfl (.inl rfl) (r_bin L2.op_fdiv ok_fdiv (r_v 0) r_int))
 (A8 (aa0 PassesOwn.never rfl (i_rng1 rfl B.b_range (r_v 1)) (g_name (L2.pg_name (i:=4) sc_law_stream.nd rfl (.inl rfl)))
 (A8 (d5 (R0 (r_v 2) (r_bin L2.op_mod ok_mod (r_v 3) r_int)))
 (C2 (D8 (i:=3) sc_law_stream.nd rfl (.inl rfl) (r_bin L2.op_fdiv ok_fdiv (r_v 3) r_int)))))
 (C2 (E5 (r_v 2)))))
 E1)
 (A8 (D8 (i:=5) sc_law_stream.nd rfl (.inl rfl) (r_bin L2.op_mod ok_mod (r_bin op_add3 ok_add (r_bin L2.ao0 aq3 (r_v 0) r_int) r_int) r_int))
 (A8 (aa0 PassesOwn.never rfl (i_rng1 rfl B.b_range (r_v 1)) (g_name (L2.pg_name (i:=4) sc_law_stream.nd rfl (.inl rfl)))
 (A8 (D8 (i:=5) sc_law_stream.nd rfl (.inl rfl) (r_bin L2.op_mod ok_mod (r_bin op_add3 ok_add (r_bin op_add3 ok_add (r_bin L2.ao0 aq3 (r_v 5) (r_bin op_add3 ok_add (r_bin L2.op_fdiv ok_fdiv (r_v 5) r_int) r_int)) (r_v 4)) r_int) r_int))
 (C2 (d5 (R0 (r_v 2) (r_v 5))))))
 (C2 (E5 (r_v 2)))))))
theorem sc_law_rows:L2.D6 ["_law_script","_law_found","_law_turn","_law_k","_law_xs","_law_words"] ["_law_script"] (L2.A6 (top 16)):=by walk_at "sc"
theorem ok_law_rows {fa:Addr} {fd:FuncData} (B:O0 K mg cm) (BS:mg "str" = none) (D_law_cell_at:Def P w K mg base cm "_law_cell_at" 1 ["_law_script","_law_k"] D0 2) (D_law_stream:Def P w K mg base cm "_law_stream" 1 ["_law_cell","_law_size"] E4 2) (F:L2.Fun K "_law_rows" "_law_rows" (top 16) fa fd):L2.FnOk P w K mg base L2.CX0 (2) fa fd ["_law_script"] (SpF K cm K4 1):=
 M9 F sc_law_rows λ_ _ _ _ _ _ hr hu hu1=>by
  exact (A8 (D8 (i:=1) sc_law_rows.nd rfl (.inl rfl) (r_lst r_nil))
 (A8 (D8 (i:=2) sc_law_rows.nd rfl (.inl rfl) r_int)
 (A8 (aa0 PassesOwn.never rfl (i_rng1 rfl B.b_range (r_bin op_add3 ok_add r_int (r_bin L2.op_mod ok_mod (r_callD D_law_cell_at (by decide) hr rfl (r_cons (r_v 0) (r_cons r_int r_nil))) r_int))) (g_name (L2.pg_name (i:=3) sc_law_rows.nd rfl (.inl rfl)))
 (A8 (D8 (i:=4) sc_law_rows.nd rfl (.inr rfl) (r_callD D_law_stream (by decide) hr rfl (r_cons (r_bin op_add3 ok_add (r_callD D_law_cell_at (by decide) hr rfl (r_cons (r_v 0) (r_cons r_int r_nil))) (r_v 3)) (r_cons r_int r_nil))))
 (A8 (D8 (i:=2) sc_law_rows.nd rfl (.inl rfl) (r_bin op_add3 ok_add (r_v 2) (r_bin L2.op_mod ok_mod (r_ix (r_v 4) r_int (λ_ _=>rfl)) r_int)))
 (A8 (D8 (i:=5) sc_law_rows.nd rfl (.inl rfl) (r_lst (r_cons (g8 (r_v 2) rfl BS) (r_cons r_str (r_cons (g8 (r_bin L2.op_mod ok_mod (r_ix (r_v 4) r_int (λ_ _=>rfl)) r_int) rfl BS) (r_cons (g8 (r_bin L2.op_mod ok_mod (r_ix (r_v 4) r_int (λ_ _=>rfl)) r_int) rfl BS) r_nil))))))
 (A8 (M7 (D7 L2.aO3 aP0 (r_bin L2.op_mod ok_mod (r_ix (r_v 4) r_int (λ_ _=>rfl)) r_int) r_int (L2.D1 _))
 (A8 (aD5 r_str (aU3 (r_v 5) r_int))
 (C2 (D8 (i:=5) sc_law_rows.nd rfl (.inl rfl) (r_bin op_add3 ok_add (r_v 5) (v8 (N:=["_law_j","_law_xs"]) [none,some 4] rfl (⟨rfl,rfl,by decide +kernel,by decide +kernel,(fa_cons rfl R1),(fa_cons (by walk_at "fb") (fa_cons (by walk_at "fb") (fa_cons (by walk_at "fb") (fa_cons (by walk_at "fb") R1))))⟩) (.own (.free rfl (by walk_at "o2") (by walk_at "o3") rfl (by walk_at "o2") .nil)) (i_rng1 rfl B.b_range (r_bin op_add3 ok_add r_int (r_bin L2.op_mod ok_mod (r_bin L2.op_fdiv ok_fdiv (r_ix (r_v 4) r_int (λ_ _=>rfl)) r_int) r_int))) (λ_ _ _ _=>(g_name (L2.pg_name (i:=0) (show List.Nodup (["_law_j","_law_xs"]:List Str) from by decide +kernel) rfl (by walk_at "o2")))) (λ_ _ _ _=>v7) (λ_ _ _ _=>(g8 (r_bin L2.op_mod ok_mod (r_ix (r_v 1) (r_bin op_add3 ok_add r_int (r_v 0)) (λ_ _=>rfl)) r_int) rfl BS)))))))
 E1)
 (C2 (d5 (R0 (r_v 1) (R3 r_str (r_v 5))))))))))
 (C2 (E5 (r_v 1))))))
theorem sc_law_row:L2.D6 ["_law_row_here","_law_way","_law_drawn","_law_words","_law_odd"] ["_law_row_here","_law_way","_law_drawn"] (L2.A6 (top 17)):=by walk_at "sc"
theorem ok_law_row {fa:Addr} {fd:FuncData} (B:O0 K mg cm) (F:L2.Fun K "_law_row" "_law_row" (top 17) fa fd):L2.FnOk P w K mg base L2.CX0 (1) fa fd ["_law_row_here","_law_way","_law_drawn"] (SpF K cm M4 3):=
 M9 F sc_law_row λ_ _ _ _ _ _ hr hu hu1=>by
  refine @A8 _ _ _ _ _ _ ?_ ?_
  exact (D8 (i:=3) sc_law_row.nd rfl (.inl rfl) (U8 (r_v 0) r_str))
  refine @A8 _ _ _ _ _ _ ?_ ?_
  exact (D8 (i:=4) sc_law_row.nd rfl (.inl rfl) (r_ix (r_lst (r_cons r_str (r_cons r_str (r_cons r_str (r_cons r_str (r_cons r_str (r_cons r_str (r_cons r_str (r_cons r_str r_nil))))))))) (r_bin L2.op_mod ok_mod (r_v 2) r_int) (λ_ _=>rfl)))
  refine @A8 _ _ _ _ _ _ ?_ ?_
  exact (M7 (L2.PW.pt (ad8 (D7 (op_eqP hu) ok_eq (r_v 1) r_int (L2.D1 _)) (u5 (D7 (op_eqP hu) ok_eq (r_ix (r_v 3) r_int (λ_ _=>rfl)) r_str (L2.D1 _)))))
 (C2 (E5 (r_bin L2.op_add_str ok_addS (r_v 0) (r_ix (r_lst (r_cons r_str (r_cons r_str (r_cons r_str (r_cons r_str (r_cons r_str (r_cons r_str r_nil))))))) (r_bin L2.op_mod ok_mod (r_v 2) r_int) (λ_ _=>rfl)))))
 E1)
  refine @A8 _ _ _ _ _ _ ?_ ?_
  exact (M7 (D7 (op_eqP hu) ok_eq (r_v 1) r_int (L2.D1 _))
 (C2 (E5 (r_bin L2.op_add_str ok_addS (r_v 0) (r_ix (r_lst (r_cons r_str (r_cons r_str (r_cons r_str (r_cons r_str r_nil))))) (r_bin L2.op_mod ok_mod (r_v 2) r_int) (λ_ _=>rfl)))))
 E1)
  refine @A8 _ _ _ _ _ _ ?_ ?_
  exact (M7 (D7 (op_eqP hu) ok_eq (r_v 1) r_int (L2.D1 _))
 (C2 (E5 (R3 r_str (r_cut (r_v 3) r_lno (r_lat (r_bin L2.op_mod ok_mod (r_v 2) (r_bin op_add3 ok_add r_int (r_intB (r_cmp (op_eqP hu) ok_eq (r_ix (r_v 3) r_int (λ_ _=>rfl)) r_str (L2.D1 _)) rfl B.b_int))))))))
 E1)
  refine @A8 _ _ _ _ _ _ ?_ ?_
  exact (M7 (D7 (op_eqP hu) ok_eq (r_v 1) r_int (L2.D1 _))
 (C2 (E5 (R3 r_str (r_bin op_add3 ok_add (r_bin op_add3 ok_add (r_cut (r_v 3) r_lno (r_lat r_int)) (r_lst (r_cons (r_ix (r_lst (r_cons r_str (r_cons r_str (r_cons r_str (r_cons r_str (r_cons r_str r_nil)))))) (r_bin L2.op_mod ok_mod (r_v 2) r_int) (λ_ _=>rfl)) r_nil))) (r_cut (r_v 3) (r_lat r_int) r_lno)))))
 E1)
  refine @A8 _ _ _ _ _ _ ?_ ?_
  exact (aL9 (op_eqP hu) ok_eq (r_v 1) (r_v 0) (L2.D1 _))
  refine @A8 _ _ _ _ _ _ ?_ ?_
  exact (M7 (D7 (op_eqP hu) ok_eq (r_v 1) r_int (L2.D1 _))
 (C2 (E5 (R3 r_str (r_bin op_add3 ok_add (r_cut (r_v 3) r_lno (r_lat r_neg)) (r_lst (r_cons (r_v 4) r_nil))))))
 E1)
  refine @A8 _ _ _ _ _ _ ?_ ?_
  refine @M7 _ _ _ _ _ _ _ _ _ ?_ ?_ ?_
  exact (D7 (op_eqP hu) ok_eq (r_v 1) r_int (L2.D1 _))
  refine @C2 _ _ _ _ ?_
  refine @E5 _ _ _ _ _ ?_
  refine @R3 _ _ _ _ _ _ _ _ ?_ ?_ ?_ ?_ ?_ ?_
  exact r_str
  refine @r_bin _ _ _ _ _ _ _ _ _ _ op_add3 ok_add ?_ ?_
  refine @r_lst _ _ _ _ _ ?_;exact (r_cons (r_ix (r_lst (r_cons r_str (r_cons r_str (r_cons r_str (r_cons r_str (r_cons r_str r_nil)))))) (r_bin L2.op_mod ok_mod (r_v 2) r_int) (λ_ _=>rfl)) r_nil)
  exact (r_cut (r_v 3) (r_lat r_int) r_lno)
  rfl
  exact D2 rfl
  rfl
  rfl
  exact E1
  exact (C2 (E5 (R3 r_str (r_bin op_add3 ok_add (r_bin op_add3 ok_add (r_cut (r_v 3) r_lno (r_lat r_int)) (r_lst (r_cons (r_v 4) r_nil))) (r_cut (r_v 3) (r_lat r_int) r_lno)))))
theorem sc_law_spoiled:L2.D6 ["_law_rows_here","_law_at","_law_way","_law_drawn","_law_sign","_law_turn","_law_less"] ["_law_rows_here","_law_at","_law_way","_law_drawn"] (L2.A6 (top 18)):=by walk_at "sc"
theorem ok_law_spoiled {fa:Addr} {fd:FuncData} (B:O0 K mg cm) (BS:mg "str" = none) (D_law_row:Def P w K mg base cm "_law_row" 1 ["_law_row_here","_law_way","_law_drawn"] M4 3) (F:L2.Fun K "_law_spoiled" "_law_spoiled" (top 18) fa fd):L2.FnOk P w K mg base L2.CX0 (2) fa fd ["_law_rows_here","_law_at","_law_way","_law_drawn"] (SpF K cm G7 4):=
 M9 F sc_law_spoiled λ_ _ _ _ _ _ hr hu hu1=>by
  exact (A8 (M7 (D7 (op_eqP hu) ok_eq (r_v 2) r_int (L2.D1 _))
 (A8 (D8 (i:=1) sc_law_spoiled.nd rfl (.inl rfl) (r_bin L2.op_mod ok_mod (r_v 3) (r_bin op_add4 ok_add2 (d3 (r_v 0) rfl B.b_len) r_int)))
 (A8 (D8 (i:=4) sc_law_spoiled.nd rfl (.inl rfl) (r_bin L2.op_mod ok_mod (r_bin L2.op_fdiv ok_fdiv (r_v 3) (r_bin op_add4 ok_add2 (d3 (r_v 0) rfl B.b_len) r_int)) r_int))
 (C2 (E5 (Q1 (r_cons (r_bin op_add4 ok_add2 (r_bin op_add4 ok_add2 (r_cut2 (r_v 0) r_lno (r_lat (r_v 1))) (r_lst (r_cons (r_ix (r_lst (r_cons r_str (r_cons r_str r_nil))) (r_v 4) (λ_ _=>rfl)) r_nil))) (r_cut2 (r_v 0) (r_lat (r_v 1)) r_lno)) (r_cons (r_bin op_add4 ok_add2 (r_v 1) r_int) r_nil)))))))
 E1)
 (A8 (M7 (D7 (op_eqP hu) ok_eq (r_v 2) r_int (L2.D1 _))
 (A8 (D8 (i:=5) sc_law_spoiled.nd rfl (.inl rfl) (au3 (r_ix (U8 (r_ix (r_v 0) (r_v 1) (λ_ _=>rfl)) r_str) r_int (λ_ _=>rfl)) rfl B.b_int))
 (A8 (D8 (i:=6) sc_law_spoiled.nd rfl (.inl rfl) (g8 (r_bin op_add4 ok_add2 r_int (r_bin L2.op_mod ok_mod (r_v 3) (r_bin L2.aG9 aJ2 (r_v 5) r_int))) rfl BS))
 (C2 (E5 (Q1 (r_cons (r_bin op_add4 ok_add2 (r_bin op_add4 ok_add2 (r_cut2 (r_v 0) r_lno (r_lat (r_bin op_add4 ok_add2 (r_v 1) r_int))) (r_lst (r_cons (r_bin L2.op_add_str ok_addS (r_v 6) r_str) r_nil))) (r_cut2 (r_v 0) (r_lat (r_bin op_add4 ok_add2 (r_v 1) r_int)) r_lno)) (r_cons (r_bin op_add4 ok_add2 (r_v 1) r_int) r_nil)))))))
 E1)
 (C2 (E5 (Q1 (r_cons (r_bin op_add4 ok_add2 (r_bin op_add4 ok_add2 (r_cut2 (r_v 0) r_lno (r_lat (r_v 1))) (r_lst (r_cons (r_callD D_law_row (by decide) hr rfl (r_cons (r_ix (r_v 0) (r_v 1) (λ_ _=>rfl)) (r_cons (r_v 2) (r_cons (r_v 3) r_nil)))) r_nil))) (r_cut2 (r_v 0) (r_lat (r_bin op_add4 ok_add2 (r_v 1) r_int)) r_lno)) (r_cons (r_bin op_add4 ok_add2 (r_v 1) r_int) r_nil)))))))
theorem sc_law_refused:L2.D6 ["_law_text","_law_found","e"] ["_law_text"] (L2.A6 (top 19)):=by walk_at "sc"
theorem ok_law_refused {fa:Addr} {fd:FuncData} (B:O0 K mg cm) (ER:at7 K cm [7,12,17]) (EG:aB3 K cm [7,12,17]) (MC:aR9 mg cm) (DX_read_deeds:aK8 P w K mg base cm "read_deeds" 4 ["text"] G3 1) (F:L2.Fun K "_law_refused" "_law_refused" (top 19) fa fd):L2.FnOk P w K mg base L2.CX0 (5) fa fd ["_law_text"] (SpF K cm G8 1):=
 M9 F sc_law_refused λ_ _ _ _ _ _ hr hu hu1=>by
  exact (A8 (D8 (i:=1) sc_law_refused.nd rfl (.inl rfl) ag0)
 (A8 (aQ7 ⟨rfl,rfl⟩ (aB4 (at0 DX_read_deeds (by decide) hr rfl (r_cons (r_v 0) r_nil))) (aQ5 (i:=2) ER (by decide) rfl MC.m_SwapError sc_law_refused.nd rfl rfl (λ_=>(C2 (D8 (i:=1) sc_law_refused.nd rfl (.inl rfl) (Q1 (r_cons (aU2 ER EG (r_v 2)) (r_cons (r_isE ER EG (by decide) (r_v 2) rfl B.b_isinstance rfl MC.m_NoText) (r_cons (r_isE ER EG (by decide) (r_v 2) rfl B.b_isinstance rfl MC.m_NoDeed) r_nil))))))) ph_nil))
 (C2 (E5 (r_v 1)))))
theorem sc_law:L2.D6 ["_law_script","_law_rows_here","_law_cell","_law_xs","_law_spoiled_here","_law_due"] ["_law_script"] (L2.A6 (top 20)):=by walk_at "sc"
theorem ok_law {fa:Addr} {fd:FuncData} (B:O0 K mg cm) (D_law_rows:Def P w K mg base cm "_law_rows" 2 ["_law_script"] K4 1) (D_read_deeds:Def P w K mg base cm "read_deeds" 4 ["text"] E3 1) (D_law_stream:Def P w K mg base cm "_law_stream" 1 ["_law_cell","_law_size"] E4 2) (D_law_spoiled:Def P w K mg base cm "_law_spoiled" 2 ["_law_rows_here","_law_at","_law_way","_law_drawn"] G7 4) (D_law_refused:Def P w K mg base cm "_law_refused" 5 ["_law_text"] G8 1) (F:L2.Fun K "law" "law" (top 20) fa fd):L2.FnOk P w K mg base L2.CX0 (6) fa fd ["_law_script"] (SpF K cm ai0 1):=
 M9 F sc_law λ_ _ _ _ _ _ hr hu hu1=>by
  exact (A8 (D8 (i:=1) sc_law.nd rfl (.inl rfl) (r_callD D_law_rows (by decide) hr rfl (r_cons (r_v 0) r_nil)))
 (A8 (M7 (D7 (u8 hu) ag5 (d3 (r_callD D_read_deeds (by decide) hr rfl (r_cons (R3 r_str (r_v 1)) r_nil)) rfl B.b_len) (d3 (r_v 1) rfl B.b_len) (L2.D1 _))
 (C2 (E5 ad5))
 E1)
 (A8 (aa0 PassesOwn.never rfl (ar3 (r_cut (r_v 0) (r_lat r_int) (r_lat r_int))) (g_name (L2.pg_name (i:=2) sc_law.nd rfl (.inl rfl)))
 (A8 (D8 (i:=3) sc_law.nd rfl (.inl rfl) (r_callD D_law_stream (by decide) hr rfl (r_cons (r_v 2) (r_cons r_int r_nil))))
 (A8 (aD5 (r_callD D_law_spoiled (by decide) hr rfl (r_cons (r_v 1) (r_cons (r_bin L2.op_mod ok_mod (r_ix (r_v 3) r_int (λ_ _=>rfl)) (d3 (r_v 1) rfl B.b_len)) (r_cons (r_bin L2.op_mod ok_mod (r_ix (r_v 3) r_int (λ_ _=>rfl)) r_int) (r_cons (r_ix (r_v 3) r_int (λ_ _=>rfl)) r_nil))))) (ar0 rfl (W0 (g_name (L2.pg_name (i:=4) sc_law.nd rfl (.inl rfl))) (W0 (g_name (L2.pg_name (i:=5) sc_law.nd rfl (.inl rfl))) aq9))))
 (C2 (M7 (D7 (op_eqP hu) ok_eq (r_v 4) (r_lst (r_cons r_str r_nil)) (L2.D1 _))
 (C2 (M7 (D7 (u8 hu) ag5 (r_callD D_read_deeds (by decide) hr rfl (r_cons r_str r_nil)) (r_lst r_nil) (L2.D1 _))
 (C2 (E5 ad5))
 E1))
 (C2 (M7 (D7 (aL4 hu) aL5 (r_callD D_law_refused (by decide) hr rfl (r_cons (R3 r_str (r_v 4)) r_nil)) (Q1 (r_cons (r_v 5) (r_cons ad5 (r_cons ad5 r_nil)))) (L2.D1 _))
 (C2 (E5 ad5))
 E1)))))))
 (C2 (E5 ad5)))))
end
set_option maxHeartbeats 8000000 in
theorem aM8 {l:PySem.W.OpenLaw} {w:World} {K:PySem.W.Frag} {h:Heap} {mg:Str->Option Value} {fa:Addr} (X:K.In h) (G:h.Ns mainGlobals mg) (hfa:mg "law" = some (.ref fa))
 {C_SwapError:Addr}
 {C_NoDeed:Addr}
 {C_NoText:Addr}
 {f0:Addr} {od0 an0:Option Addr} {sl0:Array (Option Value)} {oc0 kV0 dc0 pm0 cd0 ct0:Value}
 {f1:Addr} {od1 an1:Option Addr} {sl1:Array (Option Value)} {oc1 kV1 dc1 pm1 cd1 ct1:Value}
 {f2:Addr} {od2 an2:Option Addr} {sl2:Array (Option Value)} {oc2 kV2 dc2 pm2 cd2 ct2:Value}
 {f3:Addr} {od3 an3:Option Addr} {sl3:Array (Option Value)} {oc3 kV3 dc3 pm3 cd3 ct3:Value}
 {f4:Addr} {od4 an4:Option Addr} {sl4:Array (Option Value)} {oc4 kV4 dc4 pm4 cd4 ct4:Value}
 {f5:Addr} {od5 an5:Option Addr} {sl5:Array (Option Value)} {oc5 kV5 dc5 pm5 cd5 ct5:Value}
 {f6:Addr} {od6 an6:Option Addr} {sl6:Array (Option Value)} {oc6 kV6 dc6 pm6 cd6 ct6:Value}
 {f7:Addr} {od7 an7:Option Addr} {sl7:Array (Option Value)} {oc7 kV7 dc7 pm7 cd7 ct7:Value}
 {f8:Addr} {od8 an8:Option Addr} {sl8:Array (Option Value)} {oc8 kV8 dc8 pm8 cd8 ct8:Value}
 {f9:Addr} {od9 an9:Option Addr} {sl9:Array (Option Value)} {oc9 kV9 dc9 pm9 cd9 ct9:Value}
 {f10:Addr} {od10 an10:Option Addr} {sl10:Array (Option Value)} {oc10 kV10 dc10 pm10 cd10 ct10:Value}
 {f11:Addr} {od11 an11:Option Addr} {sl11:Array (Option Value)} {oc11 kV11 dc11 pm11 cd11 ct11:Value}
 {nm_SwapError q_SwapError:Str} {N_SwapError:Addr} {bs_SwapError bm_SwapError:List Value} {hx_SwapError:Bool} {sn_SwapError:List Str} {su_SwapError:List Value} {ab_SwapError:Bool} {co_SwapError:Option Bool} {dd_SwapError:Option Addr} {k0_SwapError k1_SwapError k2_SwapError k3_SwapError k5_SwapError:Option Value}
 {nm_NoDeed q_NoDeed:Str} {N_NoDeed:Addr} {bs_NoDeed bm_NoDeed:List Value} {hx_NoDeed:Bool} {sn_NoDeed:List Str} {su_NoDeed:List Value} {ab_NoDeed:Bool} {co_NoDeed:Option Bool} {dd_NoDeed:Option Addr} {k0_NoDeed k1_NoDeed k2_NoDeed k3_NoDeed k5_NoDeed:Option Value}
 {nm_NoText q_NoText:Str} {N_NoText:Addr} {bs_NoText bm_NoText:List Value} {hx_NoText:Bool} {sn_NoText:List Str} {su_NoText:List Value} {ab_NoText:Bool} {co_NoText:Option Bool} {dd_NoText:Option Addr} {k0_NoText k1_NoText k2_NoText k3_NoText k5_NoText:Option Value}
 {t_LAY:Tok}
 {t_SAY:Tok}
 {t_FIGURES:Tok}
 {t_MOST_FIGURES:Tok}
 (aC_SwapError:PySem.W.nsIn K mainGlobals "SwapError" = some (some (.ref C_SwapError)))
 (aC_NoDeed:PySem.W.nsIn K mainGlobals "NoDeed" = some (some (.ref C_NoDeed)))
 (aC_NoText:PySem.W.nsIn K mainGlobals "NoText" = some (some (.ref C_NoText)))
 (a0:PySem.W.findIn K (.ref C_SwapError) "__init__" = some (some (.ref f0)))
 (i0:PySem.W.isFn K (.ref f0)=true)
 (l0:K.lookup f0=some ⟨oc0,od0,.func (PySem.W.fnOf "__init__" "SwapError.__init__" (L2.C5 (L2.M0 (top 1) 0)) (L2.C1 (L2.M0 (top 1) 0)) (L2.A6 (L2.M0 (top 1) 0)) .none kV0 dc0 pm0 an0 cd0 ct0),sl0⟩)
 (c0:PySem.W.codeIn K cd0 "SwapError.__init__" = true)
 (k0:PySem.W.keepIn K (.ref f0)=true)
 (a1:PySem.W.nsIn K mainGlobals "_law_cell_at" = some (some (.ref f1)))
 (l1:K.lookup f1=some ⟨oc1,od1,.func (PySem.W.fnOf "_law_cell_at" "_law_cell_at" (L2.C5 (top 14)) (L2.C1 (top 14)) (L2.A6 (top 14)) .none kV1 dc1 pm1 an1 cd1 ct1),sl1⟩)
 (c1:PySem.W.codeIn K cd1 "_law_cell_at" = true)
 (k1:PySem.W.keepIn K (.ref f1)=true)
 (a2:PySem.W.nsIn K mainGlobals "_law_stream" = some (some (.ref f2)))
 (l2:K.lookup f2=some ⟨oc2,od2,.func (PySem.W.fnOf "_law_stream" "_law_stream" (L2.C5 (top 15)) (L2.C1 (top 15)) (L2.A6 (top 15)) .none kV2 dc2 pm2 an2 cd2 ct2),sl2⟩)
 (c2:PySem.W.codeIn K cd2 "_law_stream" = true)
 (k2:PySem.W.keepIn K (.ref f2)=true)
 (a3:PySem.W.nsIn K mainGlobals "_law_rows" = some (some (.ref f3)))
 (l3:K.lookup f3=some ⟨oc3,od3,.func (PySem.W.fnOf "_law_rows" "_law_rows" (L2.C5 (top 16)) (L2.C1 (top 16)) (L2.A6 (top 16)) .none kV3 dc3 pm3 an3 cd3 ct3),sl3⟩)
 (c3:PySem.W.codeIn K cd3 "_law_rows" = true)
 (k3:PySem.W.keepIn K (.ref f3)=true)
 (a4:PySem.W.nsIn K mainGlobals "is_number" = some (some (.ref f4)))
 (l4:K.lookup f4=some ⟨oc4,od4,.func (PySem.W.fnOf "is_number" "is_number" (L2.C5 (top 9)) (L2.C1 (top 9)) (L2.A6 (top 9)) .none kV4 dc4 pm4 an4 cd4 ct4),sl4⟩)
 (c4:PySem.W.codeIn K cd4 "is_number" = true)
 (k4:PySem.W.keepIn K (.ref f4)=true)
 (a5:PySem.W.nsIn K mainGlobals "read_numbers" = some (some (.ref f5)))
 (l5:K.lookup f5=some ⟨oc5,od5,.func (PySem.W.fnOf "read_numbers" "read_numbers" (L2.C5 (top 10)) (L2.C1 (top 10)) (L2.A6 (top 10)) .none kV5 dc5 pm5 an5 cd5 ct5),sl5⟩)
 (c5:PySem.W.codeIn K cd5 "read_numbers" = true)
 (k5:PySem.W.keepIn K (.ref f5)=true)
 (a6:PySem.W.nsIn K mainGlobals "read_deed" = some (some (.ref f6)))
 (l6:K.lookup f6=some ⟨oc6,od6,.func (PySem.W.fnOf "read_deed" "read_deed" (L2.C5 (top 12)) (L2.C1 (top 12)) (L2.A6 (top 12)) .none kV6 dc6 pm6 an6 cd6 ct6),sl6⟩)
 (c6:PySem.W.codeIn K cd6 "read_deed" = true)
 (k6:PySem.W.keepIn K (.ref f6)=true)
 (a7:PySem.W.nsIn K mainGlobals "read_deeds" = some (some (.ref f7)))
 (l7:K.lookup f7=some ⟨oc7,od7,.func (PySem.W.fnOf "read_deeds" "read_deeds" (L2.C5 (top 11)) (L2.C1 (top 11)) (L2.A6 (top 11)) .none kV7 dc7 pm7 an7 cd7 ct7),sl7⟩)
 (c7:PySem.W.codeIn K cd7 "read_deeds" = true)
 (k7:PySem.W.keepIn K (.ref f7)=true)
 (a8:PySem.W.nsIn K mainGlobals "_law_row" = some (some (.ref f8)))
 (l8:K.lookup f8=some ⟨oc8,od8,.func (PySem.W.fnOf "_law_row" "_law_row" (L2.C5 (top 17)) (L2.C1 (top 17)) (L2.A6 (top 17)) .none kV8 dc8 pm8 an8 cd8 ct8),sl8⟩)
 (c8:PySem.W.codeIn K cd8 "_law_row" = true)
 (k8:PySem.W.keepIn K (.ref f8)=true)
 (a9:PySem.W.nsIn K mainGlobals "_law_spoiled" = some (some (.ref f9)))
 (l9:K.lookup f9=some ⟨oc9,od9,.func (PySem.W.fnOf "_law_spoiled" "_law_spoiled" (L2.C5 (top 18)) (L2.C1 (top 18)) (L2.A6 (top 18)) .none kV9 dc9 pm9 an9 cd9 ct9),sl9⟩)
 (c9:PySem.W.codeIn K cd9 "_law_spoiled" = true)
 (k9:PySem.W.keepIn K (.ref f9)=true)
 (a10:PySem.W.nsIn K mainGlobals "_law_refused" = some (some (.ref f10)))
 (l10:K.lookup f10=some ⟨oc10,od10,.func (PySem.W.fnOf "_law_refused" "_law_refused" (L2.C5 (top 19)) (L2.C1 (top 19)) (L2.A6 (top 19)) .none kV10 dc10 pm10 an10 cd10 ct10),sl10⟩)
 (c10:PySem.W.codeIn K cd10 "_law_refused" = true)
 (k10:PySem.W.keepIn K (.ref f10)=true)
 (a11:PySem.W.nsIn K mainGlobals "law" = some (some (.ref f11)))
 (l11:K.lookup f11=some ⟨oc11,od11,.func (PySem.W.fnOf "law" "law" (L2.C5 (top 20)) (L2.C1 (top 20)) (L2.A6 (top 20)) .none kV11 dc11 pm11 an11 cd11 ct11),sl11⟩)
 (c11:PySem.W.codeIn K cd11 "law" = true)
 (k11:PySem.W.keepIn K (.ref f11)=true)
 (xcg:PySem.W.specialIn K (.builtin "object.__class__") "__get__" = some (some (.builtin "getset_descriptor.__get__")))
 (xct:PySem.W.takesIn K (.builtin "object.__class__")=some true)
 (z_ValueError:PySem.W.nsIn K mainGlobals "ValueError" = some none)
 (xo_SwapError:K.lookup C_SwapError=some (excClassObj nm_SwapError q_SwapError C_SwapError N_SwapError bs_SwapError bm_SwapError hx_SwapError sn_SwapError su_SwapError ab_SwapError co_SwapError dd_SwapError k0_SwapError k1_SwapError k2_SwapError k3_SwapError k5_SwapError "ValueError.__new__"))
 (xe_SwapError:J5 bm_SwapError=true)
 (xh_SwapError:hx_SwapError=true)
 (kc_SwapError:PySem.W.keepIn K (.ref C_SwapError)=true)
 (sa_SwapError:PySem.W.findIn K (.ref C_SwapError) "__setattr__" = some (some (.builtin "object.__setattr__")))
 (xa_SwapError:PySem.W.findIn K (.ref C_SwapError) "at" = some none)
 (ga_SwapError:PySem.W.findIn K (.ref C_SwapError) "__getattribute__" = some (some (.builtin "BaseException.__getattribute__")))
 (gt_SwapError:PySem.W.findIn K (.ref C_SwapError) "__getattr__" = some none)
 (hd_SwapError:PySem.W.hasDictIn K C_SwapError=true)
 (cl_SwapError:PySem.W.findIn K (.ref C_SwapError) "__class__" = some (some (.builtin "object.__class__")))
 (mo_SwapError:PySem.W.mroIn K C_SwapError (.type "object")=some true)
 (kv_SwapError:PySem.W.kitOne K (.ref C_SwapError) (.type "ValueError")=some true)
 (sb_SwapError_SwapError:Ws.H9 K C_SwapError C_SwapError=true)
 (kt_SwapError_SwapError:PySem.W.kitOne K (.ref C_SwapError) (.ref C_SwapError)=some true)
 (sb_SwapError_NoDeed:Ws.H9 K C_SwapError C_NoDeed=false)
 (kt_SwapError_NoDeed:PySem.W.kitOne K (.ref C_SwapError) (.ref C_NoDeed)=some false)
 (sb_SwapError_NoText:Ws.H9 K C_SwapError C_NoText=false)
 (kt_SwapError_NoText:PySem.W.kitOne K (.ref C_SwapError) (.ref C_NoText)=some false)
 (xo_NoDeed:K.lookup C_NoDeed=some (excClassObj nm_NoDeed q_NoDeed C_NoDeed N_NoDeed bs_NoDeed bm_NoDeed hx_NoDeed sn_NoDeed su_NoDeed ab_NoDeed co_NoDeed dd_NoDeed k0_NoDeed k1_NoDeed k2_NoDeed k3_NoDeed k5_NoDeed "ValueError.__new__"))
 (xe_NoDeed:J5 bm_NoDeed=true)
 (xh_NoDeed:hx_NoDeed=true)
 (xi_NoDeed:PySem.W.findIn K (.ref C_NoDeed) "__init__" = some (some (.ref f0)))
 (kc_NoDeed:PySem.W.keepIn K (.ref C_NoDeed)=true)
 (sa_NoDeed:PySem.W.findIn K (.ref C_NoDeed) "__setattr__" = some (some (.builtin "object.__setattr__")))
 (xa_NoDeed:PySem.W.findIn K (.ref C_NoDeed) "at" = some none)
 (ga_NoDeed:PySem.W.findIn K (.ref C_NoDeed) "__getattribute__" = some (some (.builtin "BaseException.__getattribute__")))
 (gt_NoDeed:PySem.W.findIn K (.ref C_NoDeed) "__getattr__" = some none)
 (hd_NoDeed:PySem.W.hasDictIn K C_NoDeed=true)
 (cl_NoDeed:PySem.W.findIn K (.ref C_NoDeed) "__class__" = some (some (.builtin "object.__class__")))
 (mo_NoDeed:PySem.W.mroIn K C_NoDeed (.type "object")=some true)
 (kv_NoDeed:PySem.W.kitOne K (.ref C_NoDeed) (.type "ValueError")=some true)
 (sb_NoDeed_SwapError:Ws.H9 K C_NoDeed C_SwapError=true)
 (kt_NoDeed_SwapError:PySem.W.kitOne K (.ref C_NoDeed) (.ref C_SwapError)=some true)
 (sb_NoDeed_NoDeed:Ws.H9 K C_NoDeed C_NoDeed=true)
 (kt_NoDeed_NoDeed:PySem.W.kitOne K (.ref C_NoDeed) (.ref C_NoDeed)=some true)
 (sb_NoDeed_NoText:Ws.H9 K C_NoDeed C_NoText=false)
 (kt_NoDeed_NoText:PySem.W.kitOne K (.ref C_NoDeed) (.ref C_NoText)=some false)
 (xo_NoText:K.lookup C_NoText=some (excClassObj nm_NoText q_NoText C_NoText N_NoText bs_NoText bm_NoText hx_NoText sn_NoText su_NoText ab_NoText co_NoText dd_NoText k0_NoText k1_NoText k2_NoText k3_NoText k5_NoText "ValueError.__new__"))
 (xe_NoText:J5 bm_NoText=true)
 (xh_NoText:hx_NoText=true)
 (xi_NoText:PySem.W.findIn K (.ref C_NoText) "__init__" = some (some (.ref f0)))
 (kc_NoText:PySem.W.keepIn K (.ref C_NoText)=true)
 (sa_NoText:PySem.W.findIn K (.ref C_NoText) "__setattr__" = some (some (.builtin "object.__setattr__")))
 (xa_NoText:PySem.W.findIn K (.ref C_NoText) "at" = some none)
 (ga_NoText:PySem.W.findIn K (.ref C_NoText) "__getattribute__" = some (some (.builtin "BaseException.__getattribute__")))
 (gt_NoText:PySem.W.findIn K (.ref C_NoText) "__getattr__" = some none)
 (hd_NoText:PySem.W.hasDictIn K C_NoText=true)
 (cl_NoText:PySem.W.findIn K (.ref C_NoText) "__class__" = some (some (.builtin "object.__class__")))
 (mo_NoText:PySem.W.mroIn K C_NoText (.type "object")=some true)
 (kv_NoText:PySem.W.kitOne K (.ref C_NoText) (.type "ValueError")=some true)
 (sb_NoText_SwapError:Ws.H9 K C_NoText C_SwapError=true)
 (kt_NoText_SwapError:PySem.W.kitOne K (.ref C_NoText) (.ref C_SwapError)=some true)
 (sb_NoText_NoDeed:Ws.H9 K C_NoText C_NoDeed=false)
 (kt_NoText_NoDeed:PySem.W.kitOne K (.ref C_NoText) (.ref C_NoDeed)=some false)
 (sb_NoText_NoText:Ws.H9 K C_NoText C_NoText=true)
 (kt_NoText_NoText:PySem.W.kitOne K (.ref C_NoText) (.ref C_NoText)=some true)
 (g_LAY:PySem.W.nsIn K mainGlobals "LAY" = some (some (.str "lay" t_LAY)))
 (g_SAY:PySem.W.nsIn K mainGlobals "SAY" = some (some (.str "say" t_SAY)))
 (g_FIGURES:PySem.W.nsIn K mainGlobals "FIGURES" = some (some (.str "0123456789" t_FIGURES)))
 (g_MOST_FIGURES:PySem.W.nsIn K mainGlobals "MOST_FIGURES" = some (some (.int 9 t_MOST_FIGURES)))
 (z_str:PySem.W.nsIn K mainGlobals "str" = some none)
 (z_len:PySem.W.nsIn K mainGlobals "len" = some none)
 (z_range:PySem.W.nsIn K mainGlobals "range" = some none)
 (z_list:PySem.W.nsIn K mainGlobals "list" = some none)
 (z_sorted:PySem.W.nsIn K mainGlobals "sorted" = some none)
 (z_isinstance:PySem.W.nsIn K mainGlobals "isinstance" = some none)
 (z_int:PySem.W.nsIn K mainGlobals "int" = some none)
 (z_bool:PySem.W.nsIn K mainGlobals "bool" = some none)
 (z_tuple:PySem.W.nsIn K mainGlobals "tuple" = some none)
 (z_enumerate:PySem.W.nsIn K mainGlobals "enumerate" = some none)
 (z_reversed:PySem.W.nsIn K mainGlobals "reversed" = some none)
 (z_max:PySem.W.nsIn K mainGlobals "max" = some none)
 (z_min:PySem.W.nsIn K mainGlobals "min" = some none)
 (z_all:PySem.W.nsIn K mainGlobals "all" = some none)
 (z_any:PySem.W.nsIn K mainGlobals "any" = some none)
 (z_set:PySem.W.nsIn K mainGlobals "set" = some none)
 (z_zip:PySem.W.nsIn K mainGlobals "zip" = some none)
 (z_dict:PySem.W.nsIn K mainGlobals "dict" = some none) :
 ∃fd:FuncData,(∀(s:Shared) (v:Value),BindsTo s fd ⟨[v],[]⟩ [("_law_script",v)])/\∀base:Heap,K.In base->base.Ns mainGlobals mg->L2.FnOk l.prog w K mg base L2.CX0 6 fa fd ["_law_script"] (ag8 K):=by
 have e:=hfa.symm.trans (PySem.W.mg_of X G a11)
 cases e
 have B:O0 K mg (λi=>if i=7 then C_SwapError else if i=12 then C_NoDeed else if i=17 then C_NoText else C_SwapError):=by
  exact⟨az3 K,PySem.W.mg_none_of X G z_len,PySem.W.mg_none_of X G z_range,PySem.W.mg_none_of X G z_list,PySem.W.mg_none_of X G z_sorted,PySem.W.mg_none_of X G z_isinstance,PySem.W.mg_none_of X G z_int,PySem.W.mg_none_of X G z_bool,PySem.W.mg_none_of X G z_tuple,PySem.W.mg_none_of X G z_enumerate,PySem.W.mg_none_of X G z_reversed,PySem.W.mg_none_of X G z_max,PySem.W.mg_none_of X G z_min,PySem.W.mg_none_of X G z_all,PySem.W.mg_none_of X G z_any,PySem.W.mg_none_of X G z_set,PySem.W.mg_none_of X G z_zip,PySem.W.mg_none_of X G z_dict⟩
 have GL:aM7 mg:=⟨⟨_,PySem.W.mg_of X G g_LAY⟩,⟨_,PySem.W.mg_of X G g_SAY⟩,⟨_,PySem.W.mg_of X G g_FIGURES⟩,⟨_,PySem.W.mg_of X G g_MOST_FIGURES⟩⟩
 have F0:=L2.L5 (st:=(L2.M0 (top 1) 0)) l0 c0 k0
 have b0:=F0.binds (ps:=["self","at"]) λ_ _ _ _ _ _ us hl=>match us,hl with | [_,_],_=>rfl
 have F1:=L2.L5 (st:=(top 14)) l1 c1 k1
 have b1:=F1.binds (ps:=["_law_script","_law_k"]) λ_ _ _ _ _ _ us hl=>match us,hl with | [_,_],_=>rfl
 have F2:=L2.L5 (st:=(top 15)) l2 c2 k2
 have b2:=F2.binds (ps:=["_law_cell","_law_size"]) λ_ _ _ _ _ _ us hl=>match us,hl with | [_,_],_=>rfl
 have F3:=L2.L5 (st:=(top 16)) l3 c3 k3
 have b3:=F3.binds (ps:=["_law_script"]) λ_ _ _ _ _ _ us hl=>match us,hl with | [_],_=>rfl
 have F4:=L2.L5 (st:=(top 9)) l4 c4 k4
 have b4:=F4.binds (ps:=["word"]) λ_ _ _ _ _ _ us hl=>match us,hl with | [_],_=>rfl
 have F5:=L2.L5 (st:=(top 10)) l5 c5 k5
 have b5:=F5.binds (ps:=["words"]) λ_ _ _ _ _ _ us hl=>match us,hl with | [_],_=>rfl
 have F6:=L2.L5 (st:=(top 12)) l6 c6 k6
 have b6:=F6.binds (ps:=["row"]) λ_ _ _ _ _ _ us hl=>match us,hl with | [_],_=>rfl
 have F7:=L2.L5 (st:=(top 11)) l7 c7 k7
 have b7:=F7.binds (ps:=["text"]) λ_ _ _ _ _ _ us hl=>match us,hl with | [_],_=>rfl
 have F8:=L2.L5 (st:=(top 17)) l8 c8 k8
 have b8:=F8.binds (ps:=["_law_row_here","_law_way","_law_drawn"]) λ_ _ _ _ _ _ us hl=>match us,hl with | [_,_,_],_=>rfl
 have F9:=L2.L5 (st:=(top 18)) l9 c9 k9
 have b9:=F9.binds (ps:=["_law_rows_here","_law_at","_law_way","_law_drawn"]) λ_ _ _ _ _ _ us hl=>match us,hl with | [_,_,_,_],_=>rfl
 have F10:=L2.L5 (st:=(top 19)) l10 c10 k10
 have b10:=F10.binds (ps:=["_law_text"]) λ_ _ _ _ _ _ us hl=>match us,hl with | [_],_=>rfl
 have F11:=L2.L5 (st:=(top 20)) l11 c11 k11
 refine⟨PySem.W.fnOf "law" "law" (L2.C5 (top 20)) (L2.C1 (top 20)) (L2.A6 (top 20)) .none kV11 dc11 pm11 an11 cd11 ct11,λs v=>.of_eq rfl,λbase _ _=>?_⟩
 have xk_SwapError:XK K C_SwapError f0:=⟨⟨_,_,_,_,_,_,_,_,_,_,_,_,_,_,_,_,xo_SwapError,xe_SwapError,xh_SwapError⟩,a0,i0,kc_SwapError,sa_SwapError,xa_SwapError⟩
 have xg_SwapError:XG K C_SwapError:=⟨ga_SwapError,gt_SwapError,hd_SwapError,cl_SwapError,xcg,xct,mo_SwapError⟩
 have xk_NoDeed:XK K C_NoDeed f0:=⟨⟨_,_,_,_,_,_,_,_,_,_,_,_,_,_,_,_,xo_NoDeed,xe_NoDeed,xh_NoDeed⟩,xi_NoDeed,i0,kc_NoDeed,sa_NoDeed,xa_NoDeed⟩
 have xg_NoDeed:XG K C_NoDeed:=⟨ga_NoDeed,gt_NoDeed,hd_NoDeed,cl_NoDeed,xcg,xct,mo_NoDeed⟩
 have xk_NoText:XK K C_NoText f0:=⟨⟨_,_,_,_,_,_,_,_,_,_,_,_,_,_,_,_,xo_NoText,xe_NoText,xh_NoText⟩,xi_NoText,i0,kc_NoText,sa_NoText,xa_NoText⟩
 have xg_NoText:XG K C_NoText:=⟨ga_NoText,gt_NoText,hd_NoText,cl_NoText,xcg,xct,mo_NoText⟩
 have ER:at7 K (λi=>if i=7 then C_SwapError else if i=12 then C_NoDeed else if i=17 then C_NoText else C_SwapError) [7,12,17]:=by
  refine⟨λc hc=>?_,λc hc k hk=>?_⟩
  ·simp only [List.mem_cons,List.not_mem_nil,or_false] at hc;rcases hc with rfl | rfl | rfl
   ·exact⟨_,xk_SwapError⟩
   ·exact⟨_,xk_NoDeed⟩
   ·exact⟨_,xk_NoText⟩
  ·simp only [List.mem_cons,List.not_mem_nil,or_false] at hc;rcases hc with rfl | rfl | rfl
   ·simp only [List.mem_cons,List.not_mem_nil,or_false] at hk;rcases hk with rfl | rfl | rfl
    ·exact sb_SwapError_SwapError
    ·exact sb_SwapError_NoDeed
    ·exact sb_SwapError_NoText
   ·simp only [List.mem_cons,List.not_mem_nil,or_false] at hk;rcases hk with rfl | rfl | rfl
    ·exact sb_NoDeed_SwapError
    ·exact sb_NoDeed_NoDeed
    ·exact sb_NoDeed_NoText
   ·simp only [List.mem_cons,List.not_mem_nil,or_false] at hk;rcases hk with rfl | rfl | rfl
    ·exact sb_NoText_SwapError
    ·exact sb_NoText_NoDeed
    ·exact sb_NoText_NoText
 have EG:aB3 K (λi=>if i=7 then C_SwapError else if i=12 then C_NoDeed else if i=17 then C_NoText else C_SwapError) [7,12,17]:=by
  refine⟨λc hc=>?_,λc hc k hk=>?_,λc hc=>?_⟩
  ·simp only [List.mem_cons,List.not_mem_nil,or_false] at hc;rcases hc with rfl | rfl | rfl
   ·exact xg_SwapError
   ·exact xg_NoDeed
   ·exact xg_NoText
  ·simp only [List.mem_cons,List.not_mem_nil,or_false] at hc;rcases hc with rfl | rfl | rfl
   ·simp only [List.mem_cons,List.not_mem_nil,or_false] at hk;rcases hk with rfl | rfl | rfl
    ·exact kt_SwapError_SwapError
    ·exact kt_SwapError_NoDeed
    ·exact kt_SwapError_NoText
   ·simp only [List.mem_cons,List.not_mem_nil,or_false] at hk;rcases hk with rfl | rfl | rfl
    ·exact kt_NoDeed_SwapError
    ·exact kt_NoDeed_NoDeed
    ·exact kt_NoDeed_NoText
   ·simp only [List.mem_cons,List.not_mem_nil,or_false] at hk;rcases hk with rfl | rfl | rfl
    ·exact kt_NoText_SwapError
    ·exact kt_NoText_NoDeed
    ·exact kt_NoText_NoText
  ·simp only [List.mem_cons,List.not_mem_nil,or_false] at hc;rcases hc with rfl | rfl | rfl
   ·exact kv_SwapError
   ·exact kv_NoDeed
   ·exact kv_NoText
 have MC:aR9 mg (λi=>if i=7 then C_SwapError else if i=12 then C_NoDeed else if i=17 then C_NoText else C_SwapError):=⟨PySem.W.mg_of X G aC_SwapError,PySem.W.mg_of X G aC_NoDeed,PySem.W.mg_of X G aC_NoText,PySem.W.mg_none_of X G z_ValueError⟩
 have OE:=V4 (P:=l.prog) (w:=w) (base:=base) (mg:=mg) F0
 have XD_SwapError:at1 l.prog w K mg base (λi=>if i=7 then C_SwapError else if i=12 then C_NoDeed else if i=17 then C_NoText else C_SwapError) 7 "SwapError" 1:=⟨⟨_,_,_,OE,xk_SwapError,PySem.W.mg_of X G aC_SwapError,b0⟩⟩
 have XD_NoDeed:at1 l.prog w K mg base (λi=>if i=7 then C_SwapError else if i=12 then C_NoDeed else if i=17 then C_NoText else C_SwapError) 12 "NoDeed" 1:=⟨⟨_,_,_,OE,xk_NoDeed,PySem.W.mg_of X G aC_NoDeed,b0⟩⟩
 have XD_NoText:at1 l.prog w K mg base (λi=>if i=7 then C_SwapError else if i=12 then C_NoDeed else if i=17 then C_NoText else C_SwapError) 17 "NoText" 1:=⟨⟨_,_,_,OE,xk_NoText,PySem.W.mg_of X G aC_NoText,b0⟩⟩
 have BS:=PySem.W.mg_none_of X G z_str
 have O1:=ok_law_cell_at (P:=l.prog) (w:=w) (base:=base) B F1
 have D_law_cell_at:Def l.prog w K mg base (λi=>if i=7 then C_SwapError else if i=12 then C_NoDeed else if i=17 then C_NoText else C_SwapError) "_law_cell_at" 1 ["_law_script","_law_k"] D0 2:=⟨⟨_,_,O1,PySem.W.mg_of X G a1,k1,b1⟩,λvs A v A' h=>N6 h⟩
 have O2:=ok_law_stream (P:=l.prog) (w:=w) (base:=base) B F2
 have D_law_stream:Def l.prog w K mg base (λi=>if i=7 then C_SwapError else if i=12 then C_NoDeed else if i=17 then C_NoText else C_SwapError) "_law_stream" 1 ["_law_cell","_law_size"] E4 2:=⟨⟨_,_,O2,PySem.W.mg_of X G a2,k2,b2⟩,λvs A v A' h=>N6 h⟩
 have O3:=ok_law_rows (P:=l.prog) (w:=w) (base:=base) B BS D_law_cell_at D_law_stream F3
 have D_law_rows:Def l.prog w K mg base (λi=>if i=7 then C_SwapError else if i=12 then C_NoDeed else if i=17 then C_NoText else C_SwapError) "_law_rows" 2 ["_law_script"] K4 1:=⟨⟨_,_,O3,PySem.W.mg_of X G a3,k3,b3⟩,λvs A v A' h=>N6 h⟩
 have O4:=ok_is_number (P:=l.prog) (w:=w) (base:=base) B GL F4
 have D_is_number:Def l.prog w K mg base (λi=>if i=7 then C_SwapError else if i=12 then C_NoDeed else if i=17 then C_NoText else C_SwapError) "is_number" 1 ["word"] G1 1:=⟨⟨_,_,O4,PySem.W.mg_of X G a4,k4,b4⟩,λvs A v A' h=>N6 h⟩
 have O5:=ok_read_numbers (P:=l.prog) (w:=w) (base:=base) B D_is_number F5
 have D_read_numbers:Def l.prog w K mg base (λi=>if i=7 then C_SwapError else if i=12 then C_NoDeed else if i=17 then C_NoText else C_SwapError) "read_numbers" 2 ["words"] D4 1:=⟨⟨_,_,O5,PySem.W.mg_of X G a5,k5,b5⟩,λvs A v A' h=>N6 h⟩
 have O6:=ok_read_deed (P:=l.prog) (w:=w) (base:=base) B GL D_read_numbers F6
 have D_read_deed:Def l.prog w K mg base (λi=>if i=7 then C_SwapError else if i=12 then C_NoDeed else if i=17 then C_NoText else C_SwapError) "read_deed" 3 ["row"] D3 1:=⟨⟨_,_,O6,PySem.W.mg_of X G a6,k6,b6⟩,λvs A v A' h=>N6 h⟩
 have O7:=ok_read_deeds (P:=l.prog) (w:=w) (base:=base) B D_read_deed F7
 have D_read_deeds:Def l.prog w K mg base (λi=>if i=7 then C_SwapError else if i=12 then C_NoDeed else if i=17 then C_NoText else C_SwapError) "read_deeds" 4 ["text"] E3 1:=⟨⟨_,_,O7,PySem.W.mg_of X G a7,k7,b7⟩,λvs A v A' h=>N6 h⟩
 have O8:=ok_law_row (P:=l.prog) (w:=w) (base:=base) B F8
 have D_law_row:Def l.prog w K mg base (λi=>if i=7 then C_SwapError else if i=12 then C_NoDeed else if i=17 then C_NoText else C_SwapError) "_law_row" 1 ["_law_row_here","_law_way","_law_drawn"] M4 3:=⟨⟨_,_,O8,PySem.W.mg_of X G a8,k8,b8⟩,λvs A v A' h=>N6 h⟩
 have O9:=ok_law_spoiled (P:=l.prog) (w:=w) (base:=base) B BS D_law_row F9
 have D_law_spoiled:Def l.prog w K mg base (λi=>if i=7 then C_SwapError else if i=12 then C_NoDeed else if i=17 then C_NoText else C_SwapError) "_law_spoiled" 2 ["_law_rows_here","_law_at","_law_way","_law_drawn"] G7 4:=⟨⟨_,_,O9,PySem.W.mg_of X G a9,k9,b9⟩,λvs A v A' h=>N6 h⟩
 have OX7:=j6 (P:=l.prog) (w:=w) (base:=base) B D_read_deed XD_NoText F7
 have DX_read_deeds:aK8 l.prog w K mg base (λi=>if i=7 then C_SwapError else if i=12 then C_NoDeed else if i=17 then C_NoText else C_SwapError) "read_deeds" 4 ["text"] G3 1:=⟨⟨_,_,OX7,PySem.W.mg_of X G a7,k7,b7⟩,λvs A h=>aA7 h⟩
 have O10:=ok_law_refused (P:=l.prog) (w:=w) (base:=base) B ER EG MC DX_read_deeds F10
 have D_law_refused:Def l.prog w K mg base (λi=>if i=7 then C_SwapError else if i=12 then C_NoDeed else if i=17 then C_NoText else C_SwapError) "_law_refused" 5 ["_law_text"] G8 1:=⟨⟨_,_,O10,PySem.W.mg_of X G a10,k10,b10⟩,λvs A v A' h=>N6 h⟩
 have O11:=ok_law (P:=l.prog) (w:=w) (base:=base) B D_law_rows D_read_deeds D_law_stream D_law_spoiled D_law_refused F11
 exact O11.imp λvs H Q E q=>aJ7 law_pure vs H Q E q
end Ws
lay_quick PySem.Challenge.pw_wordswap_k74_texts_of_no_deeds
namespace Ws
open PySem PySem.W
set_option Elab.async false
set_option maxHeartbeats 0
abbrev kps:List Nat:=[1,2,3,4,5,7,8,9,10,11,12,14,15,16,17,18,19,20]
abbrev lse:List Str:=[]
abbrev xt (p:Program) (s:Shared):Bool:=xlAt (view p kps) [] s&&recOk (RowW.records PySem.Challenge.rw_wordswap_k74_texts_of_no_deeds.row.toRowW) s
def G9 (p:Program) (i:Nat):Stmt:=p.main.body.getD i (.Pass ⟨0,0,0,0⟩)
abbrev ob0 (K:Frag):=(PySem.W.nsIn K mainGlobals "SwapError",PySem.W.nsIn K mainGlobals "NoDeed",PySem.W.nsIn K mainGlobals "NoText",PySem.W.findIn K (.ref 31) "__init__",PySem.W.isFn K (.ref 28),K.lookup 28,PySem.W.codeIn K (.ref 27) "SwapError.__init__",PySem.W.keepIn K (.ref 28),PySem.W.nsIn K mainGlobals "_law_cell_at",K.lookup 89,PySem.W.codeIn K (.ref 88) "_law_cell_at",PySem.W.keepIn K (.ref 89),PySem.W.nsIn K mainGlobals "_law_stream",K.lookup 96,PySem.W.codeIn K (.ref 95) "_law_stream",PySem.W.keepIn K (.ref 96))
abbrev va0 (p:Program):=((some (some (.ref 31)):Option (Option Value)),(some (some (.ref 44)):Option (Option Value)),(some (some (.ref 56)):Option (Option Value)),(some (some (.ref 28)):Option (Option Value)),(true:Bool),(some ⟨(.type "function"),none,.func (PySem.W.fnOf "__init__" "SwapError.__init__" (L2.C5 (L2.M0 (G9 p 1) 0)) (L2.C1 (L2.M0 (G9 p 1) 0)) (L2.A6 (L2.M0 (G9 p 1) 0)) .none .none .none (.str "wordswap.errors" 187) none (.ref 27) .none),#[]⟩:Option Obj),(true:Bool),(true:Bool),(some (some (.ref 89)):Option (Option Value)),(some ⟨(.type "function"),none,.func (PySem.W.fnOf "_law_cell_at" "_law_cell_at" (L2.C5 (G9 p 14)) (L2.C1 (G9 p 14)) (L2.A6 (G9 p 14)) .none .none .none (.str "law_wordswap_k74_texts_of_no_deeds" 293) none (.ref 88) .none),#[]⟩:Option Obj),(true:Bool),(true:Bool),(some (some (.ref 96)):Option (Option Value)),(some ⟨(.type "function"),none,.func (PySem.W.fnOf "_law_stream" "_law_stream" (L2.C5 (G9 p 15)) (L2.C1 (G9 p 15)) (L2.A6 (G9 p 15)) .none .none .none (.str "law_wordswap_k74_texts_of_no_deeds" 293) none (.ref 95) .none),#[]⟩:Option Obj),(true:Bool),(true:Bool))
abbrev ob1 (K:Frag):=(PySem.W.nsIn K mainGlobals "_law_rows",K.lookup 101,PySem.W.codeIn K (.ref 100) "_law_rows",PySem.W.keepIn K (.ref 101),PySem.W.nsIn K mainGlobals "is_number",K.lookup 63,PySem.W.codeIn K (.ref 62) "is_number",PySem.W.keepIn K (.ref 63),PySem.W.nsIn K mainGlobals "read_numbers",K.lookup 68,PySem.W.codeIn K (.ref 67) "read_numbers",PySem.W.keepIn K (.ref 68),PySem.W.nsIn K mainGlobals "read_deed",K.lookup 82,PySem.W.codeIn K (.ref 81) "read_deed",PySem.W.keepIn K (.ref 82))
abbrev va1 (p:Program):=((some (some (.ref 101)):Option (Option Value)),(some ⟨(.type "function"),none,.func (PySem.W.fnOf "_law_rows" "_law_rows" (L2.C5 (G9 p 16)) (L2.C1 (G9 p 16)) (L2.A6 (G9 p 16)) .none .none .none (.str "law_wordswap_k74_texts_of_no_deeds" 293) none (.ref 100) .none),#[]⟩:Option Obj),(true:Bool),(true:Bool),(some (some (.ref 63)):Option (Option Value)),(some ⟨(.type "function"),none,.func (PySem.W.fnOf "is_number" "is_number" (L2.C5 (G9 p 9)) (L2.C1 (G9 p 9)) (L2.A6 (G9 p 9)) .none .none .none (.str "wordswap.texts" 252) none (.ref 62) .none),#[]⟩:Option Obj),(true:Bool),(true:Bool),(some (some (.ref 68)):Option (Option Value)),(some ⟨(.type "function"),none,.func (PySem.W.fnOf "read_numbers" "read_numbers" (L2.C5 (G9 p 10)) (L2.C1 (G9 p 10)) (L2.A6 (G9 p 10)) .none .none .none (.str "wordswap.texts" 252) none (.ref 67) .none),#[]⟩:Option Obj),(true:Bool),(true:Bool),(some (some (.ref 82)):Option (Option Value)),(some ⟨(.type "function"),none,.func (PySem.W.fnOf "read_deed" "read_deed" (L2.C5 (G9 p 12)) (L2.C1 (G9 p 12)) (L2.A6 (G9 p 12)) .none .none .none (.str "wordswap.texts" 252) none (.ref 81) .none),#[]⟩:Option Obj),(true:Bool),(true:Bool))
abbrev ob2 (K:Frag):=(PySem.W.nsIn K mainGlobals "read_deeds",K.lookup 75,PySem.W.codeIn K (.ref 74) "read_deeds",PySem.W.keepIn K (.ref 75),PySem.W.nsIn K mainGlobals "_law_row",K.lookup 108,PySem.W.codeIn K (.ref 107) "_law_row",PySem.W.keepIn K (.ref 108),PySem.W.nsIn K mainGlobals "_law_spoiled",K.lookup 115,PySem.W.codeIn K (.ref 114) "_law_spoiled",PySem.W.keepIn K (.ref 115),PySem.W.nsIn K mainGlobals "_law_refused",K.lookup 122,PySem.W.codeIn K (.ref 121) "_law_refused",PySem.W.keepIn K (.ref 122))
abbrev va2 (p:Program):=((some (some (.ref 75)):Option (Option Value)),(some ⟨(.type "function"),none,.func (PySem.W.fnOf "read_deeds" "read_deeds" (L2.C5 (G9 p 11)) (L2.C1 (G9 p 11)) (L2.A6 (G9 p 11)) .none .none .none (.str "wordswap.texts" 252) none (.ref 74) .none),#[]⟩:Option Obj),(true:Bool),(true:Bool),(some (some (.ref 108)):Option (Option Value)),(some ⟨(.type "function"),none,.func (PySem.W.fnOf "_law_row" "_law_row" (L2.C5 (G9 p 17)) (L2.C1 (G9 p 17)) (L2.A6 (G9 p 17)) .none .none .none (.str "law_wordswap_k74_texts_of_no_deeds" 293) none (.ref 107) .none),#[]⟩:Option Obj),(true:Bool),(true:Bool),(some (some (.ref 115)):Option (Option Value)),(some ⟨(.type "function"),none,.func (PySem.W.fnOf "_law_spoiled" "_law_spoiled" (L2.C5 (G9 p 18)) (L2.C1 (G9 p 18)) (L2.A6 (G9 p 18)) .none .none .none (.str "law_wordswap_k74_texts_of_no_deeds" 293) none (.ref 114) .none),#[]⟩:Option Obj),(true:Bool),(true:Bool),(some (some (.ref 122)):Option (Option Value)),(some ⟨(.type "function"),none,.func (PySem.W.fnOf "_law_refused" "_law_refused" (L2.C5 (G9 p 19)) (L2.C1 (G9 p 19)) (L2.A6 (G9 p 19)) .none .none .none (.str "law_wordswap_k74_texts_of_no_deeds" 293) none (.ref 121) .none),#[]⟩:Option Obj),(true:Bool),(true:Bool))
abbrev ob3 (K:Frag):=(PySem.W.nsIn K mainGlobals "law",K.lookup 129,PySem.W.codeIn K (.ref 128) "law",PySem.W.keepIn K (.ref 129),PySem.W.specialIn K (.builtin "object.__class__") "__get__",PySem.W.takesIn K (.builtin "object.__class__"),PySem.W.nsIn K mainGlobals "ValueError",K.lookup 31,PySem.W.keepIn K (.ref 31),PySem.W.findIn K (.ref 31) "__setattr__",PySem.W.findIn K (.ref 31) "at",PySem.W.findIn K (.ref 31) "__getattribute__",PySem.W.findIn K (.ref 31) "__getattr__",PySem.W.hasDictIn K 31,PySem.W.findIn K (.ref 31) "__class__",PySem.W.mroIn K 31 (.type "object"))
abbrev va3 (p:Program):=((some (some (.ref 129)):Option (Option Value)),(some ⟨(.type "function"),none,.func (PySem.W.fnOf "law" "law" (L2.C5 (G9 p 20)) (L2.C1 (G9 p 20)) (L2.A6 (G9 p 20)) .none .none .none (.str "law_wordswap_k74_texts_of_no_deeds" 293) none (.ref 128) .none),#[]⟩:Option Obj),(true:Bool),(true:Bool),(some (some (.builtin "getset_descriptor.__get__")):Option (Option Value)),(some true:Option Bool),(some none:Option (Option Value)),(some (excClassObj "SwapError" "SwapError" 31 30 [(.type "ValueError")] [(.type "ValueError"),(.type "Exception"),(.type "BaseException"),(.type "object")] true [] [(.ref 44),(.ref 56)] false none none (some (.ref 15)) none (some (.str "SwapError" 189)) (some (.str "SwapError" 197)) (some (.bool true)) "ValueError.__new__"):Option Obj),(true:Bool),(some (some (.builtin "object.__setattr__")):Option (Option Value)),(some none:Option (Option Value)),(some (some (.builtin "BaseException.__getattribute__")):Option (Option Value)),(some none:Option (Option Value)),(true:Bool),(some (some (.builtin "object.__class__")):Option (Option Value)),(some true:Option Bool))
abbrev ob4 (K:Frag):=(PySem.W.kitOne K (.ref 31) (.type "ValueError"),Ws.H9 K 31 31,PySem.W.kitOne K (.ref 31) (.ref 31),Ws.H9 K 31 44,PySem.W.kitOne K (.ref 31) (.ref 44),Ws.H9 K 31 56,PySem.W.kitOne K (.ref 31) (.ref 56),K.lookup 44,PySem.W.findIn K (.ref 44) "__init__",PySem.W.keepIn K (.ref 44),PySem.W.findIn K (.ref 44) "__setattr__",PySem.W.findIn K (.ref 44) "at",PySem.W.findIn K (.ref 44) "__getattribute__",PySem.W.findIn K (.ref 44) "__getattr__",PySem.W.hasDictIn K 44,PySem.W.findIn K (.ref 44) "__class__")
abbrev va4 (p:Program):=((some true:Option Bool),(true:Bool),(some true:Option Bool),(false:Bool),(some false:Option Bool),(false:Bool),(some false:Option Bool),(some (excClassObj "NoDeed" "NoDeed" 44 43 [(.ref 31)] [(.ref 31),(.type "ValueError"),(.type "Exception"),(.type "BaseException"),(.type "object")] true [] [] false none none (some (.ref 35)) none (some (.str "NoDeed" 216)) (some (.str "NoDeed" 224)) (some (.bool true)) "ValueError.__new__"):Option Obj),(some (some (.ref 28)):Option (Option Value)),(true:Bool),(some (some (.builtin "object.__setattr__")):Option (Option Value)),(some none:Option (Option Value)),(some (some (.builtin "BaseException.__getattribute__")):Option (Option Value)),(some none:Option (Option Value)),(true:Bool),(some (some (.builtin "object.__class__")):Option (Option Value)))
abbrev ob5 (K:Frag):=(PySem.W.mroIn K 44 (.type "object"),PySem.W.kitOne K (.ref 44) (.type "ValueError"),Ws.H9 K 44 31,PySem.W.kitOne K (.ref 44) (.ref 31),Ws.H9 K 44 44,PySem.W.kitOne K (.ref 44) (.ref 44),Ws.H9 K 44 56,PySem.W.kitOne K (.ref 44) (.ref 56),K.lookup 56,PySem.W.findIn K (.ref 56) "__init__",PySem.W.keepIn K (.ref 56),PySem.W.findIn K (.ref 56) "__setattr__",PySem.W.findIn K (.ref 56) "at",PySem.W.findIn K (.ref 56) "__getattribute__",PySem.W.findIn K (.ref 56) "__getattr__",PySem.W.hasDictIn K 56)
abbrev va5 (p:Program):=((some true:Option Bool),(some true:Option Bool),(true:Bool),(some true:Option Bool),(true:Bool),(some true:Option Bool),(false:Bool),(some false:Option Bool),(some (excClassObj "NoText" "NoText" 56 55 [(.ref 31)] [(.ref 31),(.type "ValueError"),(.type "Exception"),(.type "BaseException"),(.type "object")] true [] [] false none none (some (.ref 47)) none (some (.str "NoText" 232)) (some (.str "NoText" 240)) (some (.bool true)) "ValueError.__new__"):Option Obj),(some (some (.ref 28)):Option (Option Value)),(true:Bool),(some (some (.builtin "object.__setattr__")):Option (Option Value)),(some none:Option (Option Value)),(some (some (.builtin "BaseException.__getattribute__")):Option (Option Value)),(some none:Option (Option Value)),(true:Bool))
abbrev ob6 (K:Frag):=(PySem.W.findIn K (.ref 56) "__class__",PySem.W.mroIn K 56 (.type "object"),PySem.W.kitOne K (.ref 56) (.type "ValueError"),Ws.H9 K 56 31,PySem.W.kitOne K (.ref 56) (.ref 31),Ws.H9 K 56 44,PySem.W.kitOne K (.ref 56) (.ref 44),Ws.H9 K 56 56,PySem.W.kitOne K (.ref 56) (.ref 56),PySem.W.nsIn K mainGlobals "LAY",PySem.W.nsIn K mainGlobals "SAY",PySem.W.nsIn K mainGlobals "FIGURES",PySem.W.nsIn K mainGlobals "MOST_FIGURES",PySem.W.nsIn K mainGlobals "str",PySem.W.nsIn K mainGlobals "len",PySem.W.nsIn K mainGlobals "range")
abbrev va6 (p:Program):=((some (some (.builtin "object.__class__")):Option (Option Value)),(some true:Option Bool),(some true:Option Bool),(true:Bool),(some true:Option Bool),(false:Bool),(some false:Option Bool),(true:Bool),(some true:Option Bool),(some (some (.str "lay" 248)):Option (Option Value)),(some (some (.str "say" 250)):Option (Option Value)),(some (some (.str "0123456789" 254)):Option (Option Value)),(some (some (.int 9 256)):Option (Option Value)),(some none:Option (Option Value)),(some none:Option (Option Value)),(some none:Option (Option Value)))
abbrev ob7 (K:Frag):=(PySem.W.nsIn K mainGlobals "list",PySem.W.nsIn K mainGlobals "sorted",PySem.W.nsIn K mainGlobals "isinstance",PySem.W.nsIn K mainGlobals "int",PySem.W.nsIn K mainGlobals "bool",PySem.W.nsIn K mainGlobals "tuple",PySem.W.nsIn K mainGlobals "enumerate",PySem.W.nsIn K mainGlobals "reversed",PySem.W.nsIn K mainGlobals "max",PySem.W.nsIn K mainGlobals "min",PySem.W.nsIn K mainGlobals "all",PySem.W.nsIn K mainGlobals "any",PySem.W.nsIn K mainGlobals "set",PySem.W.nsIn K mainGlobals "zip",PySem.W.nsIn K mainGlobals "dict")
abbrev va7 (p:Program):=((some none:Option (Option Value)),(some none:Option (Option Value)),(some none:Option (Option Value)),(some none:Option (Option Value)),(some none:Option (Option Value)),(some none:Option (Option Value)),(some none:Option (Option Value)),(some none:Option (Option Value)),(some none:Option (Option Value)),(some none:Option (Option Value)),(some none:Option (Option Value)),(some none:Option (Option Value)),(some none:Option (Option Value)),(some none:Option (Option Value)),(some none:Option (Option Value)))
abbrev ob (K:Frag):=(ob0 K,ob1 K,ob2 K,ob3 K,ob4 K,ob5 K,ob6 K,ob7 K)
abbrev va (p:Program):=(va0 p,va1 p,va2 p,va3 p,va4 p,va5 p,va6 p,va7 p)
theorem hop:∀w:World,(fencedOpening treeTable PySem.Challenge.pw_wordswap_k74_texts_of_no_deeds w 2224).map (λs=>(s.heap,s.gens,s.drawn,s.toks))=some (boot_heap w.params,#[],boot_drawn,boot_toks):=boot_open (by kernel_rfl) (by kernel_rfl) (λs=>by kernel_rfl)
theorem hck:∀(w:World) (os:OsState),(az4 (PySem.W.Fast.tw6613529449190102663 11 (some (.ref 6))) (PySem.W.Fast.tw10156331382660048174 (PySem.W.Fast.tw11892475500146522536 PySem.W.Fast.tw14364793385576792824) PySem.W.Fast.tw10784983328069597724 w) 2224 (ar5 w os) (topStub PySem.W.Fast.tw10784983328069597724)).map (λS=>(lk PySem.W.Fast.tw4187177175401517315 PySem.W.Fast.tw10784983328069597724 (view PySem.W.Fast.tw10784983328069597724 kps) lse (xt PySem.W.Fast.tw10784983328069597724) w S.abs,ob (ag9 S)))=some ((true,openGood (view PySem.W.Fast.tw10784983328069597724 kps) lse),va PySem.W.Fast.tw10784983328069597724):=λw os=>by kernel_rfl
theorem hdl:LeftO PySem.Challenge.pw_wordswap_k74_texts_of_no_deeds (view PySem.Challenge.pw_wordswap_k74_texts_of_no_deeds kps) lse (xt PySem.Challenge.pw_wordswap_k74_texts_of_no_deeds) (λs=>aa2 s.heap) (Kw PySem.Challenge.pw_wordswap_k74_texts_of_no_deeds 2224) 2224/\∀w,ob (Kw PySem.Challenge.pw_wordswap_k74_texts_of_no_deeds 2224 w)=va PySem.Challenge.pw_wordswap_k74_texts_of_no_deeds:=az8 (q:=λp=>view p kps) (Xt:=xt) (va:=va) PySem.W.Fast.te10784983328069597724 PySem.W.Fast.te6613529449190102663 PySem.W.Fast.te10156331382660048174 PySem.W.Fast.te11892475500146522536 PySem.W.Fast.te14364793385576792824 PySem.W.Fast.te4187177175401517315 hop hck
theorem aU7 {w:World} {h:Heap} {mg:Str->Option Value} {fa:Addr} (X:(Kw PySem.Challenge.pw_wordswap_k74_texts_of_no_deeds 2224 w).In h) (G:h.Ns mainGlobals mg) (hfa:mg "law" = some (.ref fa)):∃fd:FuncData,(∀(s:Shared) (v:Value),BindsTo s fd ⟨[v],[]⟩ [("_law_script",v)])/\∀base:Heap,(Kw PySem.Challenge.pw_wordswap_k74_texts_of_no_deeds 2224 w).In base->base.Ns mainGlobals mg->L2.FnOk PySem.Challenge.rw_wordswap_k74_texts_of_no_deeds.prog w (Kw PySem.Challenge.pw_wordswap_k74_texts_of_no_deeds 2224 w) mg base L2.CX0 6 fa fd ["_law_script"] (ag8 (Kw PySem.Challenge.pw_wordswap_k74_texts_of_no_deeds 2224 w)):=
 have e:=hdl.2 w
 aM8 X G hfa (p1 (p1 e)) (p1 (p2 (p1 e))) (p1 (s2 (p1 e))) (p1 (p2 (s2 (p1 e)))) (p1 (s4 (p1 e))) (p1 (p2 (s4 (p1 e)))) (p1 (s2 (s4 (p1 e)))) (p1 (p2 (s2 (s4 (p1 e))))) (p1 (s4 (s4 (p1 e)))) (p1 (p2 (s4 (s4 (p1 e))))) (p1 (s2 (s4 (s4 (p1 e))))) (p1 (p2 (s2 (s4 (s4 (p1 e)))))) (p1 (s4 (s4 (s4 (p1 e))))) (p1 (p2 (s4 (s4 (s4 (p1 e)))))) (p1 (s2 (s4 (s4 (s4 (p1 e)))))) (p2 (s2 (s4 (s4 (s4 (p1 e)))))) (p1 (p1 (p2 e))) (p1 (p2 (p1 (p2 e)))) (p1 (s2 (p1 (p2 e)))) (p1 (p2 (s2 (p1 (p2 e))))) (p1 (s4 (p1 (p2 e)))) (p1 (p2 (s4 (p1 (p2 e))))) (p1 (s2 (s4 (p1 (p2 e))))) (p1 (p2 (s2 (s4 (p1 (p2 e)))))) (p1 (s4 (s4 (p1 (p2 e))))) (p1 (p2 (s4 (s4 (p1 (p2 e)))))) (p1 (s2 (s4 (s4 (p1 (p2 e)))))) (p1 (p2 (s2 (s4 (s4 (p1 (p2 e))))))) (p1 (s4 (s4 (s4 (p1 (p2 e)))))) (p1 (p2 (s4 (s4 (s4 (p1 (p2 e))))))) (p1 (s2 (s4 (s4 (s4 (p1 (p2 e))))))) (p2 (s2 (s4 (s4 (s4 (p1 (p2 e))))))) (p1 (p1 (s2 e))) (p1 (p2 (p1 (s2 e)))) (p1 (s2 (p1 (s2 e)))) (p1 (p2 (s2 (p1 (s2 e))))) (p1 (s4 (p1 (s2 e)))) (p1 (p2 (s4 (p1 (s2 e))))) (p1 (s2 (s4 (p1 (s2 e))))) (p1 (p2 (s2 (s4 (p1 (s2 e)))))) (p1 (s4 (s4 (p1 (s2 e))))) (p1 (p2 (s4 (s4 (p1 (s2 e)))))) (p1 (s2 (s4 (s4 (p1 (s2 e)))))) (p1 (p2 (s2 (s4 (s4 (p1 (s2 e))))))) (p1 (s4 (s4 (s4 (p1 (s2 e)))))) (p1 (p2 (s4 (s4 (s4 (p1 (s2 e))))))) (p1 (s2 (s4 (s4 (s4 (p1 (s2 e))))))) (p2 (s2 (s4 (s4 (s4 (p1 (s2 e))))))) (p1 (p1 (p2 (s2 e)))) (p1 (p2 (p1 (p2 (s2 e))))) (p1 (s2 (p1 (p2 (s2 e))))) (p1 (p2 (s2 (p1 (p2 (s2 e)))))) (p1 (s4 (p1 (p2 (s2 e))))) (p1 (p2 (s4 (p1 (p2 (s2 e)))))) (p1 (s2 (s4 (p1 (p2 (s2 e)))))) (p1 (p2 (s2 (s4 (p1 (p2 (s2 e))))))) rfl rfl (p1 (s4 (s4 (p1 (p2 (s2 e)))))) (p1 (p2 (s4 (s4 (p1 (p2 (s2 e))))))) (p1 (s2 (s4 (s4 (p1 (p2 (s2 e))))))) (p1 (p2 (s2 (s4 (s4 (p1 (p2 (s2 e)))))))) (p1 (s4 (s4 (s4 (p1 (p2 (s2 e))))))) (p1 (p2 (s4 (s4 (s4 (p1 (p2 (s2 e)))))))) (p1 (s2 (s4 (s4 (s4 (p1 (p2 (s2 e)))))))) (p2 (s2 (s4 (s4 (s4 (p1 (p2 (s2 e)))))))) (p1 (p1 (s4 e))) (p1 (p2 (p1 (s4 e)))) (p1 (s2 (p1 (s4 e)))) (p1 (p2 (s2 (p1 (s4 e))))) (p1 (s4 (p1 (s4 e)))) (p1 (p2 (s4 (p1 (s4 e))))) (p1 (s2 (s4 (p1 (s4 e))))) (p1 (p2 (s2 (s4 (p1 (s4 e)))))) rfl rfl (p1 (s4 (s4 (p1 (s4 e))))) (p1 (p2 (s4 (s4 (p1 (s4 e)))))) (p1 (s2 (s4 (s4 (p1 (s4 e)))))) (p1 (p2 (s2 (s4 (s4 (p1 (s4 e))))))) (p1 (s4 (s4 (s4 (p1 (s4 e)))))) (p1 (p2 (s4 (s4 (s4 (p1 (s4 e))))))) (p1 (s2 (s4 (s4 (s4 (p1 (s4 e))))))) (p2 (s2 (s4 (s4 (s4 (p1 (s4 e))))))) (p1 (p1 (p2 (s4 e)))) (p1 (p2 (p1 (p2 (s4 e))))) (p1 (s2 (p1 (p2 (s4 e))))) (p1 (p2 (s2 (p1 (p2 (s4 e)))))) (p1 (s4 (p1 (p2 (s4 e))))) (p1 (p2 (s4 (p1 (p2 (s4 e)))))) (p1 (s2 (s4 (p1 (p2 (s4 e)))))) (p1 (p2 (s2 (s4 (p1 (p2 (s4 e))))))) (p1 (s4 (s4 (p1 (p2 (s4 e)))))) rfl rfl (p1 (p2 (s4 (s4 (p1 (p2 (s4 e))))))) (p1 (s2 (s4 (s4 (p1 (p2 (s4 e))))))) (p1 (p2 (s2 (s4 (s4 (p1 (p2 (s4 e)))))))) (p1 (s4 (s4 (s4 (p1 (p2 (s4 e))))))) (p1 (p2 (s4 (s4 (s4 (p1 (p2 (s4 e)))))))) (p1 (s2 (s4 (s4 (s4 (p1 (p2 (s4 e)))))))) (p2 (s2 (s4 (s4 (s4 (p1 (p2 (s4 e)))))))) (p1 (p1 (s2 (s4 e)))) (p1 (p2 (p1 (s2 (s4 e))))) (p1 (s2 (p1 (s2 (s4 e))))) (p1 (p2 (s2 (p1 (s2 (s4 e)))))) (p1 (s4 (p1 (s2 (s4 e))))) (p1 (p2 (s4 (p1 (s2 (s4 e)))))) (p1 (s2 (s4 (p1 (s2 (s4 e)))))) (p1 (p2 (s2 (s4 (p1 (s2 (s4 e))))))) (p1 (s4 (s4 (p1 (s2 (s4 e)))))) (p1 (p2 (s4 (s4 (p1 (s2 (s4 e))))))) (p1 (s2 (s4 (s4 (p1 (s2 (s4 e))))))) (p1 (p2 (s2 (s4 (s4 (p1 (s2 (s4 e)))))))) (p1 (s4 (s4 (s4 (p1 (s2 (s4 e))))))) (p1 (p2 (s4 (s4 (s4 (p1 (s2 (s4 e)))))))) (p1 (s2 (s4 (s4 (s4 (p1 (s2 (s4 e)))))))) (p2 (s2 (s4 (s4 (s4 (p1 (s2 (s4 e)))))))) (p1 (p2 (s2 (s4 e)))) (p1 (p2 (p2 (s2 (s4 e))))) (p1 (s2 (p2 (s2 (s4 e))))) (p1 (p2 (s2 (p2 (s2 (s4 e)))))) (p1 (s4 (p2 (s2 (s4 e))))) (p1 (p2 (s4 (p2 (s2 (s4 e)))))) (p1 (s2 (s4 (p2 (s2 (s4 e)))))) (p1 (p2 (s2 (s4 (p2 (s2 (s4 e))))))) (p1 (s4 (s4 (p2 (s2 (s4 e)))))) (p1 (p2 (s4 (s4 (p2 (s2 (s4 e))))))) (p1 (s2 (s4 (s4 (p2 (s2 (s4 e))))))) (p1 (p2 (s2 (s4 (s4 (p2 (s2 (s4 e)))))))) (p1 (s4 (s4 (s4 (p2 (s2 (s4 e))))))) (p1 (p2 (s4 (s4 (s4 (p2 (s2 (s4 e)))))))) (s2 (s4 (s4 (s4 (p2 (s2 (s4 e)))))))
end Ws
open PySem PySem.W PyProof.Rows
set_option Elab.async false
set_option maxRecDepth 100000 in
set_option maxHeartbeats 0 in
theorem PySem.Challenge.cw_wordswap_k74_texts_of_no_deeds_holds : PySem.Challenge.rw_wordswap_k74_texts_of_no_deeds.Holds := by
 w_on;o_law
 refine Ws.ar8 (l:=PySem.Challenge.rw_wordswap_k74_texts_of_no_deeds) (d:=⟨"law",L2.C5 (Ws.top 20),L2.C1 (Ws.top 20),L2.A6 (Ws.top 20),Ws.aP8 (Ws.top 20)⟩) Ws.hdl.1 (by kernel_rfl) (by kernel_rfl) (by kernel_rfl) (by first | rfl | kernel_rfl) (by assumption) (by decide +kernel) ⟨rfl,rfl,rfl,rfl,rfl,by decide +kernel⟩ ?hw ?hc
 case hw=>w_witness2
 case hc=>exact Ws.ak4 (l:=PySem.Challenge.rw_wordswap_k74_texts_of_no_deeds) (k:=6) (x:="_law_script") rfl (by kernel_rfl) ⟨rfl,by decide,by decide⟩ (λw h Y=>Y) λw mg fa h KX G hmg=>Ws.aU7 KX G hmg
