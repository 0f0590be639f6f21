import PyProof.Rows.All
import Wide.All
import OpenK.AllK
import Wide.FinOn
import Lean
import PyProof.EqAt
import PyProof.EqKinds
import PyProof.TupleCall
import PySem.Challenge.RW_wordswap_k25_boxes_opened
import PyProof.ExcBaseAll.ValueError
import PyProof.NsDelKeeps
import PyProof.ExcArgs
import KE.KIntText
import PyProof.StrLawsChain
import PyProof.StrWalks
import PyProof.Draws
import PyProof.EnumMake
import PyProof.Rows.CallKwBuiltin
import PyProof.AttrMissHeap
noncomputable section
set_option compiler.extract_closed false
set_option Elab.async false
set_option linter.all false
set_option maxRecDepth 100000
namespace L2
open PySem PySem.Spec PyProof.Rows
abbrev Key:=Sum Int Str
def ak7:Key->Value->Bool
 | .inl k,v=>Value.isInt k v
 | .inr x,v=>Value.isStrOf x v
def bg7 (w:World):Key->Int
 | .inl k=>hashInt k
 | .inr x=>hashStr w x
theorem keyIs_shape:∀{k:Key} {v:Value},ak7 k v=true->(∃i t,k=Sum.inl i/\v=Value.int i t)\/(∃x t,k=Sum.inr x/\v=Value.str x t)
 | .inl i,v,h=>by
   obtain⟨t,e⟩:=Value.isInt_shape (k:=i) (v:=v) h
   exact .inl ⟨i,t,rfl,e⟩
 | .inr x,v,h=>by
   obtain⟨t,e⟩:=Value.isStrOf_shape (x:=x) (v:=v) h
   exact .inr ⟨x,t,rfl,e⟩
theorem aJ1 (i:Int) (t:Tok):ak7 (.inl i) (.int i t)=true:=by simp [ak7,Value.isInt]
theorem aJ2 (x:Str) (t:Tok):ak7 (.inr x) (.str x t)=true:=by simp [ak7,Value.isStrOf]
theorem a95 (a b:Int):decide ((Sum.inl a:Key)=Sum.inl b)=(a == b):=by
 by_cases e:a=b
 ·subst e;simp
 ·have h:¬(Sum.inl a:Key)=Sum.inl b:=λq=>e (Sum.inl.inj q)
  rw [decide_eq_false h]
  exact (beq_eq_false_iff_ne.mpr e).symm
theorem a96 (a b:Str):decide ((Sum.inr a:Key)=Sum.inr b)=decide (a=b):=by
 by_cases e:a=b
 ·subst e;simp
 ·have h:¬(Sum.inr a:Key)=Sum.inr b:=λq=>e (Sum.inr.inj q)
  rw [decide_eq_false h,decide_eq_false e]
theorem a97 (a:Int) (b:Str):decide ((Sum.inl a:Key)=Sum.inr b)=false:=decide_eq_false (λq=>nomatch q)
theorem a98 (a:Str) (b:Int):decide ((Sum.inr a:Key)=Sum.inl b)=false:=decide_eq_false (λq=>nomatch q)
def K2 (prog:Program) (w:World):PySem.KeyKind prog w Key where
 is:=ak7
 hash:=bg7 w
 inj:=λv a b ha hb=>by
  rcases keyIs_shape ha with ⟨i,t,rfl,rfl⟩ | ⟨x,t,rfl,rfl⟩
  ·rcases keyIs_shape hb with ⟨j,u,rfl,e⟩ | ⟨y,u,rfl,e⟩
   ·injection e with e1 _;rw [e1]
   ·exact nomatch e
  ·rcases keyIs_shape hb with ⟨j,u,rfl,e⟩ | ⟨y,u,rfl,e⟩
   ·exact nomatch e
   ·injection e with e1 _;rw [e1]
 byValue:=λk v h=>by
  rcases keyIs_shape h with ⟨i,t,rfl,rfl⟩ | ⟨x,t,rfl,rfl⟩ <;> rfl
 pyHash:=λhv h=>by
  rcases keyIs_shape hv with ⟨i,t,rfl,rfl⟩ | ⟨x,t,rfl,rfl⟩
  ·exact wpAny_pyHash_int h
  ·exact wpAny_pyHash_str h
 eqBool:=λhu hv h=>by
  rcases keyIs_shape hu with ⟨i,t,rfl,rfl⟩ | ⟨x,t,rfl,rfl⟩
  ·rcases keyIs_shape hv with ⟨j,u,rfl,rfl⟩ | ⟨y,u,rfl,rfl⟩
   ·rw [a95] at h;exact wpAny_eqBool_int h
   ·rw [a97] at h;exact SeqAt.EqAt.int_str i t y u _ _ _ _ h
  ·rcases keyIs_shape hv with ⟨j,u,rfl,rfl⟩ | ⟨y,u,rfl,rfl⟩
   ·rw [a98] at h;exact SeqAt.EqAt.str_int x t j u _ _ _ _ h
   ·rw [a96] at h;exact wpAny_eqBool_str h
 «strs»:=λk x t v h=>by
  rcases keyIs_shape h with ⟨i,u,rfl,e⟩ | ⟨y,u,rfl,e⟩
  ·exact nomatch e
  ·injection e with e1 _
   subst e1
   cases v <;> rfl
theorem at8 (prog:Program) (w:World) (i:Int) (t:Tok):(K2 prog w).is (.inl i) (.int i t)=true:=aJ1 i t
theorem at9 (prog:Program) (w:World) (x:Str) (t:Tok):(K2 prog w).is (.inr x) (.str x t)=true:=aJ2 x t
inductive V where
 | non | bl (b:Bool) | int (i:Int) | str (x:Str) | byt (b:Array UInt8) | flt (b:UInt64) | ref (a:Addr) | ty (n:String)
 deriving DecidableEq
def RelV:V->Value->Prop
 | .non,u=>u=Value.none
 | .bl b,u=>u=Value.bool b
 | .int i,u=>∃t,u=Value.int i t
 | .str x,u=>∃t,u=Value.str x t
 | .byt b,u=>∃t,u=Value.bytes b t
 | .flt b,u=>∃t,u=Value.float b t
 | .ref a,u=>u=Value.ref a
 | .ty n,u=>u=Value.type n
abbrev Vals:List V->List Value->Prop:=Paired RelV
theorem Vals.length {xs:List V} {us:List Value} (r:Vals xs us):xs.length=us.length:=Paired.length r
theorem Vals.get:∀{xs:List V} {us:List Value} {i:Nat} {x:V},Vals xs us->xs[i]?=some x->∃u,us[i]?=some u/\RelV x u
 | _,_,_,_,.nil,e=>by simp at e
 | _,_,0,_,.cons r _,e=>by simp at e;subst e;exact⟨_,rfl,r⟩
 | _,_,i+1,x,.cons _ t,e=>by
   obtain⟨u,h1,h2⟩:=Vals.get (i:=i) (x:=x) t (by simpa using e)
   exact⟨u,by simpa using h1,h2⟩
theorem Vals.append:∀{xs ys:List V} {us ws:List Value},Vals xs us->Vals ys ws->Vals (xs++ys) (us++ws)
 | _,_,_,_,.nil,s=>s
 | _,_,_,_,.cons r t,s=>.cons r (Vals.append t s)
theorem Vals.take:∀{xs:List V} {us:List Value} (n:Nat),Vals xs us->Vals (xs.take n) (us.take n)
 | _,_,0,_=>.nil
 | _,_,_+1,.nil=>.nil
 | _,_,n+1,.cons r t=>.cons r (Vals.take n t)
theorem Vals.drop:∀{xs:List V} {us:List Value} (n:Nat),Vals xs us->Vals (xs.drop n) (us.drop n)
 | _,_,0,r=>r
 | _,_,_+1,.nil=>.nil
 | _,_,n+1,.cons _ t=>Vals.drop n t
def RelO:Option V->Option Value->Prop
 | some v,some u=>RelV v u
 | none,none=>True
 | _,_=>False
def KV {κ:Type}:List (κ×V)->List (κ×Value)->Prop:=Paired λ(p:κ×V) (q:κ×Value)=>p.1=q.1/\RelV p.2 q.2
def kV:Key->V
 | .inl i=>.int i
 | .inr x=>.str x
inductive HO where
 | lst (xs:List V)
 | tup (xs:List V)
 | dK (kvs:List (Key×V)) | dT (kvs:List (List Key×V))
 | set (S:Int->Bool) (n:Nat)
 | ins (C dx:Addr) (fs:List (Str×V))
 | own (x:Addr)
 | xd (fs:List (Str×V))
 | met (f x:Addr)
 | rng (lo hi:Int)
 | frz (o:Obj) (u:HO)
 | tbl (ps:Array Value)
 | ext (φ:Heap->Prop)
abbrev Hp:=Addr->Option HO
def upd (H:Hp) (a:Addr) (o:HO):Hp:=λb=>if b=a then some o else H b
theorem D2 {H:Hp} {a:Addr} {o:HO}:upd H a o a=some o:=by unfold upd;rw [if_pos rfl]
theorem D4 {H:Hp} {a b:Addr} {o:HO} (h:b≠a):upd H a o b=H b:=by unfold upd;rw [if_neg h]
theorem a74 {H:Hp} {a b:Addr} {o u:HO} (h:H a=some o) (h':H b=some u) (d:o≠u):a≠b:=by
 intro e;subst e;rw [h] at h';exact d (Option.some.inj h')
theorem J9 {H:Hp} {a b:Addr} {o:HO} (h:H a=some o) (h':H b=none):a≠b:=by
 intro e;subst e;rw [h] at h';cases h'
section
variable (P:Program) (w:World)
def ObjOk (H:Hp) (h:Heap) (a:Addr):HO->Prop
 | .lst xs=>xs.length<=sizeLine/\∃(its:List Value) (n:Nat),Vals xs its/\h.get? a=some { cls:=.type "list",data:=.seq its.toArray n }
 | .tup xs=>xs.length<=sizeLine/\∃its:List Value,Vals xs its/\IsTup h a its.toArray
 | .dK kvs=>kvs.length<=sizeLine/\(a == sysModules)=false/\∃vs,KV kvs vs/\h.DictOf (K2 P w) a vs
 | .dT kvs=>kvs.length<=sizeLine/\(a == sysModules)=false/\∃xs:List (List Key×Addr×Value),
  Paired (λ(p:List Key×V) (q:List Key×Addr×Value)=>p.1=q.1/\H q.2.1=some (.tup (p.1.map kV))/\RelV p.2 q.2.2) kvs xs/\
  ∃o es ep,h.get? a=some o/\o.ExactDict/\o.data=.dict es ep/\es.toList=xs.map (entryOfKey (tupleKind (K2 P w)))/\(xs.map (·.1)).Nodup
 | .set S n=>h.SetOf (intKind P w) a S n
 | .ins C dx fs=>H dx=some (.own a)/\fs.length<=1000/\dx≠a/\h.get? a=some (PySem.W.instObj C dx)/\
  ∃mA,h.Ns1 dx mA/\(∀f,RelO (fs.lookup f) (mA f))/\PySem.Within mA (fs.map (·.1))
 | .own _=>∃o,h.get? a=some o
 | .xd fs=>∃mA,h.Ns1 a mA/\∀f,RelO (fs.lookup f) (mA f)
 | .rng lo hi=>∃t u v,h.get? a=some { cls:=.type "range",data:=.fields #[.int lo t,.int hi u,.int 1 v] }
 | .frz o u=>h.get? a=some o/\ObjOk H h a u
 | .tbl ps=>h.get? a=some { cls:=.none,data:=.fields ps }
 | .met f x=>h.get? a=some (PySem.W.methodObj (.ref f) (.ref x))
 | .ext φ=>φ h/\(∃o,h.get? a=some o)/\∀h1 h2:Heap,φ h1->(∀o,h1.get? a=some o->h2.get? a=some o)->φ h2
def HOk (H:Hp) (h:Heap):Prop:=∀a o,H a=some o->ObjOk P w H h a o
end
section
variable {P:Program} {w:World} {H H':Hp} {h h':Heap} {a:Addr} {o:HO}
theorem ObjOk.lt (x:ObjOk P w H h a o):a<h.objs.size:=by
 cases o with
 | lst xs=>obtain⟨_,_,_,_,e⟩:=x;exact Heap.lt_size e
 | tup xs=>obtain⟨_,_,_,p⟩:=x;exact p.lt
 | dK kvs=>obtain⟨_,_,_,_,o,_,_,e,_⟩:=x;exact Heap.lt_size e
 | dT kvs=>obtain⟨_,_,_,_,o,_,_,e,_⟩:=x;exact Heap.lt_size e
 | set S n=>obtain⟨o,_,_,_,e,_⟩:=x;exact Heap.lt_size e
 | ins C dx fs=>obtain⟨_,_,_,e,_⟩:=x;exact Heap.lt_size e
 | own y=>obtain⟨_,e⟩:=x;exact Heap.lt_size e
 | xd fs=>obtain⟨_,⟨_,_,_,e,_⟩,_⟩:=x;exact Heap.lt_size e
 | rng lo hi=>obtain⟨_,_,_,e⟩:=x;exact Heap.lt_size e
 | frz ob u=>obtain⟨e,_⟩:=x;exact Heap.lt_size e
 | tbl ps=>exact Heap.lt_size (show h.get? a=some _ from x)
 | met f y=>exact Heap.lt_size (show h.get? a=some _ from x)
 | ext φ=>obtain⟨_,⟨_,e⟩,_⟩:=x;exact Heap.lt_size e
theorem Paired.mapP {α β:Type} {F G:α->β->Prop}:∀{l₁:List α} {l₂:List β},Paired F l₁ l₂->(∀a b,F a b->G a b)->Paired G l₁ l₂
 | _,_,.nil,_=>.nil
 | _,_,.cons r t,f=>.cons (f _ _ r) (Paired.mapP t f)
theorem ObjOk.stay (x:ObjOk P w H h a o) (k:∀b u,(b=a\/H b=some (.own a))->h.get? b=some u->h'.get? b=some u)
 (ho:∀b,H b=some (.own a)->H' b=some (.own a)) (ht:∀b xs,H b=some (.tup xs)->H' b=some (.tup xs)):ObjOk P w H' h' a o:=by
 induction o with
 | lst xs=>obtain⟨z,its,n,r,e⟩:=x;exact⟨z,its,n,r,k _ _ (.inl rfl) e⟩
 | tup xs=>obtain⟨z,its,r,ob,e,c⟩:=x;exact⟨z,its,r,ob,k _ _ (.inl rfl) e,c⟩
 | dK kvs=>obtain⟨z,y,vs,r,ob,es,ep,e,c⟩:=x;exact⟨z,y,vs,r,ob,es,ep,k _ _ (.inl rfl) e,c⟩
 | dT kvs=>
   obtain⟨z,y,xs,r,ob,es,ep,e,c⟩:=x
   exact⟨z,y,xs,Paired.mapP r λp q z=>⟨z.1,ht _ _ z.2.1,z.2.2⟩,ob,es,ep,k _ _ (.inl rfl) e,c⟩
 | set S n=>obtain⟨ob,es,ep,t,e,c⟩:=x;exact⟨ob,es,ep,t,k _ _ (.inl rfl) e,c⟩
 | ins C dx fs=>
   obtain⟨d,z,ne,e,mA,⟨od,es,ep,e2,c⟩,r⟩:=x
   exact⟨ho _ d,z,ne,k _ _ (.inl rfl) e,mA,⟨od,es,ep,k _ _ (.inr d) e2,c⟩,r⟩
 | own y=>obtain⟨ob,e⟩:=x;exact⟨ob,k _ _ (.inl rfl) e⟩
 | xd fs=>obtain⟨mA,⟨od,es,ep,e,c⟩,r⟩:=x;exact⟨mA,⟨od,es,ep,k _ _ (.inl rfl) e,c⟩,r⟩
 | rng lo hi=>obtain⟨t,u,v,e⟩:=x;exact⟨t,u,v,k _ _ (.inl rfl) e⟩
 | frz ob u ih=>obtain⟨e,q⟩:=x;exact⟨k _ _ (.inl rfl) e,ih q⟩
 | tbl ps=>
   have e:h.get? a=some { cls:=.none,data:=.fields ps }:=x
   show h'.get? a=some { cls:=.none,data:=.fields ps }
   exact k a _ (.inl rfl) e
 | met f y=>
   have e:h.get? a=some (PySem.W.methodObj (.ref f) (.ref y)):=x
   show h'.get? a=some (PySem.W.methodObj (.ref f) (.ref y))
   exact k a _ (.inl rfl) e
 | ext φ=>obtain⟨p,⟨o,e⟩,st⟩:=x;exact⟨st _ _ p λo q=>k _ _ (.inl rfl) q,⟨o,k _ _ (.inl rfl) e⟩,st⟩
theorem HOk.lt (x:HOk P w H h) (e:H a=some o):a<h.objs.size:=(x a o e).lt
theorem HOk.fresh (x:HOk P w H h) (e:h.objs.size<=a):H a=none:=by
 cases q:H a with
 | none=>rfl
 | some u=>exact absurd (Nat.lt_of_lt_of_le (x.lt q) e) (Nat.lt_irrefl _)
theorem HOk.kept (x:HOk P w H h) (k:∀b u,h.get? b=some u->h'.get? b=some u):HOk P w H h':=λa o e=>
 (x a o e).stay (λb u _ q=>k b u q) (λ_ q=>q) λ_ _ q=>q
theorem HOk.laid (x:HOk P w H h) (k:∀b u,h.get? b=some u->h'.get? b=some u) (hp:h.objs.size<=a) (new:ObjOk P w (upd H a o) h' a o):HOk P w (upd H a o) h':=λb u e=>by
 have hn:=x.fresh hp
 by_cases hb:b=a
 ·subst hb;rw [D2] at e;cases e;exact new
 ·rw [D4 hb] at e
  exact (x b u e).stay (λc v _ q=>k c v q) (λc q=>by rw [D4 (J9 q hn)];exact q) λc xs q=>by rw [D4 (J9 q hn)];exact q
end
def Rd (H:Hp) (a:Addr) (u:HO):Prop:=H a=some u\/∃o,H a=some (.frz o u)
theorem Rd.ok {P:Program} {w:World} {H:Hp} {h:Heap} {a:Addr} {u:HO} (r:Rd H a u) (x:HOk P w H h):ObjOk P w H h a u:=by
 rcases r with r | ⟨o,r⟩
 ·exact x a u r
 ·obtain⟨_,q⟩:=x a _ r
  exact q
def Mut:Option HO->Prop
 | some (.lst _)=>True
 | some (.dK _)=>True
 | some (.dT _)=>True
 | some (.set _ _)=>True
 | some (.ins _ _ _)=>True
 | some (.ext _)=>True
 | _=>False
section
variable {P:Program} {w:World} {H:Hp} {h h':Heap} {x e:Addr} {o':HO}
theorem HOk.write (ok:HOk P w H h) (mu:Mut (H x)) (he:e=x\/H e=some (.own x)) (k:∀b u,b≠e->h.get? b=some u->h'.get? b=some u) (heo:∃u,h'.get? e=some u)
 (new:ObjOk P w (upd H x o') h' x o'):HOk P w (upd H x o') h':=λb u q=>by
 have nown:∀c y,H c=some (.own y)->c≠x:=λc y r z=>by subst z;rw [r] at mu;exact mu
 have ntup:∀c xs,H c=some (.tup xs)->c≠x:=λc xs r z=>by subst z;rw [r] at mu;exact mu
 by_cases hb:b=x
 ·subst hb;rw [D2] at q;cases q;exact new
 ·rw [D4 hb] at q
  by_cases hbe:b=e
  ·have q':H b=some (.own x):=by
    rcases he with z | z
    ·exact absurd (hbe.trans z) hb
    ·rw [hbe];exact z
   rw [q] at q';cases q'
   obtain⟨v,hv⟩:=heo
   exact⟨v,by rw [hbe];exact hv⟩
  ·refine (ok b u q).stay (λc v hc r=>k c v ?_ r) (λc r=>by rw [D4 (nown c b r)];exact r) λc xs r=>by rw [D4 (ntup c xs r)];exact r
   rcases hc with rfl | hc
   ·exact hbe
   ·rintro rfl
    rcases he with z | z
    ·exact nown c b hc z
    ·rw [hc] at z;cases z;exact hb rfl
end
structure Un (fs ex:List Addr) (H H':Hp) (h h':Heap):Prop where
 keep:∀b o,h.get? b=some o->H b=none->b∉fs->b∉ex->h'.get? b=some o
 slot:∀b o,h.get? b=some o->H b=none->b∈fs->b∉ex->∃sl,h'.get? b=some { o with slots:=sl }
 free:∀b o,h.get? b=some o->H b=none->b∉ex->H' b=none
 there:∀b o,h.get? b=some o->b∉ex->∃o',h'.get? b=some o'
 tups:∀b xs,H b=some (.tup xs)->H' b=some (.tup xs)
 frzs:∀b o u,H b=some (.frz o u)->H' b=some (.frz o u)
 tbls:∀b ps,H b=some (.tbl ps)->∃more,H' b=some (.tbl (ps++more))
section
variable {fs fs' ex ex':List Addr} {H H1 H2:Hp} {h h1 h2 h':Heap} {a x e:Addr} {o:HO}
theorem Un.any (u:Un fs ex H H1 h h1) {b:Addr} {ob:Obj} (q:h.get? b=some ob) (n:H b=none) (hx:b∉ex):∃sl,h1.get? b=some { ob with slots:=sl }:=by
 by_cases hb:b∈fs
 ·exact u.slot b ob q n hb hx
 ·exact⟨ob.slots,u.keep b ob q n hb hx⟩
theorem Un.kept (k:∀b u,h.get? b=some u->h'.get? b=some u):Un fs ex H H h h':=
 ⟨λb ob q _ _ _=>k b ob q,λb ob q _ _ _=>⟨ob.slots,k b ob q⟩,λ_ _ _ n _=>n,λb ob q _=>⟨ob,k b ob q⟩,λ_ _ q=>q,λ_ _ _ q=>q,λ_ ps q=>⟨#[],by rw [q];simp⟩⟩
theorem Un.refl:Un fs ex H H h h:=Un.kept λ_ _ q=>q
theorem Un.laid (k:∀b u,h.get? b=some u->h'.get? b=some u) (hp:h.objs.size<=a) (hn:H a=none):Un fs ex H (upd H a o) h h' where
 keep:=λb u q _ _ _=>k b u q
 slot:=λb u q _ _ _=>⟨u.slots,k b u q⟩
 free:=λb u q n _=>by rw [D4 (Nat.ne_of_lt (Nat.lt_of_lt_of_le (Heap.lt_size q) hp))];exact n
 there:=λb u q _=>⟨u,k b u q⟩
 tups:=λb xs q=>by rw [D4 (J9 q hn)];exact q
 frzs:=λb u xs q=>by rw [D4 (J9 q hn)];exact q
 tbls:=λb ps q=>⟨#[],by rw [D4 (J9 q hn),q];simp⟩
theorem Un.write (mu:Mut (H x)) (he:e=x\/H e=some (.own x)) (k:∀b u,b≠e->h.get? b=some u->h'.get? b=some u) (heo:∃u,h'.get? e=some u):Un fs ex H (upd H x o) h h':=by
 have hx:∀b,H b=none->b≠x:=λb n z=>by subst z;rw [n] at mu;exact mu
 have hb:∀b,H b=none->b≠e:=λb n z=>by
  subst z
  rcases he with r | r
  ·exact hx b n r
  ·rw [n] at r;cases r
 have hm:∀b u,H b=some u->¬Mut (some u)->b≠x:=λb u q nm z=>by subst z;rw [q] at mu;exact nm mu
 refine⟨λb u q n _ _=>k b u (hb b n) q,λb u q n _ _=>⟨u.slots,k b u (hb b n) q⟩,λb u q n _=>by rw [D4 (hx b n)];exact n,λb u q _=>?_,
  λb xs q=>by rw [D4 (hm b _ q λz=>z)];exact q,λb u xs q=>by rw [D4 (hm b _ q λz=>z)];exact q,λb ps q=>⟨#[],by rw [D4 (hm b _ q λz=>z),q];simp⟩⟩
 by_cases hbe:b=e
 ·subst hbe;exact heo
 ·exact⟨u,k b u hbe q⟩
end
def trk (h:Heap) (H:Hp):List Addr:=(List.range h.objs.size).filter λa=>(H a).isSome
def ao7 (h:Heap) (H:Hp):Heap:=PySem.W.hideAll h (trk h H)
theorem aJ3 (h:Heap) (H:Hp):(ao7 h H).objs.size=h.objs.size:=PySem.W.hideAll_size _ _
theorem aO7 {h:Heap} {H:Hp} {b:Addr} {o:Obj} (e:h.get? b=some o) (n:H b=none):(ao7 h H).get? b=some o:=
 PySem.W.hideAll_get _ e λhm=>by
  have q:(H b).isSome=true:=(List.mem_filter.mp hm).2
  rw [n] at q;simp at q
theorem aZ3 {h:Heap} {H:Hp} {b:Addr} {o:Obj} (e:(ao7 h H).get? b=some o):h.get? b=some o/\H b=none:=by
 have e':h.get? b=some o:=PySem.W.of_hideAll (trk h H) e
 refine⟨e',?_⟩
 cases q:H b with
 | none=>rfl
 | some x=>
   have hm:b∈trk h H:=List.mem_filter.mpr ⟨List.mem_range.mpr (Heap.lt_size e'),by simp [q]⟩
   have z:(ao7 h H).get? b=none:=PySem.W.hideAll_none (trk h H) hm
   rw [z] at e;cases e
structure Mod (K:PySem.W.Frag) (mg:Str->Option Value) (base:Heap):Prop where
 kin:K.In base
 glob:base.Ns mainGlobals mg
 blt:∃mb,base.Ns builtinsNs mb/\∀x:Str,x≠"__name__"->mb x=bootBuiltins x
 nolimit:base.NoLimit
structure Cx where
 prog:Program
 w:World
 K:PySem.W.Frag
 mg:Str->Option Value
 base:Heap
 A:Around
 N:List Str
 s₀:Shared
 H₀:Hp
 env:Env
 outer:List Env
 stack:List Env
 ex:List Addr
 fn:Str->Bool
 calm:Bool
 pn:List (Addr×Obj)
 xe:Value->Shared->Prop
def frs (l:List Env):List Addr:=l.filterMap (·.frame)
abbrev Cx.fs (X:Cx):List Addr:=frs X.outer
def Vis (sc:Scope) (x:Str):Prop:=sc.names.lookup x=some .local\/sc.names.lookup x=some .cell\/sc.names.lookup x=some .free
def Loc (sc:Scope) (x:Str):Prop:=sc.names.lookup x=some .local\/sc.names.lookup x=some .cell
def bm7 (env:Env) (h:Heap) (m:Str->Option Value) (x:Str) (u:Value):Prop:=
 (env.kindOf x=some .local/\m x=some u)\/((env.kindOf x=some .cell\/env.kindOf x=some .free)/\∃c,env.cells.lookup x=some c/\h.IsCell c (some u))
structure Cx.Ok (X:Cx):Prop where
 mod:Mod X.K X.mg X.base
 kind:X.env.scope.kind=.function
 glob:X.env.globals=mainGlobals
 blt:X.env.builtins=builtinsNs
 above:X.s₀.heap.objs.size<=X.env.locals
 inj:∀x y c,X.env.cells.lookup x=some c->X.env.cells.lookup y=some c->x=y
 has:∀x,(X.env.kindOf x=some .cell\/X.env.kindOf x=some .free)->∃c,X.env.cells.lookup x=some c
 cab:∀x c,X.fn x=true->X.env.cells.lookup x=some c->X.s₀.heap.objs.size<=c
 hd:X.calm=true->X.A.handled=none
 frames:X.A.frames=some X.stack
 stk:X.stack=X.outer\/(X.stack=X.env::X.outer/\X.env.frame=some X.env.locals)
 exf:∀b∈X.ex,b≠X.env.locals/\∀x c,X.env.cells.lookup x=some c->c≠b
 bs:∀b o,X.base.get? b=some o->X.s₀.heap.get? b=some o/\X.H₀ b=none
 bsz:X.base.objs.size<=X.s₀.heap.objs.size
 noex:∀b o,X.base.get? b=some o->b∉X.ex
 exfs:∀b∈X.ex,b∉X.fs
 funs:X.s₀.heap.FunFrames X.base X.outer
 frf:∀b∈X.fs,X.H₀ b=none
structure Inv (X:Cx) (pins:List (Addr×Obj)) (σ:List (Option V)) (H:Hp) (s:Shared):Prop where
 ok:X.Ok
 os:s.os=X.s₀.os
 bare:AllBare s.gens
 base:Un X.fs X.ex X.H₀ H X.s₀.heap s.heap
 loc:∃m,s.heap.Ns X.env.locals m/\∀(i:Nat) (x:Str) (v:V),X.N[i]?=some x->σ[i]?=some (some v)->Vis X.env.scope x->∃u,RelV v u/\bm7 X.env s.heap m x u
 cell:∀x c,X.env.cells.lookup x=some c->∃v,s.heap.IsCell c v
 free:H X.env.locals=none
 freeC:∀x c,X.env.cells.lookup x=some c->H c=none
 pin:∀p∈X.pn++pins,s.heap.get? p.1=some p.2/\H p.1=none/\p.1≠X.env.locals/\p.1∉X.fs/\∀v,p.2.data≠.cell v
 hok:HOk X.prog X.w H s.heap
 len:σ.length=X.N.length
section
variable {X:Cx} {pins:List (Addr×Obj)} {σ:List (Option V)} {H H':Hp} {s:Shared} {h':Heap}
theorem Cx.Ok.nofr (ok:X.Ok) {b:Addr} {o:Obj} (e:X.base.get? b=some o):b∉X.fs:=λhb=>by
 have:=(ok.funs.mem hb).1
 rw [e] at this;cases this
theorem Inv.bs (I:Inv X pins σ H s):∀b o,X.base.get? b=some o->s.heap.get? b=some o/\H b=none:=λb o e=>
 ⟨I.base.keep b o (I.ok.bs b o e).1 (I.ok.bs b o e).2 (I.ok.nofr e) (I.ok.noex b o e),I.base.free b o (I.ok.bs b o e).1 (I.ok.bs b o e).2 (I.ok.noex b o e)⟩
theorem Inv.bk (I:Inv X pins σ H s):∀b o,X.base.get? b=some o->s.heap.get? b=some o:=λb o e=>(I.bs b o e).1
theorem Inv.mod (I:Inv X pins σ H s):Mod X.K X.mg X.base:=I.ok.mod
theorem Inv.kIn (I:Inv X pins σ H s):X.K.In s.heap:=I.ok.mod.kin.keeps I.bk
theorem Inv.lt (I:Inv X pins σ H s):X.env.locals<s.heap.objs.size:=let ⟨_,hn,_⟩:=I.loc;hn.lt
theorem Inv.sz (I:Inv X pins σ H s):X.s₀.heap.objs.size<=s.heap.objs.size:=Nat.le_trans I.ok.above (Nat.le_of_lt I.lt)
theorem Inv.nofs (I:Inv X pins σ H s) {a:Addr} (h:s.heap.objs.size<=a):a∉X.fs:=λhb=>by
 obtain⟨_,o,ho,_⟩:=I.ok.funs.mem hb
 exact absurd (Nat.lt_of_lt_of_le (Heap.lt_size ho) (Nat.le_trans I.sz h)) (Nat.lt_irrefl _)
theorem Inv.cne (I:Inv X pins σ H s):∀x c,X.env.cells.lookup x=some c->c≠X.env.locals:=λx c e z=>by
 obtain⟨v,o,ho,hd⟩:=I.cell x c e
 obtain⟨m,⟨o',es,ep,ho',hd',_⟩,_⟩:=I.loc
 rw [z,ho'] at ho;cases ho;rw [hd'] at hd;cases hd
theorem Inv.funs (I:Inv X pins σ H s):s.heap.FunFrames X.base X.outer:=by
 have all:∀(l:List Env),(∀b∈frs l,b∈X.fs)->X.s₀.heap.FunFrames X.base l->s.heap.FunFrames X.base l:=by
  intro l
  induction l with
  | nil=>intro _ _;trivial
  | cons env r ih=>
    intro hs hl
    obtain⟨hk,⟨L,o,hf,hn,ho,hd⟩,hr⟩:=hl
    have hL:L∈X.fs:=hs L (by unfold frs;rw [List.filterMap_cons,hf];exact List.mem_cons_self)
    obtain⟨sl,e⟩:=I.base.slot L o ho (I.ok.frf L hL) hL λz=>I.ok.exfs L z hL
    exact⟨hk,⟨L,_,hf,hn,e,hd⟩,ih (λb hb=>hs b (by unfold frs;rw [List.filterMap_cons,hf];exact List.mem_cons_of_mem _ hb)) hr⟩
 exact all X.outer (λ_ hb=>hb) I.ok.funs
theorem Inv.stack (I:Inv X pins σ H s):s.heap.FunFrames X.base X.stack:=by
 rcases I.ok.stk with e | ⟨e,hf⟩
 ·rw [e];exact I.funs
 ·rw [e]
  obtain⟨m,hn,_⟩:=I.loc
  refine .cons (by rw [I.ok.kind];decide) hf hn ?_ I.funs
  exact Heap.get?_none_of_le (Nat.le_trans I.ok.bsz I.ok.above)
theorem Inv.stkSub (I:Inv X pins σ H s):∀b∈frs X.stack,b∈X.env.locals::X.fs:=λb hb=>by
 rcases I.ok.stk with e | ⟨e,hf⟩
 ·rw [e] at hb;exact List.mem_cons_of_mem _ hb
 ·rw [e] at hb
  unfold frs at hb
  rw [List.filterMap_cons,hf] at hb
  exact hb
theorem Inv.stkFree (I:Inv X pins σ H s):∀b∈frs X.stack,H b=none:=λb hb=>by
 rcases List.mem_cons.mp (I.stkSub b hb) with e | hb
 ·rw [e];exact I.free
 ·obtain⟨_,o,ho,_⟩:=I.ok.funs.mem hb
  exact I.base.free b o ho (I.ok.frf b hb) λz=>I.ok.exfs b z hb
theorem Inv.step {g':Array GenState} {t':Nat} {d':Drawn} {ch:List Addr} (I:Inv X pins σ H s)
 (hch:∀b∈ch,(b∈X.ex\/X.s₀.heap.objs.size<=b)/\b≠X.env.locals/\(∀x c,X.env.cells.lookup x=some c->c≠b)/\∀p∈X.pn++pins,p.1≠b)
 (keep:∀b o,b≠X.env.locals->b∉X.fs->b∉ch->s.heap.get? b=some o->H b=none->h'.get? b=some o)
 (slot:∀b o,b≠X.env.locals->b∈X.fs->b∉ch->s.heap.get? b=some o->H b=none->∃sl,h'.get? b=some { o with slots:=sl }) (free:∀b o,b∉ch->s.heap.get? b=some o->H b=none->H' b=none)
 (there:∀b o,b∉ch->s.heap.get? b=some o->∃o',h'.get? b=some o')
 (tups:∀b xs,H b=some (.tup xs)->H' b=some (.tup xs)) (frzs:∀b o u,H b=some (.frz o u)->H' b=some (.frz o u)) (tbls:∀b ps,H b=some (.tbl ps)->∃more,H' b=some (.tbl (ps++more)))
 (ns:∀m,s.heap.Ns X.env.locals m->h'.Ns X.env.locals m) (hok:HOk X.prog X.w H' h') (hg:AllBare g') :
 Inv X pins σ H' { s with heap:=h',gens:=g',drawn:=d',toks:=t' }:=by
 have neL:∀b o,X.s₀.heap.get? b=some o->b≠X.env.locals:=λb o e=>Nat.ne_of_lt (Nat.lt_of_lt_of_le (Heap.lt_size e) I.ok.above)
 have neC:∀b o,X.s₀.heap.get? b=some o->b∉X.ex->b∉ch:=λb o e hx hb=>by
  rcases (hch b hb).1 with z | z
  ·exact hx z
  ·exact absurd (Nat.lt_of_lt_of_le (Heap.lt_size e) z) (Nat.lt_irrefl _)
 have cellK:∀x c,X.env.cells.lookup x=some c->∀v,s.heap.IsCell c v->h'.IsCell c v:=λx c e v ⟨o,ho,hd⟩=>by
  have nch:c∉ch:=λz=>(hch c z).2.2.1 x c e rfl
  by_cases hc:c∈X.fs
  ·obtain⟨sl,q⟩:=slot c o (I.cne x c e) hc nch ho (I.freeC x c e)
   exact⟨_,q,hd⟩
  ·exact⟨o,keep c o (I.cne x c e) hc nch ho (I.freeC x c e),hd⟩
 refine⟨I.ok,I.os,hg,⟨λb o e n hb hx=>?_,λb o e n hb hx=>?_,λb o e n hx=>?_,λb o e hx=>?_,λb xs e=>tups b xs (I.base.tups b xs e),λb o xs e=>frzs b o xs (I.base.frzs b o xs e),λb ps e=>?_⟩,?_,λx c e=>?_,?_,λx c e=>?_,λp hp=>?_,hok,I.len⟩
 ·exact keep b o (neL b o e) hb (neC b o e hx) (I.base.keep b o e n hb hx) (I.base.free b o e n hx)
 ·obtain⟨sl,e1⟩:=I.base.slot b o e n hb hx
  obtain⟨sl',e2⟩:=slot b _ (neL b o e) hb (neC b o e hx) e1 (I.base.free b o e n hx)
  exact⟨sl',e2⟩
 ·obtain⟨o',e1⟩:=I.base.there b o e hx
  exact free b o' (neC b o e hx) e1 (I.base.free b o e n hx)
 ·obtain⟨o',e1⟩:=I.base.there b o e hx
  exact there b o' (neC b o e hx) e1
 ·obtain⟨m1,e1⟩:=I.base.tbls b ps e
  obtain⟨m2,e2⟩:=tbls b _ e1
  exact⟨m1++m2,by rw [e2,Array.append_assoc]⟩
 ·obtain⟨m,hn,hl⟩:=I.loc
  refine⟨m,ns m hn,λi x v e1 e2 e3=>?_⟩
  obtain⟨u,r,l⟩:=hl i x v e1 e2 e3
  refine⟨u,r,?_⟩
  rcases l with l | ⟨k,c,e,z⟩
  ·exact .inl l
  ·exact .inr ⟨k,c,e,cellK x c e _ z⟩
 ·obtain⟨v,z⟩:=I.cell x c e
  exact⟨v,cellK x c e v z⟩
 ·obtain⟨m,⟨o,_,_,ho,_⟩,_⟩:=I.loc
  exact free _ o (λz=>(hch _ z).2.1 rfl) ho I.free
 ·obtain⟨v,o,ho,hd⟩:=I.cell x c e
  exact free c o (λz=>(hch c z).2.2.1 x c e rfl) ho (I.freeC x c e)
 ·obtain⟨e,n,ne,nf,d⟩:=I.pin p hp
  have nch:p.1∉ch:=λz=>(hch p.1 z).2.2.2 p hp rfl
  exact⟨keep p.1 p.2 ne nf nch e n,free p.1 p.2 nch e n,ne,nf,d⟩
theorem Inv.un {t':Nat} (I:Inv X pins σ H s) (u:Un X.fs [] H H' s.heap h') (hok:HOk X.prog X.w H' h'):Inv X pins σ H' { s with heap:=h',toks:=t' }:=by
 obtain⟨m,⟨o,es,ep,ho,r⟩,_⟩:=id I.loc
 obtain⟨sl,hL⟩:=u.any ho I.free (by simp)
 exact I.step (g':=s.gens) (d':=s.drawn) (ch:=[]) (λ_ z=>nomatch z) (λb o _ hb _ e n=>u.keep b o e n hb (by simp)) (λb o _ hb _ e n=>u.slot b o e n hb (by simp)) (λb o _ e n=>u.free b o e n (by simp)) (λb o _ e=>u.there b o e (by simp)) u.tups u.frzs u.tbls (λm' hm=>by
  obtain⟨o',es',ep',ho',r'⟩:=hm
  rw [ho] at ho';cases ho'
  exact⟨_,es',ep',hL,r'⟩) hok I.bare
theorem Inv.call {g':Array GenState} {t':Nat} {d':Drawn} {ch:List Addr} (I:Inv X pins σ H s) (u:Un (frs X.stack) ch H H' s.heap h') (hok:HOk X.prog X.w H' h') (hg:AllBare g')
 (hch:∀b∈ch,(b∈X.ex\/X.s₀.heap.objs.size<=b)/\b≠X.env.locals/\(∀x c,X.env.cells.lookup x=some c->c≠b)/\∀p∈X.pn++pins,p.1≠b) :
 Inv X pins σ H' { s with heap:=h',gens:=g',drawn:=d',toks:=t' }:=by
 obtain⟨m,⟨o,es,ep,ho,r⟩,_⟩:=id I.loc
 obtain⟨sl,hL⟩:=u.any ho I.free λz=>(hch _ z).2.1 rfl
 exact I.step (ch:=ch) hch (λb o hL hb hc e n=>u.keep b o e n (λz=>(List.mem_cons.mp (I.stkSub b z)).elim hL hb) hc) (λb o _ _ hc e n=>u.any e n hc) (λb o hc e n=>u.free b o e n hc) (λb o hc e=>u.there b o e hc) u.tups u.frzs u.tbls (λm' hm=>by
  obtain⟨o',es',ep',ho',r'⟩:=hm
  rw [ho] at ho';cases ho'
  exact⟨_,es',ep',hL,r'⟩) hok hg
theorem Inv.turned {t':Nat} {it:Addr} (I:Inv X pins σ H s) (k:∀b o,b≠it->s.heap.get? b=some o->h'.get? b=some o) (hn:H it=none) (hL:it≠X.env.locals)
 (h1:it∈X.ex\/X.s₀.heap.objs.size<=it) (h2:∀x c,X.env.cells.lookup x=some c->c≠it) (h3:∀p∈X.pn++pins,p.1≠it):Inv X pins σ H { s with heap:=h',toks:=t' }:=by
 have nit:∀b u,H b=some u->b≠it:=λb u e z=>by rw [z,hn] at e;cases e
 refine I.step (g':=s.gens) (d':=s.drawn) (ch:=[it]) (λb hb=>?_) (λb o _ _ hc e _=>k b o (λz=>hc (by simp [z])) e) (λb o _ _ hc e _=>⟨o.slots,k b o (λz=>hc (by simp [z])) e⟩) (λ_ _ _ _ n=>n)
  (λb o hc e=>⟨o,k b o (λz=>hc (by simp [z])) e⟩) (λ_ _ e=>e) (λ_ _ _ e=>e) (λb ps e=>⟨#[],by rw [e];simp⟩) (λm hm=>?_) (λb u e=>?_) I.bare
 ·have e:b=it:=by simpa using hb
  subst e
  exact⟨h1,hL,h2,h3⟩
 ·obtain⟨o,es,ep,ho,r⟩:=hm
  exact⟨o,es,ep,k _ o (Ne.symm hL) ho,r⟩
 ·refine (I.hok b u e).stay (λc v hc q=>k c v ?_ q) (λ_ q=>q) λ_ _ q=>q
  rcases hc with z | z
  ·rw [z];exact nit b u e
  ·exact nit c _ z
theorem Inv.tok (I:Inv X pins σ H s) (t:Nat):Inv X pins σ H { s with toks:=t }:=I.un (h':=s.heap) (t':=t) Un.refl I.hok
theorem Inv.kept {t':Nat} (I:Inv X pins σ H s) (k:∀b u,s.heap.get? b=some u->h'.get? b=some u):Inv X pins σ H { s with heap:=h',toks:=t' }:=I.un (Un.kept k) (I.hok.kept k)
theorem Inv.laid {a:Addr} {o:HO} {t':Nat} (I:Inv X pins σ H s) (k:∀b u,s.heap.get? b=some u->h'.get? b=some u) (hp:s.heap.objs.size<=a) (new:ObjOk X.prog X.w (upd H a o) h' a o) :
 Inv X pins σ (upd H a o) { s with heap:=h',toks:=t' }:=I.un (Un.laid k hp (I.hok.fresh hp)) (I.hok.laid k hp new)
theorem Inv.write {x e:Addr} {o:HO} {t':Nat} (I:Inv X pins σ H s) (mu:Mut (H x)) (he:e=x\/H e=some (.own x)) (k:∀b u,b≠e->s.heap.get? b=some u->h'.get? b=some u) (heo:∃u,h'.get? e=some u)
 (new:ObjOk X.prog X.w (upd H x o) h' x o):Inv X pins σ (upd H x o) { s with heap:=h',toks:=t' }:=I.un (Un.write mu he k heo) (I.hok.write mu he k heo new)
theorem Inv.pins_of {pins':List (Addr×Obj)} (I:Inv X pins σ H s) (h:∀p∈pins',s.heap.get? p.1=some p.2/\H p.1=none/\p.1≠X.env.locals/\p.1∉X.fs/\∀v,p.2.data≠.cell v):Inv X pins' σ H s:=
 ⟨I.ok,I.os,I.bare,I.base,I.loc,I.cell,I.free,I.freeC,λp hp=>(List.mem_append.mp hp).elim (λz=>I.pin p (List.mem_append_left _ z)) (h p),I.hok,I.len⟩
theorem au0 {N:List Str} (hN:N.Nodup) {i j:Nat} {x:Str} (a:N[i]?=some x) (b:N[j]?=some x):i=j:=by
 obtain⟨h1,e1⟩:=List.getElem?_eq_some_iff.mp a
 obtain⟨h2,e2⟩:=List.getElem?_eq_some_iff.mp b
 exact (List.getElem_inj hN).mp (e1.trans e2.symm)
theorem aJ4 {M:Model} {A:Around} {E:Value->Shared->Prop} {i:Nat} {x:Str} {v:V} {u:Value} {Q:Unit->Shared->Prop} (I:Inv X pins σ H s) (hN:X.N.Nodup) (hi:X.N[i]?=some x) (hx:Loc X.env.scope x) (r:RelV v u)
 (h:∀s',Inv X pins (σ.set i (some v)) H s'->(∃a,Heap.SameBut a s.heap s'.heap/\(a=X.env.locals\/X.env.cells.lookup x=some a))->Q () s') (hf:X.fn x=true\/X.env.scope.names.lookup x=some .local:=by first | exact .inl rfl | exact .inr rfl | assumption):wpAny M A (storeName X.env x u) Q E s:=by
 obtain⟨m,hn,hl⟩:=id I.loc
 have hcls:(X.env.scope.kind == .class||(X.env.scope.kind == .module&&X.env.locals != X.env.globals))=false:=by rw [I.ok.kind];rfl
 have hiσ:i<σ.length:=by rw [I.len];exact (List.getElem?_eq_some_iff.mp hi).1
 have cne:=I.cne
 have tracked:∀{a:Addr} {h':Heap},(∃o,s.heap.get? a=some o/\H a=none)->Heap.SameBut a s.heap h'->HOk X.prog X.w H h':=λ{a h'} ha hs b ob e=>by
  obtain⟨_,_,hfree⟩:=ha
  refine (I.hok b ob e).stay (λc w' hc q=>(hs.2 c ?_).trans q) (λ_ q=>q) λ_ _ q=>q
  rintro rfl
  rcases hc with rfl | hc
  ·rw [hfree] at e;cases e
  ·rw [hfree] at hc;cases hc
 rcases hx with hk | hk
 ·refine wpAny_storeName_local hk hn (λh' hn' hs=>?_) hcls
  obtain⟨oL,_,_,hoL,_⟩:=id hn
  refine h _ ⟨I.ok,I.os,I.bare,⟨λb o e n hb hx=>?_,λb o e n hb hx=>?_,I.base.free,λb o e hx=>?_,I.base.tups,I.base.frzs,I.base.tbls⟩,⟨_,hn',λj y v' e1 e2 e3=>?_⟩,λy c e=>?_,I.free,I.freeC,λp hp=>?_,tracked ⟨oL,hoL,I.free⟩ hs,by simpa using I.len⟩ ⟨_,hs,.inl rfl⟩
  ·exact (hs.2 b (Nat.ne_of_lt (Nat.lt_of_lt_of_le (Heap.lt_size e) I.ok.above))).trans (I.base.keep b o e n hb hx)
  ·obtain⟨sl,e1⟩:=I.base.slot b o e n hb hx
   exact⟨sl,(hs.2 b (Nat.ne_of_lt (Nat.lt_of_lt_of_le (Heap.lt_size e) I.ok.above))).trans e1⟩
  ·obtain⟨o',e1⟩:=I.base.there b o e hx
   exact⟨o',(hs.2 b (Nat.ne_of_lt (Nat.lt_of_lt_of_le (Heap.lt_size e) I.ok.above))).trans e1⟩
  ·by_cases hj:j=i
   ·subst hj
    rw [hi] at e1;cases e1
    rw [List.getElem?_set_self hiσ] at e2
    cases e2
    exact⟨u,r,.inl ⟨hk,by simp⟩⟩
   ·rw [List.getElem?_set_ne (Ne.symm hj)] at e2
    obtain⟨u',r',q⟩:=hl j y v' e1 e2 e3
    refine⟨u',r',?_⟩
    rcases q with ⟨k,e⟩ | ⟨k,c,e,z⟩
    ·refine .inl ⟨k,?_⟩
     have:y≠x:=λe=>hj (au0 hN e1 (e ▸ hi))
     simp [this,e]
    ·exact .inr ⟨k,c,e,z.sameBut hs (cne y c e)⟩
  ·obtain⟨w',z⟩:=I.cell y c e
   exact⟨w',z.sameBut hs (cne y c e)⟩
  ·obtain⟨e,n,ne,nf,d⟩:=I.pin p hp
   exact⟨(hs.2 p.1 ne).trans e,n,ne,nf,d⟩
 ·have hfn:X.fn x=true:=by
   rcases hf with z | z
   ·exact z
   ·rw [z] at hk;cases hk
  obtain⟨c,hc⟩:=I.ok.has x (.inl hk)
  obtain⟨w',z⟩:=I.cell x c hc
  refine wpAny_storeName_cell I.ok.kind hk hc z (λh' hc' hs=>?_)
  obtain⟨oc,hoc,hocd⟩:=id z
  refine h { s with heap:=h' } ⟨I.ok,I.os,I.bare,⟨λb o e n hb hx=>?_,λb o e n hb hx=>?_,I.base.free,λb o e hx=>?_,I.base.tups,I.base.frzs,I.base.tbls⟩,⟨m,hn.sameBut hs (Ne.symm (cne x c hc)),λj y v' e1 e2 e3=>?_⟩,λy c' e=>?_,I.free,I.freeC,λp hp=>?_,tracked ⟨oc,hoc,I.freeC x c hc⟩ hs,by simpa using I.len⟩ ⟨c,hs,.inr hc⟩
  ·exact (hs.2 b (Nat.ne_of_lt (Nat.lt_of_lt_of_le (Heap.lt_size e) (I.ok.cab x c hfn hc)))).trans (I.base.keep b o e n hb hx)
  ·obtain⟨sl,e1⟩:=I.base.slot b o e n hb hx
   exact⟨sl,(hs.2 b (Nat.ne_of_lt (Nat.lt_of_lt_of_le (Heap.lt_size e) (I.ok.cab x c hfn hc)))).trans e1⟩
  ·obtain⟨o',e1⟩:=I.base.there b o e hx
   exact⟨o',(hs.2 b (Nat.ne_of_lt (Nat.lt_of_lt_of_le (Heap.lt_size e) (I.ok.cab x c hfn hc)))).trans e1⟩
  ·by_cases hj:j=i
   ·subst hj
    rw [hi] at e1;cases e1
    rw [List.getElem?_set_self hiσ] at e2
    cases e2
    exact⟨u,r,.inr ⟨.inl hk,c,hc,hc'⟩⟩
   ·rw [List.getElem?_set_ne (Ne.symm hj)] at e2
    obtain⟨u',r',q⟩:=hl j y v' e1 e2 e3
    refine⟨u',r',?_⟩
    rcases q with q | ⟨k,c',e,z'⟩
    ·exact .inl q
    ·refine .inr ⟨k,c',e,z'.sameBut hs ?_⟩
     rintro rfl
     exact hj (au0 hN e1 (I.ok.inj _ _ _ e hc ▸ hi))
  ·by_cases hcc:c'=c
   ·subst hcc;exact⟨_,hc'⟩
   ·obtain⟨w2,z2⟩:=I.cell y c' e
    exact⟨w2,z2.sameBut hs hcc⟩
  ·obtain⟨e,n,ne,nf,d⟩:=I.pin p hp
   refine⟨(hs.2 p.1 ?_).trans e,n,ne,nf,d⟩
   intro q
   rw [q,hoc] at e
   have q':oc=p.2:=Option.some.inj e
   exact d w' (by rw [←q'];exact hocd)
theorem au1 {M:Model} {A:Around} {E:Value->Shared->Prop} {i:Nat} {x:Str} {v:V} {u:Value} {Q:Unit->Shared->Prop} (I:Inv X pins σ H s) (hN:X.N.Nodup) (hi:X.N[i]?=some x) (hx:Loc X.env.scope x) (r:RelV v u)
 (h:∀s',Inv X pins (σ.set i (some v)) H s'->Q () s') (hf:X.fn x=true\/X.env.scope.names.lookup x=some .local:=by first | exact .inl rfl | exact .inr rfl | assumption):wpAny M A (storeName X.env x u) Q E s:=
 aJ4 I hN hi hx r (λs' I' _=>h s' I') hf
theorem Inv.call' {s':Shared} {ch:List Addr} (I:Inv X pins σ H s) (ho:s'.os=s.os) (u:Un (frs X.stack) ch H H' s.heap s'.heap) (hok:HOk X.prog X.w H' s'.heap) (hg:AllBare s'.gens)
 (hch:∀b∈ch,(b∈X.ex\/X.s₀.heap.objs.size<=b)/\b≠X.env.locals/\(∀x c,X.env.cells.lookup x=some c->c≠b)/\∀p∈X.pn++pins,p.1≠b):Inv X pins σ H' s':=by
 obtain⟨h',g',d',t',o'⟩:=s'
 have e:o'=s.os:=ho
 subst e
 exact I.call (g':=g') (t':=t') (d':=d') u hok hg hch
end
abbrev XK:=Value->Option Addr->Hp->Prop
abbrev St:=List (Option V)
abbrev VK:=V->Hp->Prop
abbrev TE:=St->Hp->VK->Prop
abbrev TT:=St->Hp->(Bool->Hp->Prop)->Prop
abbrev TA:=St->Hp->(List V->Hp->Prop)->Prop
structure az2 where
 nx:St->Hp->Prop
 rt:VK
 bk:St->Hp->Prop:=λ_ _=>False
 ct:St->Hp->Prop:=λ_ _=>False
abbrev TS:=az2->St->Hp->Prop
def EP (X:Cx) (pins:List (Addr×Obj)) (σ:St) (Q:VK) (u:Value) (s':Shared):Prop:=∃v H',Inv X pins σ H' s'/\RelV v u/\Q v H'
def TP (X:Cx) (pins:List (Addr×Obj)) (σ:St) (Q:Bool->Hp->Prop) (b:Bool) (s':Shared):Prop:=∃H',Inv X pins σ H' s'/\Q b H'
def AP (X:Cx) (pins:List (Addr×Obj)) (σ:St) (Q:List V->Hp->Prop) (us:List Value) (s':Shared):Prop:=∃vs H',Inv X pins σ H' s'/\Vals vs us/\Q vs H'
def SP (X:Cx) (pins:List (Addr×Obj)) (D:az2) (f:Flow) (s':Shared):Prop:=
 match f with
 | .next=>∃σ' H',Inv X pins σ' H' s'/\D.nx σ' H'
 | .brk=>∃σ' H',Inv X pins σ' H' s'/\D.bk σ' H'
 | .cont=>∃σ' H',Inv X pins σ' H' s'/\D.ct σ' H'
 | .ret u=>∃v σ' H',Inv X pins σ' H' s'/\RelV v u/\D.rt v H'
def PE (X:Cx) (e:Expr) (t:TE):Prop:=
 ∀(pins:List (Addr×Obj)) (s:Shared) (σ:St) (H:Hp) (Q:VK),Inv X pins σ H s->t σ H Q->wpAny (model X.prog X.w) X.A (eval e X.env) (EP X pins σ Q) X.xe s
def PT (X:Cx) (e:Expr) (t:TT):Prop:=
 ∀(pins:List (Addr×Obj)) (s:Shared) (σ:St) (H:Hp) (Q:Bool->Hp->Prop),Inv X pins σ H s->t σ H Q->wpAny (model X.prog X.w) X.A (isTrue e X.env (eval e X.env)) (TP X pins σ Q) X.xe s
def PW (X:Cx) (e:Expr) (t:TT):Prop:=
 ∀(whole:Sem Value) (pins:List (Addr×Obj)) (s:Shared) (σ:St) (H:Hp) (Q:Bool->Hp->Prop),Inv X pins σ H s->t σ H Q->wpAny (model X.prog X.w) X.A (isTrue e X.env whole) (TP X pins σ Q) X.xe s
theorem PW.pt {X:Cx} {e:Expr} {t:TT} (h:PW X e t):PT X e t:=h _
def PA (X:Cx) (es:List Expr) (t:TA):Prop:=
 ∀(pos:Pos) (pins:List (Addr×Obj)) (s:Shared) (σ:St) (H:Hp) (Q:List V->Hp->Prop),Inv X pins σ H s->t σ H Q->wpAny (model X.prog X.w) X.A (spliced (backTo pos (starEach es X.env))) (AP X pins σ Q) X.xe s
def PS (X:Cx) (st:Stmt) (t:TS):Prop:=
 ∀(pins:List (Addr×Obj)) (s:Shared) (σ:St) (H:Hp) (D:az2),Inv X pins σ H s->t D σ H->wpAny (model X.prog X.w) X.A (exec st X.env) (SP X pins D) X.xe s
def PSs (X:Cx) (st:List Stmt) (t:TS):Prop:=
 ∀(pins:List (Addr×Obj)) (s:Shared) (σ:St) (H:Hp) (D:az2),Inv X pins σ H s->t D σ H->wpAny (model X.prog X.w) X.A (execs st X.env) (SP X pins D) X.xe s
theorem thn {α:Type} {t:Sem α} {Q Q':α->Shared->Prop} {M:Model} {A:Around} {E:Value->Shared->Prop} {s:Shared} (h:wpAny M A t Q E s) (hQ:∀a s,Q a s->Q' a s):wpAny M A t Q' E s:=wpAny_mono h hQ λ_ _ x=>x
section
variable {X:Cx}
def a99 (i:Nat):TE:=λσ H Q=>∃v,σ[i]?=some (some v)/\Q v H
def tC (v:V):TE:=λ_ H Q=>Q v H
theorem ba0 {i:Nat} {x:Str} {pos:Pos} (hN:X.N[i]?=some x) (hv:Vis X.env.scope x) (hd:(x == ("__debug__" : Str))=false:=by decide) (hcd:(x == ("__classdict__" : Str))=false:=by decide):PE X (.Name x pos) (a99 i):=by
 intro pins s σ H Q I h
 obtain⟨v,e,h⟩:=h
 obtain⟨m,hn,hl⟩:=I.loc
 obtain⟨u,r,l⟩:=hl i x v hN e hv
 have fin:EP X pins σ Q u s:=⟨v,H,I,r,h⟩
 rcases l with ⟨hk,hm⟩ | ⟨hk,c,hc,hcell⟩
 ·exact wpAny_Name (wpAny_loadName_local I.ok.kind hk hn hm fin) hd
 ·rcases hk with hk | hk
  ·exact wpAny_Name (wpAny_loadName_cell I.ok.kind hk hc hcell fin) hd
  ·exact wpAny_Name (wpAny_loadName_free I.ok.kind hk hc hcell fin hcd) hd
theorem aO8 {i j pos}:PE X (.Constant (.int i) j pos) (tC (.int i)):=λ_ _ _ H _ I h=>wpAny_Constant_int ⟨.int i,H,I.tok _,⟨_,rfl⟩,h⟩
theorem bg8 {b j pos}:PE X (.Constant (.bool b) j pos) (tC (.bl b)):=λ_ _ _ H _ I h=>Constant_bool ⟨.bl b,H,I,rfl,h⟩
theorem ba1 {j pos}:PE X (.Constant .none j pos) (tC .non):=λ_ _ _ H _ I h=>Constant_none ⟨.non,H,I,rfl,h⟩
theorem ba2 {x j pos}:PE X (.Constant (.str x) j pos) (tC (.str x)):=λ_ _ _ H _ I h=>Calls.Constant_str ⟨.str x,H,I.tok _,⟨_,rfl⟩,h⟩
def Gl (X:Cx) (x:Str):Prop:=X.env.kindOf x=some .globalImplicit
theorem ao8 {E:Value->Shared->Prop} {pins:List (Addr×Obj)} {s:Shared} {σ:St} {H:Hp} {x:Str} {u:Value} {pos:Pos} {Q:Value->Shared->Prop} (I:Inv X pins σ H s) (hg:Gl X x) (hm:X.mg x=some u) (h:Q u s)
 (hd:(x == ("__debug__" : Str))=false:=by decide):wpAny (model X.prog X.w) X.A (eval (.Name x pos) X.env) Q E s:=
 Calls.Name_function_global I.ok.kind hg (Calls.loadGlobal_global (by rw [I.ok.glob];exact I.mod.glob.keeps I.bk) hm h) hd
theorem Q1 {E:Value->Shared->Prop} {pins:List (Addr×Obj)} {s:Shared} {σ:St} {H:Hp} {x:Str} {u:Value} {pos:Pos} {Q:Value->Shared->Prop} (I:Inv X pins σ H s) (hg:Gl X x) (hm:X.mg x=none) (hv:bootBuiltins x=some u) (h:Q u s)
 (hn:x≠"__name__":=by decide) (hd:(x == ("__debug__" : Str))=false:=by decide):wpAny (model X.prog X.w) X.A (eval (.Name x pos) X.env) Q E s:=by
 obtain⟨mb,h1,h2⟩:=I.mod.blt
 exact Calls.Name_function_global I.ok.kind hg (Calls.loadGlobal_builtin (by rw [I.ok.glob];exact I.mod.glob.keeps I.bk) hm (by rw [I.ok.blt];exact h1.keeps I.bk) ((h2 x hn).trans hv) h) hd
theorem aE0 {x:Str} {v:V} {u:Value} {pos:Pos} (hg:Gl X x) (hm:X.mg x=some u) (r:RelV v u) (hd:(x == ("__debug__" : Str))=false:=by decide):PE X (.Name x pos) (tC v):=
 λ_ _ _ H _ I h=>ao8 I hg hm ⟨v,H,I,r,h⟩ hd
theorem aE1 {x:Str} {v:V} {u:Value} {pos:Pos} (hg:Gl X x) (hm:X.mg x=none) (hv:bootBuiltins x=some u) (r:RelV v u) (hn:x≠"__name__":=by decide) (hd:(x == ("__debug__" : Str))=false:=by decide):PE X (.Name x pos) (tC v):=
 λ_ _ _ H _ I h=>Q1 I hg hm hv ⟨v,H,I,r,h⟩ hn hd
variable {a b:Expr} {ta tb:TE} {pos:Pos}
def PC (X:Cx) (op:CmpOp) (a b:Expr) (t:TE):Prop:=
 ∀(pins:List (Addr×Obj)) (s:Shared) (σ:St) (H:Hp) (Q:VK),Inv X pins σ H s->t σ H Q->
  wpAny (model X.prog X.w) X.A (eval a X.env) (λv s₁=>wpAny (model X.prog X.w) X.A (eval b X.env) (λu s₂=>wpAny (model X.prog X.w) X.A (compareOp op v u) (EP X pins σ Q) X.xe s₂) X.xe s₁) X.xe s
def bg9 (ta:TE):TE:=λσ H Q=>ta σ H λx H1=>Q (.bl (decide (x=.non))) H1
def a75 (ta:TE):TE:=λσ H Q=>ta σ H λx H1=>Q (.bl (!decide (x=.non))) H1
theorem RelV.none_iff {x:V} {v:Value} (r:RelV x v):(v == Value.none)=decide (x=.non):=by
 cases x with
 | non=>cases r;rfl
 | bl _=>cases r;rfl
 | int _=>obtain⟨t,rfl⟩:=r;rfl
 | str _=>obtain⟨t,rfl⟩:=r;rfl
 | byt _=>obtain⟨t,rfl⟩:=r;rfl
 | flt _=>obtain⟨t,rfl⟩:=r;rfl
 | ref _=>cases r;rfl
 | ty _=>cases r;rfl
theorem aO9 {j pos'} (ha:PE X a ta):PC X .Is a (.Constant .none j pos') (bg9 ta):=by
 intro pins s σ H Q I h
 refine thn (ha pins s σ H _ I h) λv s1 ⟨x,H1,I1,r1,q1⟩=>?_
 exact Constant_none (is_none_gen ⟨.bl _,H1,I1,by rw [r1.none_iff];rfl,q1⟩)
theorem aE2 {j pos'} (ha:PE X a ta):PC X .IsNot a (.Constant .none j pos') (a75 ta):=by
 intro pins s σ H Q I h
 refine thn (ha pins s σ H _ I h) λv s1 ⟨x,H1,I1,r1,q1⟩=>?_
 exact Constant_none (isnot_none_gen ⟨.bl _,H1,I1,by rw [r1.none_iff];rfl,q1⟩)
def tB (t:TE):TT:=λσ H Q=>t σ H λx H1=>∃c,x=.bl c/\Q c H1
theorem az3 {op:CmpOp} {t:TE} (h:PC X op a b t) (h1:behindInMarks op b=false:=by first | exact nobehind _ (by decide) (by decide) | rfl):PE X (.Compare a [op] [b] pos) t:=λpins s σ H Q I hw=>wpAny_Compare1 (h pins s σ H Q I hw) h1
theorem az4 {op:CmpOp} {t:TE} (h:PC X op a b t) (h1:behindInMarks op b=false:=by first | exact nobehind _ (by decide) (by decide) | rfl):PT X (.Compare a [op] [b] pos) (tB t):=by
 intro pins s σ H Q I hw
 refine wpAny_isTrue_Compare1 (thn (h pins s σ H _ I hw) λv s1 h1=>thn h1 λu s2 h2=>thn h2 λc s3 ⟨x,H1,I1,r1,q1⟩=>?_) h1
 obtain⟨d,rfl,q⟩:=q1
 cases r1
 exact wpAny_truthy_bool ⟨H1,I1,q⟩
theorem ba3 {e:Expr} {t:TE} (h:PE X e t) (he:∀whole,isTrue e X.env whole=(do let v ←whole;standAt e.pos;holding [v] (truthy v)):=by intro _;rfl):PT X e (tB t):=by
 intro pins s σ H Q I hw
 refine isTrue_plain (thn (h pins s σ H _ I hw) λv s1 ⟨x,H1,I1,r1,q1⟩=>?_) (he _)
 obtain⟨d,rfl,q⟩:=q1
 cases r1
 exact wpAny_truthy_bool ⟨H1,I1,q⟩
variable {tA tB':TT} {rest:List Expr}
def tAnd (t u:TT):TT:=λσ H Q=>t σ H λc H1=>if c=true then u σ H1 Q else Q false H1
def tOr (t u:TT):TT:=λσ H Q=>t σ H λc H1=>if c=true then Q true H1 else u σ H1 Q
def tNot (t:TT):TT:=λσ H Q=>t σ H λc H1=>Q (!c) H1
theorem aZ4 (ha:PT X a tA):PW X (.BoolOp .And [a] pos) tA:=by
 intro wh pins s σ H Q I h
 refine isTrue_and (thn (ha pins s σ H Q I h) λc s1 e=>?_)
 cases c with
 | true=>exact isTrue_and_nil e
 | false=>exact e
theorem ba4 (ha:PT X a tA):PW X (.BoolOp .Or [a] pos) tA:=by
 intro wh pins s σ H Q I h
 refine isTrue_or (thn (ha pins s σ H Q I h) λc s1 e=>?_)
 cases c with
 | false=>exact isTrue_or_nil e
 | true=>exact e
theorem ba5 (ha:PT X a tA) (hb:PW X (.BoolOp .And (b::rest) pos) tB'):PW X (.BoolOp .And (a::b::rest) pos) (tAnd tA tB'):=by
 intro wh pins s σ H Q I h
 refine isTrue_and (thn (ha pins s σ H _ I h) λc s1 ⟨H1,I1,q1⟩=>?_)
 cases c with
 | true=>exact hb wh pins s1 σ H1 Q I1 q1
 | false=>exact⟨H1,I1,q1⟩
theorem bh0 (ha:PT X a tA) (hb:PW X (.BoolOp .Or (b::rest) pos) tB'):PW X (.BoolOp .Or (a::b::rest) pos) (tOr tA tB'):=by
 intro wh pins s σ H Q I h
 refine isTrue_or (thn (ha pins s σ H _ I h) λc s1 ⟨H1,I1,q1⟩=>?_)
 cases c with
 | true=>exact⟨H1,I1,q1⟩
 | false=>exact hb wh pins s1 σ H1 Q I1 q1
theorem ba6 (ha:PT X a tA):PT X (.UnaryOp .Not a pos) (tNot tA):=by
 intro pins s σ H Q I h
 exact isTrue_not (ha pins s σ H (λc H1=>Q (!c) H1) I h)
def bh1 (ta tb:TE):TE:=λσ H Q=>ta σ H λx H1=>∃c,x=.bl c/\if c=true then tb σ H1 Q else Q (.bl false) H1
def bm8 (ta tb:TE):TE:=λσ H Q=>ta σ H λx H1=>∃c,x=.bl c/\if c=true then Q (.bl true) H1 else tb σ H1 Q
def bh2 (ta:TE):TE:=λσ H Q=>ta σ H λx H1=>∃c,x=.bl c/\Q (.bl (!c)) H1
theorem aP0 {op} {t:TE} (h:PE X a t):PE X (.BoolOp op [a] pos) t:=λpins s σ H Q I hw=>BoolOp_one (h pins s σ H Q I hw)
theorem ba7 (ha:PE X a ta) (hb:PE X (.BoolOp .And (b::rest) pos) tb):PE X (.BoolOp .And (a::b::rest) pos) (bh1 ta tb):=by
 intro pins s σ H Q I h
 refine BoolOp_and (thn (ha pins s σ H _ I h) λv s1 ⟨x,H1,I1,r1,q1⟩=>?_)
 obtain⟨c,rfl,q1⟩:=q1
 cases r1
 refine wpAny_truthy_bool ?_
 cases c with
 | true=>exact hb pins s1 σ H1 Q I1 q1
 | false=>exact⟨.bl false,H1,I1,rfl,q1⟩
theorem bh3 (ha:PE X a ta) (hb:PE X (.BoolOp .Or (b::rest) pos) tb):PE X (.BoolOp .Or (a::b::rest) pos) (bm8 ta tb):=by
 intro pins s σ H Q I h
 refine BoolOp_or (thn (ha pins s σ H _ I h) λv s1 ⟨x,H1,I1,r1,q1⟩=>?_)
 obtain⟨c,rfl,q1⟩:=q1
 cases r1
 refine wpAny_truthy_bool ?_
 cases c with
 | false=>exact hb pins s1 σ H1 Q I1 q1
 | true=>exact⟨.bl true,H1,I1,rfl,q1⟩
theorem ba8 (ha:PE X a ta):PE X (.UnaryOp .Not a pos) (bh2 ta):=by
 intro pins s σ H Q I h
 refine UnaryOp_ (thn (ha pins s σ H _ I h) λv s1 ⟨x,H1,I1,r1,q1⟩=>?_)
 obtain⟨c,rfl,q1⟩:=q1
 cases r1
 exact not_of (wpAny_truthy_bool ⟨.bl (!c),H1,I1,rfl,q1⟩)
def tIf (t:TT) (ta tb:TE):TE:=λσ H Q=>t σ H λc H1=>if c=true then ta σ H1 Q else tb σ H1 Q
theorem aP1 {c:Expr} (hc:PT X c tA) (ha:PE X a ta) (hb:PE X b tb):PE X (.IfExp c a b pos) (tIf tA ta tb):=by
 intro pins s σ H Q I h
 refine wpAny_IfExp (thn (hc pins s σ H _ I h) λd s1 ⟨H1,I1,q1⟩=>?_)
 cases d with
 | true=>exact ha pins s1 σ H1 Q I1 q1
 | false=>exact hb pins s1 σ H1 Q I1 q1
end
def SqL (K:PySem.W.Frag) (H:Hp) (a:Addr) (xs:List V):Prop:=
 Rd H a (.lst xs)\/
  ∃(o:Obj) (its:Array Value) (n:Nat),K.lookup a=some o/\o.cls=.type "list"/\o.dict=none/\o.data=.seq its n/\its.size<=sizeLine/\Vals xs its.toList
def SqT (K:PySem.W.Frag) (H:Hp) (a:Addr) (xs:List V):Prop:=
 Rd H a (.tup xs)\/
  ∃(o:Obj) (its:Array Value) (n:Nat),K.lookup a=some o/\o.cls=.type "tuple"/\o.data=.seq its n/\its.size<=sizeLine/\Vals xs its.toList
def bm9:Value->Option V
 | .none=>some .non
 | .bool b=>some (.bl b)
 | .int i _=>some (.int i)
 | .str x _=>some (.str x)
 | .bytes b _=>some (.byt b)
 | .float b _=>some (.flt b)
 | .ref a=>some (.ref a)
 | .type n=>some (.ty n)
 | _=>none
theorem RelV.abs {x:V} {u:Value} (r:RelV x u):bm9 u=some x:=by
 cases x with
 | non=>cases r;rfl
 | bl _=>cases r;rfl
 | int _=>obtain⟨t,rfl⟩:=r;rfl
 | str _=>obtain⟨t,rfl⟩:=r;rfl
 | byt _=>obtain⟨t,rfl⟩:=r;rfl
 | flt _=>obtain⟨t,rfl⟩:=r;rfl
 | ref _=>cases r;rfl
 | ty _=>cases r;rfl
theorem RelV.inj {x y:V} {u:Value} (r:RelV x u) (q:RelV y u):x=y:=Option.some.inj (r.abs.symm.trans q.abs)
theorem Vals.inj:∀{xs ys:List V} {us:List Value},Vals xs us->Vals ys us->xs=ys
 | _,_,_,.nil,.nil=>rfl
 | _,_,_,.cons r t,.cons r' t'=>by rw [r.inj r',Vals.inj t t']
section
variable {X:Cx} {pins:List (Addr×Obj)} {σ:St} {H:Hp} {s:Shared} {a:Addr} {xs ys:List V}
theorem SqL.of {K:PySem.W.Frag} (h:H a=some (.lst xs)):SqL K H a xs:=.inl (.inl h)
theorem SqT.of {K:PySem.W.Frag} (h:H a=some (.tup xs)):SqT K H a xs:=.inl (.inl h)
theorem Inv.list (I:Inv X pins σ H s) (h:SqL X.K H a xs):∃its:List Value,Vals xs its/\PlainL s.heap a its.toArray/\xs.length<=sizeLine:=by
 rcases h with h | ⟨o,its,n,hk,hc,hd,hs,hz,r⟩
 ·obtain⟨z,its,n,r,e⟩:=h.ok I.hok
  exact⟨its,r,⟨_,n,e,rfl,rfl,rfl⟩,z⟩
 ·refine⟨its.toList,r,⟨o,n,I.kIn a o hk,hc,hd,by simpa using hs⟩,?_⟩
  have e:=r.length
  simp only [Array.length_toList] at e
  omega
theorem Inv.tuple (I:Inv X pins σ H s) (h:SqT X.K H a xs):∃its:List Value,Vals xs its/\IsTup s.heap a its.toArray/\xs.length<=sizeLine:=by
 rcases h with h | ⟨o,its,n,hk,hc,hs,hz,r⟩
 ·obtain⟨z,its,r,p⟩:=h.ok I.hok
  exact⟨its,r,p,z⟩
 ·refine⟨its.toList,r,⟨o,I.kIn a o hk,hc,n,by simpa using hs⟩,?_⟩
  have e:=r.length
  simp only [Array.length_toList] at e
  omega
theorem Inv.list_inj (I:Inv X pins σ H s) (h:SqL X.K H a xs) (h':SqL X.K H a ys):xs=ys:=by
 obtain⟨its,r,⟨o,n,e,_,_,d⟩,_⟩:=I.list h
 obtain⟨its',r',⟨o',n',e',_,_,d'⟩,_⟩:=I.list h'
 rw [e] at e';cases e'
 rw [d] at d'
 injection d' with d1 _
 have:its=its':=by simpa using congrArg Array.toList d1
 subst this
 exact r.inj r'
theorem Inv.tuple_inj (I:Inv X pins σ H s) (h:SqT X.K H a xs) (h':SqT X.K H a ys):xs=ys:=by
 obtain⟨its,r,⟨o,e,_,n,d⟩,_⟩:=I.tuple h
 obtain⟨its',r',⟨o',e',_,n',d'⟩,_⟩:=I.tuple h'
 rw [e] at e';cases e'
 rw [d] at d'
 injection d' with d1 _
 have:its=its':=by simpa using congrArg Array.toList d1
 subst this
 exact r.inj r'
end
abbrev Cx.wish (X:Cx) (E:Value->Shared->Prop):Cx:={ X with xe:=E }
abbrev Cx.nox (X:Cx):Cx:=X.wish λ_ _=>False
theorem Cx.Ok.wish {X:Cx} (ok:X.Ok) (E:Value->Shared->Prop):(X.wish E).Ok:=
 ⟨ok.mod,ok.kind,ok.glob,ok.blt,ok.above,ok.inj,ok.has,ok.cab,ok.hd,ok.frames,ok.stk,ok.exf,ok.bs,ok.bsz,ok.noex,ok.exfs,ok.funs,ok.frf⟩
theorem Cx.Ok.unwish {X:Cx} {E:Value->Shared->Prop} (ok:(X.wish E).Ok):X.Ok:=
 ⟨ok.mod,ok.kind,ok.glob,ok.blt,ok.above,ok.inj,ok.has,ok.cab,ok.hd,ok.frames,ok.stk,ok.exf,ok.bs,ok.bsz,ok.noex,ok.exfs,ok.funs,ok.frf⟩
section
variable {X:Cx} {pins:List (Addr×Obj)} {σ:St} {H:Hp} {s:Shared} {E:Value->Shared->Prop}
theorem Inv.wish (I:Inv X pins σ H s) (E:Value->Shared->Prop):Inv (X.wish E) pins σ H s:=⟨I.ok.wish E,I.os,I.bare,I.base,I.loc,I.cell,I.free,I.freeC,I.pin,I.hok,I.len⟩
theorem Inv.unwish (I:Inv (X.wish E) pins σ H s):Inv X pins σ H s:=⟨I.ok.unwish,I.os,I.bare,I.base,I.loc,I.cell,I.free,I.freeC,I.pin,I.hok,I.len⟩
theorem SP.unwish {D:az2} {f:Flow} {s':Shared} (h:SP (X.wish E) pins D f s'):SP X pins D f s':=by
 cases f with
 | next=>obtain⟨σ',H',I,q⟩:=h;exact⟨σ',H',I.unwish,q⟩
 | brk=>obtain⟨σ',H',I,q⟩:=h;exact⟨σ',H',I.unwish,q⟩
 | cont=>obtain⟨σ',H',I,q⟩:=h;exact⟨σ',H',I.unwish,q⟩
 | ret u=>obtain⟨v,σ',H',I,r,q⟩:=h;exact⟨v,σ',H',I.unwish,r,q⟩
theorem PSs.nox {st:List Stmt} {t:TS} (h:PSs X.nox st t):PSs X st t:=λpins s σ H D I hw=>
 wpAny_mono (h pins s σ H D (I.wish _) hw) (λ_ _ q=>q.unwish) λ_ _ z=>False.elim z
end
section
variable {X:Cx} {st:Stmt} {rest:List Stmt} {t u:TS} {e:Expr} {te:TE} {pos:Pos}
def tNext:TS:=λD σ H=>D.nx σ H
def bn0 (t u:TS):TS:=λD σ H=>t { D with nx:=u D } σ H
theorem aZ5:PSs X [] tNext:=λ_ _ σ H _ I h=>wpAny_execs_nil ⟨σ,H,I,h⟩
theorem aP2 (h1:PS X st t) (h2:PSs X rest u):PSs X (st::rest) (bn0 t u):=by
 intro pins s σ H D I h
 refine wpAny_execs_cons (thn (h1 pins s σ H { D with nx:=u D } I h) λf s1 q=>?_)
 cases f with
 | next=>
   obtain⟨σ',H',I',q⟩:=q
   exact h2 pins s1 σ' H' D I' q
 | ret v=>exact q
 | brk=>exact q
 | cont=>exact q
theorem aZ6 (h1:PS X st t):PSs X [st] t:=by
 intro pins s σ H D I h
 refine wpAny_execs_cons (thn (h1 pins s σ H D I h) λf s1 q=>?_)
 cases f with
 | next=>exact wpAny_execs_nil q
 | ret v=>exact q
 | brk=>exact q
 | cont=>exact q
theorem Inv.quiet {pins:List (Addr×Obj)} {σ:St} {H:Hp} {s:Shared} (I:Inv X pins σ H s):interactive X.env=false:=by simp [interactive,I.ok.kind]
def bh4 (te:TE):TS:=λD σ H=>te σ H λ_ H1=>D.nx σ H1
theorem aZ7 (he:PE X e te) (hs:swapsWith e none pos.line X.env=pure false:=by rfl):PS X (.Expr e pos) (bh4 te):=by
 intro pins s σ H D I h
 exact wpAny_Expr_any (thn (he pins s σ H _ I h) λv s1 ⟨x,H1,I1,r1,q1⟩=>⟨σ,H1,I1,q1⟩) I.quiet hs
def bn1 (te:TE):TS:=λD σ H=>te σ H D.rt
theorem ba9 (he:PE X e te):PS X (.Return (some e) pos) (bn1 te):=by
 intro pins s σ H D I h
 exact wpAny_Return_some (thn (he pins s σ H _ I h) λv s1 ⟨x,H1,I1,r1,q1⟩=>⟨x,σ,H1,I1,r1,q1⟩)
def bn2 (c:TT) (t u:TS):TS:=λD σ H=>c σ H λb H1=>if b=true then t D σ H1 else u D σ H1
theorem bh5 {c:Expr} {a b:List Stmt} {tc:TT} (hc:PT X c tc) (ha:PSs X a t) (hb:PSs X b u):PS X (.If c a b pos) (bn2 tc t u):=by
 intro pins s σ H D I h
 refine wpAny_If (thn (hc pins s σ H _ I h) λd s1 ⟨H1,I1,q1⟩=>?_)
 cases d with
 | true=>exact ha pins s1 σ H1 D I1 q1
 | false=>exact hb pins s1 σ H1 D I1 q1
def tNever:TS:=λ_ _ _=>False
theorem aP3:PS X st tNever:=λ_ _ _ _ _ _ h=>h.elim
end
abbrev TG:=V->St->Hp->(St->Hp->Prop)->Prop
abbrev TGs:=List V->St->Hp->(St->Hp->Prop)->Prop
def PG (X:Cx) (target:Expr) (t:TG):Prop:=
 ∀(pins:List (Addr×Obj)) (s:Shared) (σ:St) (H:Hp) (v:V) (u:Value) (Q:St->Hp->Prop),Inv X pins σ H s->RelV v u->t v σ H Q->
  wpAny (model X.prog X.w) X.A (assign target X.env u) (λ_ s'=>∃σ' H',Inv X pins σ' H' s'/\Q σ' H') X.xe s
def PGs (X:Cx) (ts:List Expr) (t:TGs):Prop:=
 ∀(pins:List (Addr×Obj)) (s:Shared) (σ:St) (H:Hp) (vs:List V) (us:List Value) (Q:St->Hp->Prop),Inv X pins σ H s->Vals vs us->t vs σ H Q->
  wpAny (model X.prog X.w) X.A (assignInOrder ((assignEach ts X.env).map (·.2)) us) (λ_ s'=>∃σ' H',Inv X pins σ' H' s'/\Q σ' H') X.xe s
section
variable {X:Cx} {pos:Pos}
def gName (i:Nat):TG:=λv σ H Q=>Q (σ.set i (some v)) H
theorem pg_name {i:Nat} {x:Str} (hN:X.N.Nodup) (hi:X.N[i]?=some x) (hx:Loc X.env.scope x) (hf:X.fn x=true\/X.env.scope.names.lookup x=some .local:=by first | exact .inl rfl | exact .inr rfl | assumption):PG X (.Name x pos) (gName i):=by
 intro pins s σ H v u Q I r h
 exact wpAny_assign_Name (au1 I hN hi hx r (λs' I'=>⟨_,H,I',h⟩) hf)
def gNil:TGs:=λvs σ H Q=>vs=[]/\Q σ H
def gCons (t:TG) (u:TGs):TGs:=λvs σ H Q=>∃v r,vs=v::r/\t v σ H λσ' H'=>u r σ' H' Q
theorem aZ8:PGs X [] gNil:=by
 intro pins s σ H vs us Q I r h
 obtain⟨e,h⟩:=h
 subst e
 cases r
 exact assignInOrder_nil ⟨σ,H,I,h⟩
theorem aP4 {e:Expr} {es:List Expr} {t:TG} {u:TGs} (h1:PG X e t) (h2:PGs X es u)
 (hs:(assignEach (e::es) X.env).map (·.2)=assign e X.env::(assignEach es X.env).map (·.2):=by rfl):PGs X (e::es) (gCons t u):=by
 intro pins s σ H vs us Q I r h
 obtain⟨v,vr,e1,h⟩:=h
 subst e1
 cases r with
 | cons r rr=>
   rw [hs]
   refine assignInOrder_cons (thn (h1 pins s σ H _ _ _ I r h) λ_ s1 ⟨σ1,H1,I1,q1⟩=>?_)
   exact h2 pins s1 σ1 H1 _ _ Q I1 rr q1
def gTup (K:PySem.W.Frag) (n:Nat) (t:TGs):TG:=λv σ H Q=>∃a xs,v=.ref a/\SqT K H a xs/\xs.length=n/\t xs σ H Q
theorem bb0 {es:List Expr} {k:Nat} {t:TGs} {n:Nat} (hc:X.calm=true) (h:PGs X es t)
 (hn:(assignEach es X.env).length=n:=by rfl) (hst:(assignEach es X.env).findIdx? (·.1)=none:=by rfl):PG X (.Tuple es k pos) (gTup X.K n t):=by
 intro pins s σ H v u Q I r hw
 obtain⟨a,xs,e1,hq,hl,hw⟩:=hw
 subst e1
 cases r
 obtain⟨its,rv,ht,hz⟩:=I.tuple hq
 refine assign_Tuple_tuple (I.ok.hd hc) ht (by simp [hn,←hl,rv.length]) hst λh' hx=>?_
 have I1:Inv X pins σ H { s with heap:=h' }:=I.kept (t':=s.toks) λb o e=>hx b o (Nat.ne_of_lt (Heap.lt_size e)) e
 exact h pins _ σ H xs _ Q I1 (by simpa using rv) hw
def bh6 (te:TE) (g:TG):TS:=λD σ H=>te σ H λx H1=>g x σ H1 D.nx
theorem bb1 {i:Nat} {x:Str} {e:Expr} {te:TE} {pos':Pos} (hN:X.N.Nodup) (hi:X.N[i]?=some x) (hx:Loc X.env.scope x) (he:PE X e te) (hs:swapsWith e (some (.Name x pos')) pos.line X.env=pure false:=by rfl) (hf:X.fn x=true\/X.env.scope.names.lookup x=some .local:=by first | exact .inl rfl | exact .inr rfl | assumption) :
 PS X (.Assign [.Name x pos'] e pos) (bh6 te (gName i)):=by
 intro pins s σ H D I h
 refine wpAny_Assign_Name (thn (he pins s σ H _ I h) λv s1 ⟨y,H1,I1,r1,q1⟩=>?_) hs
 exact au1 I1 hN hi hx r1 (λs2 I2=>⟨_,H1,I2,q1⟩) hf
def bb2 (c:TT) (tb:TS):TS:=λD σ H=>∃W:Nat->St->Hp->Prop,(∃m,W m σ H)/\∀m σ H,W m σ H->
 c σ H λb H1=>if b=true then ∃N:St->Hp->Prop,(∀σ' H',N σ' H'->∃m',m'<m/\W m' σ' H')/\tb { D with nx:=N,ct:=N,bk:=D.nx } σ H1 else D.nx σ H1
theorem aP5 {c:Expr} {body:List Stmt} {tc:TT} {tb:TS} (hp:PassesOwn (model X.prog X.w) X.A X.env X.xe) (hc:PT X c tc) (hb:PSs X body tb):PS X (.While c body [] pos) (bb2 tc tb):=by
 intro pins s σ H D I h
 obtain⟨W,⟨m0,w0⟩,turn⟩:=h
 refine wpAny_While (codeAny_whileLoop (λn s'=>∃σ' H',Inv X pins σ' H' s'/\W n σ' H') ?_ m0 ⟨σ,H,I,w0⟩)
 rintro n s1 ⟨σ1,H1,I1,w1⟩
 refine wpAny_passesOwn hp (thn (hc pins s1 σ1 H1 _ I1 (turn n σ1 H1 w1)) λb s2 ⟨H2,I2,q2⟩=>?_)
 cases b with
 | true=>
   obtain⟨N,hN,q2⟩:=q2
   rw [if_pos rfl]
   refine wpAny_passesOwn hp (thn (hb pins s2 σ1 H2 _ I2 q2) λf s3 q3=>?_)
   cases f with
   | next=>
     obtain⟨σ3,H3,I3,n3⟩:=q3
     obtain⟨m',hm,w3⟩:=hN σ3 H3 n3
     exact⟨m',hm,σ3,H3,I3,w3⟩
   | cont=>
     obtain⟨σ3,H3,I3,n3⟩:=q3
     obtain⟨m',hm,w3⟩:=hN σ3 H3 n3
     exact⟨m',hm,σ3,H3,I3,w3⟩
   | brk=>exact q3
   | ret v=>exact q3
 | false=>
   rw [if_neg Bool.false_ne_true]
   exact wpAny_execs_nil ⟨σ1,H2,I2,q2⟩
end
structure It where
 go:Nat->Hp->Prop
 yld:Nat->Hp->V->Hp->Prop
 stop:Nat->Hp->Prop
def k9 (X:Cx) (pins:List (Addr×Obj)) (H:Hp) (b:Addr):Prop:=
 H b=none/\b≠X.env.locals/\b∉X.fs/\(b∈X.ex\/X.s₀.heap.objs.size<=b)/\(∀x c,X.env.cells.lookup x=some c->c≠b)/\∀p∈X.pn++pins,p.1≠b
theorem Inv.fpOk {X:Cx} {pins:List (Addr×Obj)} {σ:St} {H H':Hp} {s:Shared} {b:Addr} (I:Inv X pins σ H s) (hb:s.heap.objs.size<=b) (hn:H' b=none):k9 X pins H' b:=by
 refine⟨hn,Nat.ne_of_gt (Nat.lt_of_lt_of_le I.lt hb),I.nofs hb,.inr (Nat.le_trans I.sz hb),λx c e z=>?_,λp hp z=>?_⟩
 ·obtain⟨v,q⟩:=I.cell x c e
  exact absurd (Nat.lt_of_lt_of_le q.lt (by rw [z];exact hb)) (Nat.lt_irrefl _)
 ·exact absurd (Nat.lt_of_lt_of_le (Heap.lt_size (I.pin p hp).1) (by rw [z];exact hb)) (Nat.lt_irrefl _)
structure az5 (P:Program) (w:World) (K:PySem.W.Frag) (tg:Expr) (J:It) (fp:List Addr) (it:Addr) (tn:Nat->Heap->Prop):Prop where
 mem:it∈fp
 obj:∀i h,tn i h->∀b∈fp,∃o,h.get? b=some o/\∀v,o.data≠.cell v
 keep:∀i h h',tn i h->(∀b∈fp,∀o,h.get? b=some o->h'.get? b=some o)->tn i h'
 item:∀(X:Cx),X.prog=P->X.w=w->X.K=K->X.calm=true->∀(i:Nat) (pins:List (Addr×Obj)) (s:Shared) (σ:St) (H:Hp) (E:Value->Shared->Prop),Inv X pins σ H s->(∀b∈fp,k9 X pins H b)->tn i s.heap->J.go i H->
  wpAny (model P w) X.A (pyNext (.ref it)) (λr s1=>∃u,r=some u/\
   wpAny (model P w) X.A (letOwnedTupleGo tg (.ref it) u) (λ_ s2=>∃x H',Inv X pins σ H' s2/\RelV x u/\J.yld i H x H'/\tn (i+1) s2.heap/\∀b∈fp,H' b=none) E s1) E s
 done:∀(X:Cx),X.prog=P->X.w=w->X.K=K->X.calm=true->∀(i:Nat) (pins:List (Addr×Obj)) (s:Shared) (σ:St) (H:Hp) (E:Value->Shared->Prop),Inv X pins σ H s->(∀b∈fp,k9 X pins H b)->tn i s.heap->J.stop i H->
  wpAny (model P w) X.A (pyNext (.ref it)) (λr s1=>r=none/\Inv X pins σ H s1) E s
 self:∀(A:Around) (i:Nat) (s:Shared) (Q:Value->Shared->Prop) (E:Value->Shared->Prop),tn i s.heap->Q (.ref it) s->wpAny (model P w) A (pyIter (.ref it)) Q E s
abbrev TI:=St->Hp->(It->Hp->Prop)->Prop
def PIE (X:Cx) (pins:List (Addr×Obj)) (σ:St) (tg:Expr) (R:It->Hp->Prop) (itv:Value) (s2:Shared):Prop:=
 ∃(it:Addr) (fp:List Addr) (tn:Nat->Heap->Prop) (J:It) (H':Hp),itv=.ref it/\Inv X pins σ H' s2/\az5 X.prog X.w X.K tg J fp it tn/\tn 0 s2.heap/\(∀b∈fp,k9 X pins H' b)/\R J H'
def PI (X:Cx) (tg iter:Expr) (wi:TI):Prop:=
 ∀(pins:List (Addr×Obj)) (s:Shared) (σ:St) (H:Hp) (R:It->Hp->Prop),Inv X pins σ H s->wi σ H R->
  wpAny (model X.prog X.w) X.A (eval iter X.env) (λv s1=>wpAny (model X.prog X.w) X.A (pyIter v) (PIE X pins σ tg R) X.xe s1) X.xe s
theorem aP6 {M:Model} {A:Around} {E:Value->Shared->Prop} {s:Shared} {tg:Expr} {it:Addr} {u:Value} {o:Obj} {n:String} {vs:Array Value} {Q:Unit->Shared->Prop} (ho:s.heap.get? it=some o) (hc:o.cls=.type n) (hd:o.data=.fields vs)
 (hn:["enumerate","zip","dict_itemiterator","dict_reverseitemiterator","odict_iterator","itertools.zip_longest","itertools.pairwise"].contains n=false) (hQ:Q () s):wpAny M A (letOwnedTupleGo tg (.ref it) u) Q E s:=by
 unfold letOwnedTupleGo
 cases tg <;> first
  | exact wpAny_pure hQ
  | (cases u <;> first
   | exact wpAny_pure hQ
   | (refine wpAny_bind (wpAny_load ho ?_)
      rw [hc,hd]
      show wpAny M A (if (["enumerate","zip","dict_itemiterator","dict_reverseitemiterator","odict_iterator","itertools.zip_longest","itertools.pairwise"].contains n&&vs[0]? == some (rawInt _))=true then _ else _) Q E s
      rw [if_neg (by intro h;rw [hn,Bool.false_and] at h;cases h)]
      exact wpAny_pure hQ))
def Itl (K:PySem.W.Frag) (a:Addr):It:=
 ⟨λi H=>∃xs x,SqL K H a xs/\xs[i]?=some x,λi H x H'=>H'=H/\∀xs,SqL K H a xs->xs[i]?=some x,λi H=>∃xs,SqL K H a xs/\xs.length<=i⟩
def Itt (K:PySem.W.Frag) (a:Addr):It:=
 ⟨λi H=>∃xs x,SqT K H a xs/\xs[i]?=some x,λi H x H'=>H'=H/\∀xs,SqT K H a xs->xs[i]?=some x,λi H=>∃xs,SqT K H a xs/\xs.length<=i⟩
def Itr (lo:Int) (n:Nat):It:=⟨λi _=>i<n,λi H x H'=>H'=H/\x=.int (lo+i),λi _=>n<=i⟩
theorem ak8 {P:Program} {w:World} {K:PySem.W.Frag} {tg:Expr} (a it:Addr):az5 P w K tg (Itl K a) [it] it (λi h=>h.IsListIter it a i) where
 mem:=by simp
 obj:=λi h st b hb=>by
  have e:b=it:=by simpa using hb
  subst e
  obtain⟨o,e,c,d⟩:=st
  exact⟨o,e,λv z=>by rw [d] at z;cases z⟩
 keep:=λi h h' st k=>st.at λo e=>k it (by simp) o e
 item:=by
  intro X hP hw hK hc i pins s σ H E I hf st hg
  subst hP hw hK
  obtain⟨xs,x,hq,hx⟩:=hg
  obtain⟨its,rv,p,hz⟩:=I.list hq
  obtain⟨u,hu,ru⟩:=rv.get hx
  obtain⟨f0,f1,f2,f3,f4,f5⟩:=hf it (by simp)
  refine wpAny_pyNext_list_item st p.isList (x:=u) (by simpa using hu) λh' st' sb=>?_
  have I1:Inv X pins σ H { s with heap:=h' }:=I.turned (t':=s.toks) (λb o hb e=>(sb.2 b hb).trans e) f0 f1 f3 f4 f5
  obtain⟨o,e,c,d⟩:=id st'
  exact⟨u,rfl,aP6 (s:={ s with heap:=h' }) e c d (by decide) ⟨x,H,I1,ru,⟨rfl,λys hy=>by rw [I.list_inj hy hq];exact hx⟩,st',λb hb=>(hf b hb).1⟩⟩
 done:=by
  intro X hP hw hK hc i pins s σ H E I hf st hg
  subst hP hw hK
  obtain⟨xs,hq,hx⟩:=hg
  obtain⟨its,rv,p,hz⟩:=I.list hq
  obtain⟨f0,f1,f2,f3,f4,f5⟩:=hf it (by simp)
  have hl:=rv.length
  exact wpAny_pyNext_list_end (I.ok.hd hc) st p.isList (by simp;omega) λh' eb=>⟨rfl,I.turned (t':=s.toks) (λb o hb e=>eb b o hb e) f0 f1 f3 f4 f5⟩
 self:=λ_ _ _ _ _ st h=>wpAny_pyIter_listiter st h
theorem ab2 {P:Program} {w:World} {K:PySem.W.Frag} {tg:Expr} (a it:Addr):az5 P w K tg (Itt K a) [it] it (λi h=>h.IsTupleIter it a i) where
 mem:=by simp
 obj:=λi h st b hb=>by
  have e:b=it:=by simpa using hb
  subst e
  obtain⟨o,e,c,d⟩:=st
  exact⟨o,e,λv z=>by rw [d] at z;cases z⟩
 keep:=λi h h' st k=>st.at λo e=>k it (by simp) o e
 item:=by
  intro X hP hw hK hc i pins s σ H E I hf st hg
  subst hP hw hK
  obtain⟨xs,x,hq,hx⟩:=hg
  obtain⟨its,rv,p,hz⟩:=I.tuple hq
  obtain⟨u,hu,ru⟩:=rv.get hx
  obtain⟨f0,f1,f2,f3,f4,f5⟩:=hf it (by simp)
  refine wpAny_pyNext_tuple_item st (show s.heap.IsTuple a its.toArray from p) (x:=u) (by simpa using hu) λh' st' sb=>?_
  have I1:Inv X pins σ H { s with heap:=h' }:=I.turned (t':=s.toks) (λb o hb e=>(sb.2 b hb).trans e) f0 f1 f3 f4 f5
  obtain⟨o,e,c,d⟩:=id st'
  exact⟨u,rfl,aP6 (s:={ s with heap:=h' }) e c d (by decide) ⟨x,H,I1,ru,⟨rfl,λys hy=>by rw [I.tuple_inj hy hq];exact hx⟩,st',λb hb=>(hf b hb).1⟩⟩
 done:=by
  intro X hP hw hK hc i pins s σ H E I hf st hg
  subst hP hw hK
  obtain⟨xs,hq,hx⟩:=hg
  obtain⟨its,rv,p,hz⟩:=I.tuple hq
  obtain⟨f0,f1,f2,f3,f4,f5⟩:=hf it (by simp)
  have hl:=rv.length
  exact wpAny_pyNext_tuple_end (I.ok.hd hc) st (show s.heap.IsTuple a its.toArray from p) (by simp;omega) λh' eb=>⟨rfl,I.turned (t':=s.toks) (λb o hb e=>eb b o hb e) f0 f1 f3 f4 f5⟩
 self:=λ_ _ _ _ _ st h=>wpAny_pyIter_tupleiter st h
theorem az6 {P:Program} {w:World} {K:PySem.W.Frag} {tg:Expr} (it:Addr) (lo:Int) (n:Nat):az5 P w K tg (Itr lo n) [it] it (λi h=>IsRangeIter h it (lo+(i:Nat)*1) ((n:Int) - (i:Nat)) 1) where
 mem:=by simp
 obj:=λi h st b hb=>by
  have e:b=it:=by simpa using hb
  subst e
  exact⟨_,st,λv z=>by
   have z':Data.fields _=Data.cell v:=z
   cases z'⟩
 keep:=λi h h' st k=>k it (by simp) _ st
 item:=by
  intro X hP hw hK hc i pins s σ H E I hf st hg
  subst hP hw hK
  obtain⟨f0,f1,f2,f3,f4,f5⟩:=hf it (by simp)
  have W:=Walks.range (prog:=X.prog) (w:=X.w) (I.ok.hd hc) it lo 1 n
  refine W.item i s _ _ hg st λv h' tk hv st' kk=>?_
  obtain⟨t,rfl⟩:=hv
  have I1:Inv X pins σ H { s with heap:=h',toks:=tk }:=I.turned (λb o hb e=>kk b o (by simpa using hb) e) f0 f1 f3 f4 f5
  refine⟨_,rfl,aP6 (s:={ s with heap:=h',toks:=tk }) (n:="range_iterator") st' rfl rfl (by decide) ⟨.int (lo+i),H,I1,⟨t,?_⟩,⟨rfl,rfl⟩,st',λb hb=>(hf b hb).1⟩⟩
  rw [Int.mul_one]
 done:=by
  intro X hP hw hK hc i pins s σ H E I hf st hg
  subst hP hw hK
  obtain⟨f0,f1,f2,f3,f4,f5⟩:=hf it (by simp)
  exact wpAny_pyNext_range_end (I.ok.hd hc) st (by have:n<=i:=hg;omega) λh' eb=>⟨rfl,I.turned (t':=s.toks) (λb o hb e=>eb b o hb e) f0 f1 f3 f4 f5⟩
 self:=λ_ _ _ _ _ st h=>wpAny_pyIter_rangeiter st h
section
variable {X:Cx} {tg:Expr}
def bh7 (K:PySem.W.Frag) (tl:TE):TI:=λσ H R=>tl σ H λx H1=>∃a,x=.ref a/\(∃xs,SqL K H1 a xs)/\R (Itl K a) H1
def bn3 (K:PySem.W.Frag) (tl:TE):TI:=λσ H R=>tl σ H λx H1=>∃a,x=.ref a/\(∃xs,SqT K H1 a xs)/\R (Itt K a) H1
theorem aZ9 {l:Expr} {tl:TE} (hl:PE X l tl):PI X tg l (bh7 X.K tl):=by
 intro pins s σ H R I h
 refine thn (hl pins s σ H _ I h) λv s1 ⟨x,H1,I1,r1,q1⟩=>?_
 obtain⟨a,e,⟨xs,hq⟩,q⟩:=q1
 subst e
 cases r1
 obtain⟨its,rv,p,hz⟩:=I1.list hq
 refine wpAny_pyIter_list p.isList ?_
 refine⟨s1.heap.objs.size,[s1.heap.objs.size],_,_,H1,rfl,I1.kept (t':=s1.toks) λb o e=>Heap.get?_push_of_some _ e,ak8 a _,⟨_,Heap.get?_push_size _ rfl,rfl,rfl⟩,λb hb=>?_,q⟩
 have e:b=s1.heap.objs.size:=by simpa using hb
 subst e
 exact I1.fpOk (Nat.le_refl _) (I1.hok.fresh (Nat.le_refl _))
theorem bb3 {l:Expr} {tl:TE} (hl:PE X l tl):PI X tg l (bn3 X.K tl):=by
 intro pins s σ H R I h
 refine thn (hl pins s σ H _ I h) λv s1 ⟨x,H1,I1,r1,q1⟩=>?_
 obtain⟨a,e,⟨xs,hq⟩,q⟩:=q1
 subst e
 cases r1
 obtain⟨its,rv,p,hz⟩:=I1.tuple hq
 refine wpAny_pyIter_tuple (show s1.heap.IsTuple a its.toArray from p) ?_
 refine⟨s1.heap.objs.size,[s1.heap.objs.size],_,_,H1,rfl,I1.kept (t':=s1.toks) λb o e=>Heap.get?_push_of_some _ e,ab2 a _,⟨_,Heap.get?_push_size _ rfl,rfl,rfl⟩,λb hb=>?_,q⟩
 have e:b=s1.heap.objs.size:=by simpa using hb
 subst e
 exact I1.fpOk (Nat.le_refl _) (I1.hok.fresh (Nat.le_refl _))
theorem aP7 {pins:List (Addr×Obj)} {σ:St} {H:Hp} {s:Shared} {R:It->Hp->Prop} {E:Value->Shared->Prop} {lo hi:Int} {t u v:Tok} {tk:Nat} (I:Inv X pins σ H s) (h1 : -(2 ^ 62)<=lo) (h2:lo<2 ^ 62) (h3 : -(2 ^ 62)<=hi) (h4:hi<2 ^ 62)
 (q:R (Itr lo (hi - lo).toNat) H):wpAny (model X.prog X.w) X.A (pyIter (.ref s.heap.objs.size)) (PIE X pins σ tg R) E { s with heap:=s.heap.push { cls:=.type "range",data:=.fields #[.int lo t,.int hi u,.int 1 v] },toks:=tk }:=by
 refine wpAny_pyIter_range (IsRange.new ..) (small_one h1 h2 h3 h4) ?_
 have I1:Inv X pins σ H { s with heap:=s.heap.push { cls:=.type "range",data:=.fields #[.int lo t,.int hi u,.int 1 v] },toks:=tk }:=I.kept λb o e=>Heap.get?_push_of_some _ e
 refine⟨(s.heap.push { cls:=.type "range",data:=.fields #[.int lo t,.int hi u,.int 1 v] }).objs.size,[(s.heap.push { cls:=.type "range",data:=.fields #[.int lo t,.int hi u,.int 1 v] }).objs.size],_,_,H,rfl,
  I1.kept (t':=tk) λb o e=>Heap.get?_push_of_some _ e,az6 _ lo (hi - lo).toNat,?_,λb hb=>?_,q⟩
 ·have e1:lo+((0:Nat):Int)*1=lo:=by simp
  have e2:(((hi - lo).toNat:Nat):Int) - ((0:Nat):Int)=Builtin.Range.rangeSize lo hi 1:=by rw [rangeSize_one];split <;> omega
  show IsRangeIter _ _ (lo+((0:Nat):Int)*1) ((((hi - lo).toNat:Nat):Int) - ((0:Nat):Int)) 1
  rw [e1,e2]
  exact Heap.get?_push_size _ rfl
 ·have e:b=(s.heap.push { cls:=.type "range",data:=.fields #[.int lo t,.int hi u,.int 1 v] }).objs.size:=by simpa using hb
  subst e
  exact I1.fpOk (Nat.le_refl _) (I1.hok.fresh (Nat.le_refl _))
def iRng1 (ta:TA):TI:=λσ H R=>ta σ H λvs H1=>∃j:Int,vs=[.int j]/\-(2 ^ 62)<=j/\j<2 ^ 62/\R (Itr 0 j.toNat) H1
theorem aJ5 {a:Expr} {ta:TA} {p pos:Pos} (hg:Gl X "range") (hm:X.mg "range" = none) (ha:PA X [a] ta) (hs:starEach [a] X.env=[(false,eval a X.env)]:=by rfl):PI X tg (.Call (.Name "range" p) [a] [] pos) (iRng1 ta):=by
 intro pins s σ H R I h
 refine Call_ (Q1 I hg hm boot_range (PyProof.Rows.callWith_type1 (thn (ha pos pins s σ H _ I h) λus s1 ⟨vs,H1,I1,r1,q1⟩=>?_) hs rfl))
 obtain⟨j,e,q1,q2,q⟩:=q1
 subst e
 cases r1 with
 | cons r rr=>
   cases rr
   obtain⟨t,rfl⟩:=r
   exact call_range_1 (aP7 I1 (by omega) (by omega) q1 q2 (by simpa using q))
def bn4 (wi:TI) (g:TG) (tb:TS):TS:=λD σ H=>wi σ H λJ H1=>∃W:Nat->Nat->St->Hp->Prop,(∃m,W 0 m σ H1)/\∀i m σ H,W i m σ H->
 (J.stop i H/\D.nx σ H)\/(J.go i H/\∃N:St->Hp->Prop,(∀σ' H',N σ' H'->∃m',m'<m/\W (i+1) m' σ' H')/\∀x H',J.yld i H x H'->g x σ H' λσ2 H2=>tb { D with nx:=N,ct:=N,bk:=D.nx } σ2 H2)
def ab3 (fp:List Addr) (h:Heap):List (Addr×Obj):=fp.filterMap λb=>(h.get? b).map λo=>(b,o)
theorem X1 {fp:List Addr} {h:Heap} {b:Addr} {o:Obj} (hb:b∈fp) (e:h.get? b=some o):(b,o)∈ab3 fp h:=List.mem_filterMap.mpr ⟨b,hb,by rw [e];rfl⟩
theorem aJ6 {fp:List Addr} {h:Heap} {p:Addr×Obj} (hp:p∈ab3 fp h):p.1∈fp/\h.get? p.1=some p.2:=by
 obtain⟨b,hb,e⟩:=List.mem_filterMap.mp hp
 cases q:h.get? b with
 | none=>rw [q] at e;cases e
 | some o=>
   rw [q] at e
   have e':(b,o)=p:=Option.some.inj e
   subst e'
   exact⟨hb,q⟩
theorem Inv.pinned {pins:List (Addr×Obj)} {σ:St} {H:Hp} {s:Shared} {fp:List Addr} (I:Inv X pins σ H s) (hf:∀b∈fp,k9 X pins H b) (ho:∀b∈fp,∃o,s.heap.get? b=some o/\∀v,o.data≠.cell v):Inv X (pins++ab3 fp s.heap) σ H s:=
 I.pins_of λp hp=>(List.mem_append.mp hp).elim (λz=>I.pin p (List.mem_append_right _ z)) λz=>by
  obtain⟨hb,e⟩:=aJ6 z
  obtain⟨f0,f1,f2,_⟩:=hf p.1 hb
  obtain⟨o,e',d⟩:=ho p.1 hb
  rw [e] at e';cases e'
  exact⟨e,f0,f1,f2,d⟩
theorem Inv.unpinned {pins pl:List (Addr×Obj)} {σ:St} {H:Hp} {s:Shared} (I:Inv X (pins++pl) σ H s):Inv X pins σ H s:=I.pins_of λp hp=>I.pin p (List.mem_append_right _ (List.mem_append_left _ hp))
theorem bb4 {iter:Expr} {body:List Stmt} {wi:TI} {g:TG} {tb:TS} {pos:Pos} (hp:PassesOwn (model X.prog X.w) X.A X.env X.xe) (hc:X.calm=true) (hi:PI X tg iter wi) (hg:PG X tg g) (hb:PSs X body tb)
 (hs:∀x,foldedSetIterable iter X.env x=pure x:=by intro _;rfl):PS X (.For tg iter body [] pos) (bn4 wi g tb):=by
 intro pins s σ H D I h
 refine wpAny_For (thn (hi pins s σ H _ I h) λv s1 h1=>thn h1 λitv s2 h2=>?_) hs
 obtain⟨it,fp,tn,J,H2,e,I2,T,st2,f2,W,⟨m0,w0⟩,turn⟩:=h2
 subst e
 have stat:∀{H':Hp},(∀b∈fp,H' b=none)->∀b∈fp,k9 X pins H' b:=λhn b hb=>⟨hn b hb,(f2 b hb).2⟩
 refine codeAny_forLoop_any (λn s'=>∃i σ' H',Inv X pins σ' H' s'/\tn i s'.heap/\(∀b∈fp,H' b=none)/\W i n σ' H') ?_ m0 ⟨0,σ,H2,I2,st2,λb hb=>(f2 b hb).1,w0⟩
 rintro n s3 ⟨i,σ3,H3,I3,st3,fr3,w3⟩
 rcases turn i n σ3 H3 w3 with ⟨stop,qn⟩ | ⟨go,N,hN,step⟩
 ·refine wpAny_passesOwn hp (thn (T.done X rfl rfl rfl hc i pins s3 σ3 H3 X.xe I3 (stat fr3) st3 stop) λr s4 ⟨hr,I4⟩=>?_)
  subst hr
  exact wpAny_execs_nil ⟨σ3,H3,I4,qn⟩
 ·refine wpAny_passesOwn hp (thn (T.item X rfl rfl rfl hc i pins s3 σ3 H3 X.xe I3 (stat fr3) st3 go) λr s4 ⟨u,hr,h4⟩=>?_)
  subst hr
  refine wpAny_passesOwn hp (thn h4 λ_ s5 ⟨x,H5,I5,r5,y5,st5,fr5⟩=>?_)
  have I5':=I5.pinned (stat fr5) (T.obj _ _ st5)
  refine wpAny_passesOwn hp (thn (hg _ s5 σ3 H5 x u _ I5' r5 (step x H5 y5)) λ_ s6 ⟨σ6,H6,I6,q6⟩=>?_)
  refine wpAny_passesOwn hp (thn (hb _ s6 σ6 H6 _ I6 q6) λf s7 q7=>?_)
  have again:∀{σ7:St} {H7:Hp},Inv X (pins++ab3 fp s5.heap) σ7 H7 s7->N σ7 H7->∃m,m<n/\∃i σ' H',Inv X pins σ' H' s7/\tn i s7.heap/\(∀b∈fp,H' b=none)/\W i m σ' H':=λ{σ7 H7} I7 n7=>by
   obtain⟨m',hm,w7⟩:=hN σ7 H7 n7
   refine⟨m',hm,i+1,σ7,H7,I7.unpinned,T.keep _ _ _ st5 λb hb o e=>(I7.pin (b,o) (List.mem_append_right _ (List.mem_append_right _ (X1 hb e)))).1,λb hb=>?_,w7⟩
   obtain⟨o,e,d⟩:=T.obj _ _ st5 b hb
   exact (I7.pin (b,o) (List.mem_append_right _ (List.mem_append_right _ (X1 hb e)))).2.1
  cases f with
  | next=>obtain⟨σ7,H7,I7,n7⟩:=q7;exact again I7 n7
  | cont=>obtain⟨σ7,H7,I7,n7⟩:=q7;exact again I7 n7
  | brk=>obtain⟨σ7,H7,I7,q7⟩:=q7;exact⟨σ7,H7,I7.unpinned,q7⟩
  | ret v=>obtain⟨x7,σ7,H7,I7,r7,q7⟩:=q7;exact⟨x7,σ7,H7,I7.unpinned,r7,q7⟩
end
abbrev R2:=V->V->Hp->VK->Prop
def OpR (X:Cx) (f:Value->Value->Sem Value) (r:R2):Prop:=
 ∀(pins:List (Addr×Obj)) (s:Shared) (σ:St) (H:Hp) (x y:V) (v u:Value) (Q:VK),Inv X pins σ H s->RelV x v->RelV y u->r x y H Q->
  wpAny (model X.prog X.w) X.A (f v u) (EP X pins σ Q) X.xe s
def UnR (X:Cx) (f:Value->Sem Value) (r:V->Hp->VK->Prop):Prop:=
 ∀(pins:List (Addr×Obj)) (s:Shared) (σ:St) (H:Hp) (x:V) (v:Value) (Q:VK),Inv X pins σ H s->RelV x v->r x H Q->
  wpAny (model X.prog X.w) X.A (f v) (EP X pins σ Q) X.xe s
def CallR (X:Cx) (f:Value) (r:List V->Hp->VK->Prop):Prop:=
 ∀(pins:List (Addr×Obj)) (s:Shared) (σ:St) (H:Hp) (xs:List V) (us:List Value) (Q:VK),Inv X pins σ H s->Vals xs us->r xs H Q->
  wpAny (model X.prog X.w) X.A (call f us) (EP X pins σ Q) X.xe s
def tOp (r:R2) (ta tb:TE):TE:=λσ H Q=>ta σ H λx H1=>tb σ H1 λy H2=>r x y H2 Q
def tUn (r:V->Hp->VK->Prop) (ta:TE):TE:=λσ H Q=>ta σ H λx H1=>r x H1 Q
def rI (C:Int->Int->Prop) (g:Int->Int->V):R2:=λx y H Q=>∃i j,x=.int i/\y=.int j/\C i j/\Q (g i j) H
def rI0 (g:Int->Int->V):R2:=λx y H Q=>∃i j,x=.int i/\y=.int j/\Q (g i j) H
def rU (g:Int->V):V->Hp->VK->Prop:=λx H Q=>∃i,x=.int i/\Q (g i) H
section
variable {X:Cx} {a b c:Expr} {ta tb tc:TE} {pos:Pos}
theorem bb5 (ha:PE X a ta) (hb:PE X b tb) {pins:List (Addr×Obj)} {s:Shared} {σ:St} {H:Hp} {R:V->V->Hp->Prop} (I:Inv X pins σ H s)
 (h:ta σ H λx H1=>tb σ H1 λy H2=>R x y H2) {Q:Value->Shared->Prop} {f:Value->Value->Sem Value}
 (hf:∀v u s2 x y H2,Inv X pins σ H2 s2->RelV x v->RelV y u->R x y H2->wpAny (model X.prog X.w) X.A (f v u) Q X.xe s2) :
 wpAny (model X.prog X.w) X.A (eval a X.env) (λv s₁=>wpAny (model X.prog X.w) X.A (eval b X.env) (λu s₂=>wpAny (model X.prog X.w) X.A (f v u) Q X.xe s₂) X.xe s₁) X.xe s:=by
 refine thn (ha pins s σ H _ I h) λv s1 ⟨x,H1,I1,r1,q1⟩=>?_
 refine thn (hb pins s1 σ H1 _ I1 q1) λu s2 ⟨y,H2,I2,r2,q2⟩=>?_
 exact hf v u s2 x y H2 I2 r1 r2 q2
theorem bh8 {op:Operator} {r:R2} (ho:OpR X (binaryOp op) r) (ha:PE X a ta) (hb:PE X b tb):PE X (.BinOp a op b pos) (tOp r ta tb):=by
 intro pins s σ H Q I h
 exact wpAny_BinOp (bb5 ha hb I h λv u s2 x y H2 I2 rx ry q=>ho pins s2 σ H2 x y v u Q I2 rx ry q)
theorem bh9 {op:UnaryOp} {r:V->Hp->VK->Prop} (ho:UnR X (unaryOp op) r) (ha:PE X a ta):PE X (.UnaryOp op a pos) (tUn r ta):=by
 intro pins s σ H Q I h
 exact UnaryOp_ (thn (ha pins s σ H _ I h) λv s1 ⟨x,H1,I1,r1,q1⟩=>ho pins s1 σ H1 x v Q I1 r1 q1)
theorem opI {f:Value->Value->Sem Value} {C:Int->Int->Prop} {g:Int->Int->Int}
 (rule:∀(i j:Int) (t u:Tok) (s:Shared) (Q:Value->Shared->Prop) (E:Value->Shared->Prop),C i j->Q (.int (g i j) s.toks) { s with toks:=s.toks+1 }->wpAny (model X.prog X.w) X.A (f (.int i t) (.int j u)) Q E s) :
 OpR X f (rI C λi j=>.int (g i j)):=by
 intro pins s σ H x y v u Q I rx ry h
 obtain⟨i,j,rfl,rfl,hc,q⟩:=h
 obtain⟨t,rfl⟩:=rx
 obtain⟨t',rfl⟩:=ry
 exact rule i j t t' s _ _ hc ⟨.int (g i j),H,I.tok _,⟨_,rfl⟩,q⟩
theorem bn5 {f:Value->Value->Sem Value} {g:Int->Int->Int}
 (rule:∀(i j:Int) (t u:Tok) (s:Shared) (Q:Value->Shared->Prop) (E:Value->Shared->Prop),Q (.int (g i j) s.toks) { s with toks:=s.toks+1 }->wpAny (model X.prog X.w) X.A (f (.int i t) (.int j u)) Q E s) :
 OpR X f (rI0 λi j=>.int (g i j)):=by
 intro pins s σ H x y v u Q I rx ry h
 obtain⟨i,j,rfl,rfl,q⟩:=h
 obtain⟨t,rfl⟩:=rx
 obtain⟨t',rfl⟩:=ry
 exact rule i j t t' s _ _ ⟨.int (g i j),H,I.tok _,⟨_,rfl⟩,q⟩
theorem a00 {f:Value->Value->Sem Value} {g:Int->Int->Bool}
 (rule:∀(i j:Int) (t u:Tok) (s:Shared) (Q:Value->Shared->Prop) (E:Value->Shared->Prop),Q (.bool (g i j)) s->wpAny (model X.prog X.w) X.A (f (.int i t) (.int j u)) Q E s) :
 OpR X f (rI0 λi j=>.bl (g i j)):=by
 intro pins s σ H x y v u Q I rx ry h
 obtain⟨i,j,rfl,rfl,q⟩:=h
 obtain⟨t,rfl⟩:=rx
 obtain⟨t',rfl⟩:=ry
 exact rule i j t t' s _ _ ⟨.bl (g i j),H,I,rfl,q⟩
def bi0 (i j:Int):Prop:=0<j/\j<1073741824
def CMul (i j:Int):Prop:=(-(2 ^ 64)<i/\i<2 ^ 64)\/(-(2 ^ 64)<j/\j<2 ^ 64)
theorem CMul.ok {i j:Int} (h:CMul i j):IntMulOk i j:=by
 rcases h with ⟨h1,h2⟩ | ⟨h1,h2⟩
 ·exact .of_left (intBits_le_64 h1 h2)
 ·exact .of_right (intBits_le_64 h1 h2)
theorem op_add:OpR X (binaryOp .Add) (rI0 λi j=>.int (i+j)):=bn5 λ_ _ _ _ _ _ _ q=>add_int q
theorem az7:OpR X (binaryOp .Mult) (rI CMul λi j=>.int (i*j)):=opI λ_ _ _ _ _ _ _ hc q=>mul_int q hc.ok
theorem ao9:OpR X (binaryOp .FloorDiv) (rI bi0 λi j=>.int (i / j)):=opI λi j _ _ _ _ _ hc q=>by
 have h1:(0:Int)<j:=hc.1
 have h2:j<1073741824:=hc.2
 exact floordiv_int (by omega) (by rw [Int.fdiv_eq_ediv_of_nonneg i (by omega)];exact q) (.inl (PyProof.noPylong_small (by omega)))
theorem op_mod:OpR X (binaryOp .Mod) (rI (λ_ j=>0<j) λi j=>.int (i%j)):=opI λi j _ _ _ _ _ hc q=>by
 have h1:(0:Int)<j:=hc
 exact mod_int' (by omega) (by rw [Int.fmod_eq_emod_of_nonneg i (by omega)];exact q)
theorem unI {f:Value->Sem Value} {g:Int->Int}
 (rule:∀(i:Int) (t:Tok) (s:Shared) (Q:Value->Shared->Prop) (E:Value->Shared->Prop),Q (.int (g i) s.toks) { s with toks:=s.toks+1 }->wpAny (model X.prog X.w) X.A (f (.int i t)) Q E s) :
 UnR X f (rU λi=>.int (g i)):=by
 intro pins s σ H x v Q I rx h
 obtain⟨i,rfl,q⟩:=h
 obtain⟨t,rfl⟩:=rx
 exact rule i t s _ _ ⟨.int (g i),H,I.tok _,⟨_,rfl⟩,q⟩
theorem bb6:UnR X (unaryOp .USub) (rU λi=>.int (-i)):=unI λ_ _ _ _ _ q=>neg_int q
theorem ab4:OpR X (compareOp .Lt) (rI0 λi j=>.bl (decide (i<j))):=a00 λ_ _ _ _ _ _ _ q=>lt_int q
theorem aP8:OpR X (compareOp .LtE) (rI0 λi j=>.bl (decide (i<=j))):=a00 λ_ _ _ _ _ _ _ q=>le_int q
theorem bi1:OpR X (compareOp .Gt) (rI0 λi j=>.bl (decide (j<i))):=a00 λ_ _ _ _ _ _ _ q=>gt_int q
theorem bi2:OpR X (compareOp .GtE) (rI0 λi j=>.bl (decide (j<=i))):=a00 λ_ _ _ _ _ _ _ q=>ge_int q
theorem OpR.or {f:Value->Value->Sem Value} {r r':R2} (h:OpR X f r) (h':OpR X f r'):OpR X f (λx y H Q=>r x y H Q\/r' x y H Q):=by
 intro pins s σ H x y v u Q I rx ry q
 rcases q with q | q
 ·exact h pins s σ H x y v u Q I rx ry q
 ·exact h' pins s σ H x y v u Q I rx ry q
theorem E8 (b:Expr) {op:CmpOp} (h:op≠.In:=by decide) (h2:op≠.NotIn:=by decide):behindInMarks op b=false:=by
 have e1:(op == CmpOp.In)=false:=by cases op <;> first | rfl | exact absurd rfl h
 have e2:(op == CmpOp.NotIn)=false:=by cases op <;> first | rfl | exact absurd rfl h2
 cases b <;> simp [behindInMarks,e1,e2]
theorem a01 {op:CmpOp} {r:R2} (ho:OpR X (compareOp op) r) (ha:PE X a ta) (hb:PE X b tb) (hm:behindInMarks op b=false):PE X (.Compare a [op] [b] pos) (tOp r ta tb):=by
 intro pins s σ H Q I h
 exact wpAny_Compare1 (bb5 ha hb I h λv u s2 x y H2 I2 rx ry q=>ho pins s2 σ H2 x y v u Q I2 rx ry q) hm
def a76 (t:TE):TT:=λσ H Q=>t σ H λx H'=>∃k,x=.bl k/\Q k H'
theorem a02 {op:CmpOp} {r:R2} (ho:OpR X (compareOp op) r) (ha:PE X a ta) (hb:PE X b tb) (hm:behindInMarks op b=false):PT X (.Compare a [op] [b] pos) (a76 (tOp r ta tb)):=by
 intro pins s σ H Q I h
 refine wpAny_isTrue_Compare1 (thn (ha pins s σ H _ I h) λv s1 ⟨x,H1,I1,r1,q1⟩=>thn (hb pins s1 σ H1 _ I1 q1) λu s2 ⟨y,H2,I2,r2,q2⟩=>
  thn (ho pins s2 σ H2 x y v u _ I2 r1 r2 q2) λc s3 ⟨z,H3,I3,r3,k,e,q3⟩=>?_) hm
 subst e
 cases r3
 exact wpAny_truthy_bool ⟨H3,I3,q3⟩
def aP9 (r r':R2) (ta tb tc:TE):TE:=λσ H Q=>ta σ H λx H1=>tb σ H1 λy H2=>r x y H2 λz H3=>∃k,z=.bl k/\
 (if k=true then tc σ H3 λw' H4=>r' y w' H4 Q else Q (.bl false) H3)
theorem aQ0 {op op':CmpOp} {r r':R2} (ho:OpR X (compareOp op) r) (ho':OpR X (compareOp op') r') (ha:PE X a ta) (hb:PE X b tb) (hc:PE X c tc)
 (hm:lastMarks [op,op'] [b,c]=false:=by with_unfolding_all rfl):PE X (.Compare a [op,op'] [b,c] pos) (aP9 r r' ta tb tc):=by
 intro pins s σ H Q I h
 refine Compare_chain (thn (ha pins s σ H _ I h) λv s1 ⟨x,H1,I1,r1,q1⟩=>chain_link (thn (hb pins s1 σ H1 _ I1 q1) λu s2 ⟨y,H2,I2,r2,q2⟩=>
  thn (ho pins s2 σ H2 x y v u _ I2 r1 r2 q2) λd s3 ⟨z,H3,I3,r3,k,e,q3⟩=>?_)) hm
 subst e
 cases r3
 refine wpAny_truthy_bool ?_
 cases k with
 | false=>exact ite_ff ⟨.bl false,H3,I3,rfl,q3⟩
 | true=>exact ite_tt (chain_last (thn (hc pins s3 σ H3 _ I3 q3) λw' s4 ⟨z',H4,I4,r4,q4⟩=>ho' pins s4 σ H4 y z' u w' Q I4 r2 r4 q4))
theorem az8:(sizeLine:Nat)<2 ^ 63:=by rw [sizeLine_eq];decide
theorem g7 {x:V} {us:List Value} (r:Vals [x] us):∃u,us=[u]/\RelV x u:=by
 cases r with
 | cons r1 r2=>cases r2;exact⟨_,rfl,r1⟩
theorem aQ1 {x y:V} {us:List Value} (r:Vals [x,y] us):∃u w',us=[u,w']/\RelV x u/\RelV y w':=by
 cases r with
 | cons r1 r2=>
   cases r2 with
   | cons r3 r4=>cases r4;exact⟨_,_,rfl,r1,r3⟩
end
structure ObjM (h:Heap) (x dx C:Addr) (mA:Str->Option Value):Prop where
 obj:h.get? x=some (PySem.W.instObj C dx)
 ns:h.Ns1 dx mA
 ne:dx≠x
theorem aJ7 {h:Heap} {dx:Addr} {mA:Str->Option Value} (n:h.Ns1 dx mA):∃od,h.get? dx=some od/\∀name,PySem.W.lookIn name od=some (mA name):=by
 obtain⟨o,es,ep,ho,hd,hk,_,hm⟩:=n
 refine⟨o,ho,λname=>?_⟩
 have e:=hm name
 unfold nsFind findBy at e
 rw [←Array.find?_toList] at e
 unfold PySem.W.lookIn
 rw [hd]
 dsimp only
 split
 ·rename_i y q
  rw [q] at e
  exact congrArg some e
 ·rename_i q
  rw [q] at e
  have a:es.toList.any (·.refKey)=false:=by
   rw [List.any_eq_false]
   intro y hy
   obtain⟨z,t,hkey⟩:=hk y (Array.mem_toList_iff.mp hy)
   simp [DictEntry.refKey,hkey]
  have a':¬es.toList.any (·.refKey)=true:=by rw [a];exact Bool.false_ne_true
  rw [if_neg a']
  exact congrArg some e
theorem ObjM.look {h:Heap} {x dx C:Addr} {mA:Str->Option Value} (I:ObjM h x dx C mA):∃od,PySem.W.InstAt h x (PySem.W.instObj C dx) C (some od)/\∀name,PySem.W.lookIn name od=some (mA name):=
 let ⟨od,ho,hl⟩:=aJ7 I.ns
 ⟨od,⟨I.obj,rfl,rfl,ho⟩,hl⟩
section
variable {prog:Program} {w:World} {A:Around} {E:Value->Shared->Prop} {s:Shared} {K:PySem.W.Frag} {x dx C f:Addr} {mA:Str->Option Value} {name:Str} {v:Value}
theorem a03 {expr:Bool} {Q:Value->Shared->Prop} (X:K.In s.heap) (I:ObjM s.heap x dx C mA) (hg:PySem.W.plainGet K C name=true) (hh:PySem.W.hasDictIn K C=true)
 (ha:PySem.W.findIn K (.ref C) name=some none) (hv:mA name=some v) (hv':PySem.W.handedIn v=true) (h:Q v { s with toks:=s.toks+1 }) :
 wpAny (model prog w) A (getAttr (.ref x) name expr) Q E s:=by
 obtain⟨od,J,hl⟩:=I.look
 exact PySem.W.get_value X J (PySem.W.plainGet_of hg).1 (PySem.W.findObj_own hh ha rfl (by rw [hl,hv])) hv' h
theorem aQ2 {pl:Sem Bool} {Q:Value×List Value->Shared->Prop} (X:K.In s.heap) (I:ObjM s.heap x dx C mA) (hg:PySem.W.plainGet K C name=true)
 (hf:PySem.W.findIn K (.ref C) name=some (some (.ref f))) (ht:PySem.W.isFn K (.ref f)=true) (hv:mA name=none) (h:Q (.ref f,[.ref x]) s) :
 wpAny (model prog w) A (getMethod (.ref x) name pl) Q E s:=by
 obtain⟨od,J,hl⟩:=I.look
 exact PySem.W.method_fn X J (PySem.W.plainGet_of hg).1 (PySem.W.plainGet_of hg).2 hf (beq_iff_eq.mp ht) (by show (PySem.W.lookIn name od).map (·.isSome)=some false;rw [hl,hv];rfl) h
theorem a04 {ns:List Str} {Q:Unit->Shared->Prop} (X:K.In s.heap) (I:ObjM s.heap x dx C mA)
 (hs:PySem.W.findIn K (.ref C) "__setattr__" = some (some (.builtin "object.__setattr__"))) (hp:PySem.W.plainOver K C=true) (ht:PySem.W.takerIn K C name=some none) (hh:PySem.W.hasDictIn K C=true)
 (hw:PySem.Within mA ns) (hsz:ns.length<=sizeLine)
 (h:∀h',ObjM h' x dx C (λy=>if y=name then some v else mA y)->Heap.SameBut dx s.heap h'->Q () { s with heap:=h',toks:=s.toks+2 }) :
 wpAny (model prog w) A (setAttr (.ref x) name v) Q E s:=by
 obtain⟨od,J,hl⟩:=I.look
 refine PySem.W.set_plain X J hs (PySem.W.osa_open (s:={ s with toks:=s.toks+1 }) (r:=none) X J hp ht λb=>?_)
 obtain⟨cd,hc,hd'⟩:=PySem.W.any_some hh
 have hx:s.heap.get? x=some ⟨.ref C,some dx,.plain,#[]⟩:=I.obj
 refine wpAny_bind (wpAny_pure (wpAny_bind (wpAny_bind (wpAny_loadPart hx (wpAny_bind (PySem.W.Looks.here (s:={ s with toks:=s.toks+1 }) (PySem.W.looks_clsIn X hc) ?_))))))
 rw [hd']
 refine wpAny_pure (a:=some dx) (wpAny_bind (wpAny_pure (wpAny_bind ?_)))
 refine wpAny_nsSet1 (s:={ s with toks:=s.toks+1 }) I.ns λh' hn2 hs2=>?_
 obtain⟨oD,esD,epD,hoD,hdD,hcD⟩:=hn2.count (PySem.Within.cons name v hw)
 refine wpAny_bind (wpAny_lookBehind hoD (by rw [hdD];exact pastItsLine_dict (Nat.le_trans hcD (by rw [List.length_cons];omega))) ?_)
 exact wpAny_pure (h _ ⟨(hs2.2 _ (Ne.symm I.ne)).trans I.obj,hn2,I.ne⟩ hs2)
theorem aQ3 {R:Result->Shared->Prop} {vs:List Value} {kw:List (Str×Value)} (X:K.In s.heap) (hm:PySem.W.makesIn K C=true)
 (hi:PySem.W.findIn K (.ref C) "__init__" = some (some (.ref f))) (hf:PySem.W.typeIn K (.ref f)=some (.type "function"))
 (h:codeAny (model prog w) (A.under (.builtin "type.__call__" ⟨.ref C::vs,kw⟩)) (.call (.ref f) ⟨.ref (s.heap.objs.size+1)::vs,kw⟩) (PySem.W.InitBack (s.heap.objs.size+1) R)
  { s with heap:=(s.heap.push PySem.W.emptyDict).push (PySem.W.instObj C s.heap.objs.size) }) :
 codeAny (model prog w) A (.call (.ref C) ⟨vs,kw⟩) R s:=by
 obtain⟨hh,g,d,t,os⟩:=s
 exact PySem.W.make_core (PySem.W.makes_of X hm) (PySem.W.looks_findIn X hi) (λself=>PySem.W.bind_fn X self hf) (.inl rfl) h
end
def U2 (f:Str) (v:V):List (Str×V)->List (Str×V)
 | []=>[(f,v)]
 | (g,x)::r=>if g=f then (g,v)::r else (g,x)::U2 f v r
theorem w8 (f g:Str) (v:V):∀fs:List (Str×V),(U2 f v fs).lookup g=if g=f then some v else fs.lookup g
 | []=>by
   show List.lookup g [(f,v)]=_
   by_cases h:g=f
   ·have hb:(g == f)=true:=beq_iff_eq.mpr h
    simp only [List.lookup,hb,if_pos h]
   ·have hb:(g == f)=false:=beq_eq_false_iff_ne.mpr h
    simp only [List.lookup,hb,if_neg h]
 | (k,x)::r=>by
   have ih:=w8 f g v r
   rw [show U2 f v ((k,x)::r)=(if k=f then (k,v)::r else (k,x)::U2 f v r) from rfl]
   by_cases hk:k=f
   ·rw [if_pos hk]
    by_cases h:g=k
    ·have hb:(g == k)=true:=beq_iff_eq.mpr h
     simp only [List.lookup,hb,if_pos (h.trans hk)]
    ·have hb:(g == k)=false:=beq_eq_false_iff_ne.mpr h
     simp only [List.lookup,hb,if_neg (λe:g=f=>h (e.trans hk.symm))]
   ·rw [if_neg hk]
    by_cases h:g=k
    ·have hb:(g == k)=true:=beq_iff_eq.mpr h
     simp only [List.lookup,hb,if_neg (λe:g=f=>hk (h.symm.trans e))]
    ·have hb:(g == k)=false:=beq_eq_false_iff_ne.mpr h
     simp only [List.lookup,hb]
     exact ih
theorem s8 (f:Str) (v:V):∀fs:List (Str×V),f∈(U2 f v fs).map (·.1)/\∀g,g∈fs.map (·.1)->g∈(U2 f v fs).map (·.1)
 | []=>⟨by simp [U2],λg h=>by simp at h⟩
 | (k,x)::r=>by
   obtain⟨i1,i2⟩:=s8 f v r
   rw [show U2 f v ((k,x)::r)=(if k=f then (k,v)::r else (k,x)::U2 f v r) from rfl]
   by_cases hk:k=f
   ·rw [if_pos hk]
    subst hk
    exact⟨by simp,λg h=>by simpa using h⟩
   ·rw [if_neg hk]
    refine⟨?_,λg h=>?_⟩
    ·rw [List.map_cons]
     exact List.mem_cons_of_mem _ i1
    ·rw [List.map_cons] at h ⊢
     rcases List.mem_cons.mp h with e | e
     ·exact List.mem_cons.mpr (.inl e)
     ·exact List.mem_cons_of_mem _ (i2 g e)
theorem w9 (f:Str) (v:V):∀fs:List (Str×V),(U2 f v fs).length<=fs.length+1
 | []=>by simp [U2]
 | (k,x)::r=>by
   have ih:=w9 f v r
   rw [show U2 f v ((k,x)::r)=(if k=f then (k,v)::r else (k,x)::U2 f v r) from rfl]
   by_cases hk:k=f
   ·rw [if_pos hk,List.length_cons,List.length_cons];omega
   ·rw [if_neg hk,List.length_cons,List.length_cons];omega
theorem RelO.some_of {v:V} {o:Option Value} (r:RelO (some v) o):∃u,o=some u/\RelV v u:=by
 cases o with
 | none=>exact (show False from r).elim
 | some u=>exact⟨u,rfl,r⟩
theorem RelO.none_of {o:Option Value} (r:RelO none o):o=none:=by
 cases o with
 | none=>rfl
 | some u=>exact (show False from r).elim
theorem aJ8 {v:V} {u:Value} (r:RelV v u):PySem.W.handedIn u=true:=by
 cases v with
 | non=>cases (show u=Value.none from r);rfl
 | bl b=>cases (show u=Value.bool b from r);rfl
 | int i=>obtain⟨t,e⟩:=(show ∃t,u=Value.int i t from r);cases e;rfl
 | str x=>obtain⟨t,e⟩:=(show ∃t,u=Value.str x t from r);cases e;rfl
 | byt b=>obtain⟨t,e⟩:=(show ∃t,u=Value.bytes b t from r);cases e;rfl
 | flt b=>obtain⟨t,e⟩:=(show ∃t,u=Value.float b t from r);cases e;rfl
 | ref a=>cases (show u=Value.ref a from r);rfl
 | ty n=>cases (show u=Value.type n from r);rfl
section
variable {P:Program} {w:World} {H H':Hp} {h h':Heap} {a C dx:Addr} {fs fs':List (Str×V)}
theorem aa4 (hok:HOk P w H h) (e:H a=some (.ins C dx fs)):∃mA,ObjM h a dx C mA/\(∀f,RelO (fs.lookup f) (mA f))/\PySem.Within mA (fs.map (·.1))/\fs.length<=1000/\H dx=some (.own a):=by
 obtain⟨d,z,ne,ob,mA,n,r,q⟩:=(show ObjOk P w H h a (.ins C dx fs) from hok a _ e)
 exact⟨mA,⟨ob,n,ne⟩,r,q,z,d⟩
end
structure Cls (K:PySem.W.Frag) (C:Addr):Prop where
 pg:PySem.W.plainGet K C Str.empty=true
 hd:PySem.W.hasDictIn K C=true
 po:PySem.W.plainOver K C=true
 sa:PySem.W.findIn K (.ref C) "__setattr__" = some (some (.builtin "object.__setattr__"))
theorem Cls.get {K:PySem.W.Frag} {C:Addr} (c:Cls K C) (f:Str):PySem.W.plainGet K C f=true:=c.pg
def NoAttr (K:PySem.W.Frag) (C:Addr) (f:Str):Prop:=PySem.W.findIn K (.ref C) f=some none
theorem NoAttr.taker {K:PySem.W.Frag} {C:Addr} {f:Str} (n:NoAttr K C f):PySem.W.takerIn K C f=some none:=by
 unfold PySem.W.takerIn
 rw [show PySem.W.findIn K (.ref C) f=some none from n]
 rfl
structure aJ9 (K:PySem.W.Frag) (C:Addr) (m:Str) (f:Addr):Prop where
 at_:PySem.W.findIn K (.ref C) m=some (some (.ref f))
 fn:PySem.W.isFn K (.ref f)=true
 kp:PySem.W.keepIn K (.ref f)=true
section
variable {X:Cx} {pins:List (Addr×Obj)} {σ:St} {H:Hp} {s:Shared} {a C dx:Addr} {fs:List (Str×V)} {f:Str} {v:V} {A:Around} {E:Value->Shared->Prop}
theorem az9 {b:Bool} {Q:Value->Shared->Prop} (I:Inv X pins σ H s) (e:H a=some (.ins C dx fs)) (c:Cls X.K C) (n:NoAttr X.K C f) (l:fs.lookup f=some v)
 (h:∀u s',Inv X pins σ H s'->RelV v u->Q u s'):wpAny (model X.prog X.w) A (getAttr (.ref a) f b) Q E s:=by
 obtain⟨mA,O,r,_,_,_⟩:=aa4 I.hok e
 obtain⟨u,hu,ru⟩:=RelO.some_of (v:=v) (o:=mA f) (by rw [←l];exact r f)
 exact a03 I.kIn O (c.get f) c.hd n hu (aJ8 ru) (h u _ (I.tok _) ru)
theorem ab5 {m:Str} {g:Addr} {pl:Sem Bool} {Q:Value×List Value->Shared->Prop} (I:Inv X pins σ H s) (e:H a=some (.ins C dx fs)) (c:Cls X.K C) (k:aJ9 X.K C m g) (l:fs.lookup m=none)
 (h:Q (.ref g,[.ref a]) s):wpAny (model X.prog X.w) A (getMethod (.ref a) m pl) Q E s:=by
 obtain⟨mA,O,r,_,_,_⟩:=aa4 I.hok e
 have hn:mA m=none:=RelO.none_of (by rw [←l];exact r m)
 exact aQ2 I.kIn O (c.get m) k.at_ k.fn hn h
theorem aA0 {y:V} {u:Value} {Q:Unit->Shared->Prop} (I:Inv X pins σ H s) (e:H a=some (.ins C dx fs)) (c:Cls X.K C) (n:NoAttr X.K C f) (hl:fs.length<1000) (ry:RelV y u)
 (h:∀s',Inv X pins σ (upd H a (.ins C dx (U2 f y fs))) s'->Q () s'):wpAny (model X.prog X.w) A (setAttr (.ref a) f u) Q E s:=by
 obtain⟨mA,O,r,wi,_,ho⟩:=aa4 I.hok e
 have hz:(fs.map (·.1)).length<=sizeLine:=by rw [List.length_map,sizeLine_eq];omega
 refine a04 I.kIn O c.sa c.po n.taker c.hd wi hz λh' O' sb=>h _ ?_
 have hd:∃o,h'.get? dx=some o:=let ⟨o,_,_,e',_⟩:=O'.ns;⟨o,e'⟩
 refine I.write (x:=a) (e:=dx) (by rw [e];exact True.intro) (.inr ho) (λb q hb z=>(sb.2 b hb).trans z) hd ?_
 refine⟨by rw [D4 O.ne];exact ho,?_,O.ne,O'.obj,_,O'.ns,λg=>?_,λg hg=>?_⟩
 ·have:=w9 f y fs;omega
 ·show RelO ((U2 f y fs).lookup g) (if g=f then some u else mA g)
  rw [w8]
  by_cases q:g=f
  ·rw [if_pos q,if_pos q];exact ry
  ·rw [if_neg q,if_neg q];exact r g
 ·by_cases q:g=f
  ·rw [q];exact (s8 f y fs).1
  ·refine (s8 f y fs).2 g (wi g λz=>hg ?_)
   show (if g=f then some u else mA g)=none
   rw [if_neg q];exact z
theorem Inv.made (I:Inv X pins σ H s):Inv X pins σ (upd (upd H s.heap.objs.size (.own (s.heap.objs.size+1))) (s.heap.objs.size+1) (.ins C s.heap.objs.size []))
 { s with heap:=(s.heap.push PySem.W.emptyDict).push (PySem.W.instObj C s.heap.objs.size) }:=by
 have e1:(s.heap.push PySem.W.emptyDict).get? s.heap.objs.size=some PySem.W.emptyDict:=Heap.get?_push_size s.heap rfl
 have e2:((s.heap.push PySem.W.emptyDict).push (PySem.W.instObj C s.heap.objs.size)).get? (s.heap.objs.size+1)=some (PySem.W.instObj C s.heap.objs.size):=by
  have:=Heap.get?_push_size (s.heap.push PySem.W.emptyDict) (o:=PySem.W.instObj C s.heap.objs.size) rfl
  rwa [Heap.size_push] at this
 have e3:(s.heap.push PySem.W.emptyDict).Ns s.heap.objs.size (λ_=>none):=⟨PySem.W.emptyDict,#[],_,e1,rfl,(λe he=>absurd he (by simp)),λ_=>rfl⟩
 have I1:=I.laid (a:=s.heap.objs.size) (o:=.own (s.heap.objs.size+1)) (h':=s.heap.push PySem.W.emptyDict) (t':=s.toks) (λb u q=>Heap.get?_push_of_some _ q) (Nat.le_refl _) ⟨_,e1⟩
 refine I1.laid (a:=s.heap.objs.size+1) (o:=.ins C s.heap.objs.size []) (t':=s.toks) (λb u q=>Heap.get?_push_of_some _ q) (Nat.le_of_eq (Heap.size_push _ _)) ?_
 have ne:s.heap.objs.size≠s.heap.objs.size+1:=Nat.ne_of_lt (Nat.lt_succ_self _)
 refine⟨by rw [D4 ne,D2],Nat.zero_le _,ne,e2,λ_=>none,(Heap.Ns1.of_empty e3).at λo q=>Heap.get?_push_of_some _ q,λ_=>True.intro,λy hy=>absurd rfl hy⟩
theorem a05 {prog:Program} {w:World} {env:Env} {e:Expr} {f:Str} {pos:Pos} {s:Shared} {Q:Value->Shared->Prop} (hb:attributeBase e f env (eval e env)=eval e env)
 (h:wpAny (model prog w) A (eval e env) (λo s₁=>wpAny (model prog w) A (getAttr o f true) Q E s₁) E s):wpAny (model prog w) A (eval (.Attribute e f pos) env) Q E s:=
 Attribute_any_ h (by rw [arm_eval_Attribute,hb])
end
def bn6 (K:PySem.W.Frag) (ta:TE) (f:Str):TE:=λσ H Q=>ta σ H λx H1=>∃a C dx fs v,x=.ref a/\H1 a=some (.ins C dx fs)/\Cls K C/\NoAttr K C f/\fs.lookup f=some v/\Q v H1
def sFld (K:PySem.W.Frag) (ta tv:TE) (f:Str):TS:=λD σ H=>tv σ H λy H1=>ta σ H1 λx H2=>∃a C dx fs,x=.ref a/\H2 a=some (.ins C dx fs)/\Cls K C/\NoAttr K C f/\fs.length<1000/\
 D.nx σ (upd H2 a (.ins C dx (U2 f y fs)))
section
variable {X:Cx} {o e value:Expr} {f:Str} {pos pos' tpos:Pos} {ta tv:TE}
theorem bb7 (he:PE X e ta) (hb:attributeBase e f X.env (eval e X.env)=eval e X.env):PE X (.Attribute e f pos) (bn6 X.K ta f):=by
 intro pins s σ H Q I h
 refine a05 hb (thn (he pins s σ H _ I h) λu s1 ⟨x,H1,I1,rx,a,C,dx,fs,v,ex,ea,c,n,l,q⟩=>?_)
 subst ex
 obtain rfl:u=Value.ref a:=rx
 exact az9 I1 ea c n l λu' s2 I2 ru=>⟨v,H1,I2,ru,q⟩
theorem bb8 (ha:PE X o ta) (hv:PE X value tv) (hs:swapsWith value (some (.Attribute o f pos')) pos.line X.env=pure false):PS X (.Assign [.Attribute o f pos'] value pos) (sFld X.K ta tv f):=by
 intro pins s σ H D I h
 refine plainObj_wpAny_Assign_Attribute (thn (hv pins s σ H _ I h) λu s1 ⟨y,H1,I1,ry,q⟩=>thn (ha pins s1 σ H1 _ I1 q) λov s2 ⟨x,H2,I2,rx,a,C,dx,fs,ex,ea,c,n,l,q2⟩=>?_) hs
 subst ex
 obtain rfl:ov=Value.ref a:=rx
 exact aA0 I2 ea c n l ry λs3 I3=>⟨σ,_,I3,q2⟩
end
section
variable {X:Cx} {pins:List (Addr×Obj)} {σ:St} {H:Hp} {s:Shared} {A:Around} {E:Value->Shared->Prop} {Q:Value->Shared->Prop} {c:Value} {b:Bool}
inductive l4 (K:PySem.W.Frag) (H:Hp):V->Value->Prop where
 | non:l4 K H .non (.type "NoneType")
 | bl (x:Bool):l4 K H (.bl x) (.type "bool")
 | int (i:Int):l4 K H (.int i) (.type "int")
 | str (x:Str):l4 K H (.str x) (.type "str")
 | flt (x:UInt64):l4 K H (.flt x) (.type "float")
 | lst {a:Addr} {xs:List V} (e:H a=some (.lst xs)):l4 K H (.ref a) (.type "list")
 | frz {a:Addr} {o:Obj} {xs:List V} (e:H a=some (.frz o (.lst xs))):l4 K H (.ref a) (.type "list")
 | tup {a:Addr} {xs:List V} (e:H a=some (.tup xs)):l4 K H (.ref a) (.type "tuple")
 | dK {a:Addr} {kvs:List (Key×V)} (e:H a=some (.dK kvs)):l4 K H (.ref a) (.type "dict")
 | dT {a:Addr} {kvs:List (List Key×V)} (e:H a=some (.dT kvs)):l4 K H (.ref a) (.type "dict")
 | ins {a C dx:Addr} {fs:List (Str×V)} (e:H a=some (.ins C dx fs)) (cl:Cls K C) (ha:PySem.W.findIn K (.ref C) "__class__" = some (some (.builtin "object.__class__")))
  (hn:PySem.W.specialIn K (.builtin "object.__class__") "__get__" = some (some (.builtin "getset_descriptor.__get__"))) (htk:PySem.W.takesIn K (.builtin "object.__class__")=some true)
  (hm:PySem.W.mroIn K C (.type "object")=some true):l4 K H (.ref a) (.ref C)
theorem ak9 {x:V} {u t:Value} (I:Inv X pins σ H s) (rx:RelV x u) (ty:l4 X.K H x t) (e:PySem.W.kitOne X.K t c=some b) (h:∀tk,Q (.bool b) { s with toks:=tk }) :
 wpAny (model X.prog X.w) A (call (.builtin "isinstance") [u,c]) Q E s:=by
 cases ty with
 | non=>cases (show u=Value.none from rx);exact PySem.W.kia_one PySem.W.kitx_none I.kIn True.intro e (λz=>nomatch z) h
 | bl y=>cases (show u=Value.bool y from rx);exact PySem.W.kia_one PySem.W.kitx_bool I.kIn True.intro e (λz=>nomatch z) h
 | int i=>obtain⟨t,q⟩:=(show ∃t,u=Value.int i t from rx);cases q;exact PySem.W.kia_one PySem.W.kitx_int I.kIn True.intro e (λz=>nomatch z) h
 | str y=>obtain⟨t,q⟩:=(show ∃t,u=Value.str y t from rx);cases q;exact PySem.W.kia_one PySem.W.kitx_str I.kIn True.intro e (λz=>nomatch z) h
 | flt y=>obtain⟨t,q⟩:=(show ∃t,u=Value.float y t from rx);cases q;exact PySem.W.kia_one PySem.W.kitx_float I.kIn True.intro e (λz=>nomatch z) h
 | @lst a xs ea=>
   cases (show u=Value.ref a from rx)
   obtain⟨_,_,n,_,h1⟩:=(show ObjOk X.prog X.w H s.heap a (.lst xs) from I.hok a _ ea)
   exact PySem.W.kia_one PySem.W.kitx_list I.kIn ⟨_,h1,rfl⟩ e (λz=>nomatch z) h
 | @frz a ob xs ea=>
   cases (show u=Value.ref a from rx)
   obtain⟨_,_,_,n,_,h1⟩:=(show ObjOk X.prog X.w H s.heap a (.frz ob (.lst xs)) from I.hok a _ ea)
   exact PySem.W.kia_one PySem.W.kitx_list I.kIn ⟨_,h1,rfl⟩ e (λz=>nomatch z) h
 | @tup a xs ea=>
   cases (show u=Value.ref a from rx)
   obtain⟨_,_,_,p⟩:=(show ObjOk X.prog X.w H s.heap a (.tup xs) from I.hok a _ ea)
   obtain⟨o,h1,h2,_⟩:=p
   exact PySem.W.kia_one PySem.W.kitx_tuple I.kIn ⟨o,h1,h2⟩ e (λz=>nomatch z) h
 | @dK a kvs ea=>
   cases (show u=Value.ref a from rx)
   obtain⟨_,_,vs,_,p⟩:=(show ObjOk X.prog X.w H s.heap a (.dK kvs) from I.hok a _ ea)
   obtain⟨o,es,ep,h1,h2,_⟩:=p
   exact PySem.W.kia_one PySem.W.kitx_dict I.kIn ⟨o,h1,h2.1⟩ e (λz=>nomatch z) h
 | @dT a kvs ea=>
   cases (show u=Value.ref a from rx)
   obtain⟨_,_,xs,_,o,es,ep,h1,h2,_⟩:=(show ObjOk X.prog X.w H s.heap a (.dT kvs) from I.hok a _ ea)
   exact PySem.W.kia_one PySem.W.kitx_dict I.kIn ⟨o,h1,h2.1⟩ e (λz=>nomatch z) h
 | @ins a C dx fs ea cl ha hn htk hm=>
   cases (show u=Value.ref a from rx)
   obtain⟨mA,O,_⟩:=aa4 I.hok ea
   obtain⟨od,J,_⟩:=O.look
   exact PySem.W.kia_one (PySem.W.kitx_own (cl.get _) cl.hd ha hn htk hm) I.kIn J e (λz=>nomatch z) h
end
structure Room (k:Nat) (A:Around):Prop where
 hd:A.handled=none
 dp:A.depth+3*k+5<recursionLimit
 un:A.units+16*k+200<cLine
theorem Room.mono {j k:Nat} {A:Around} (r:Room k A) (h:j<=k):Room j A:=⟨r.hd,by have:=r.dp;omega,by have:=r.un;omega⟩
theorem Room.deeper {k:Nat} {A:Around} (r:Room (k+1) A) (env:Env):Room k (A.deeper env):=
 ⟨r.hd,by have:=r.dp;show A.depth+1+3*k+5<_;omega,by have:=r.un;show A.units+3+16*k+200<_;omega⟩
theorem aA1 {A:Around} {C:Addr} {us:List Value} {kw:List (Str×Value)}:(A.under (.builtin "type.__call__" ⟨.ref C::us,kw⟩)).depth=A.depth+1:=by
 first | rfl | simp [Around.under,Code.weight,Code.isCreation,Code.isGuard,Code.isCaller,Code.frames,Code.isFrame,guardIds]
theorem aA2 {A:Around} {C:Addr} {us:List Value} {kw:List (Str×Value)}:(A.under (.builtin "type.__call__" ⟨.ref C::us,kw⟩)).units=A.units+1:=by
 first | rfl | simp [Around.under,Code.cUnits,Code.frames,Code.isFrame]
theorem Room.make {k:Nat} {A:Around} (r:Room (k+1) A) (C:Addr) (us:List Value) (kw:List (Str×Value)):Room k (A.under (.builtin "type.__call__" ⟨.ref C::us,kw⟩)):=
 ⟨r.hd,by have:=r.dp;rw [aA1];omega,by have:=r.un;rw [aA2];omega⟩
theorem Room.depth {k:Nat} {A:Around} (r:Room k A):A.depth<recursionLimit:=by have:=r.dp;omega
theorem Room.units {k:Nat} {A:Around} (r:Room k A):A.units+64<cLine:=by have:=r.un;omega
def tNil:TA:=λ_ H Q=>Q [] H
def bi3 (ta:TE) (tr:TA):TA:=λσ H Q=>ta σ H λx H1=>tr σ H1 λxs H2=>Q (x::xs) H2
section
variable {X:Cx} {e:Expr} {es:List Expr} {te:TE} {t:TA} {pos:Pos}
theorem aA3:PA X [] tNil:=λ_ _ _ _ H Q I h=>Calls.spliced_nil ⟨[],H,I,.nil,h⟩
theorem l5 (ha:PE X e te) (hr:PA X es t) (hs:starEach (e::es) X.env=(false,eval e X.env)::starEach es X.env:=by rfl):PA X (e::es) (bi3 te t):=by
 intro pos pins s σ H Q I h
 rw [hs]
 show wpAny _ _ (spliced ((false,eval e X.env)::backTo pos (starEach es X.env))) _ _ s
 refine Calls.spliced_cons (thn (ha pins s σ H _ I h) λu s1 ⟨x,H1,I1,r1,q1⟩=>?_)
 exact thn (hr pos pins s1 σ H1 _ I1 q1) λus s2 ⟨xs,H2,I2,r2,q2⟩=>⟨x::xs,H2,I2,.cons r1 r2,q2⟩
def bn7 (t:TA):TE:=λσ H Q=>t σ H λxs H1=>xs.length<=sizeLine/\∀p,H1 p=none->Q (.ref p) (upd H1 p (.tup xs))
def bn8 (t:TA):TE:=λσ H Q=>t σ H λxs H1=>xs.length<=sizeLine/\∀p,H1 p=none->Q (.ref p) (upd H1 p (.lst xs))
theorem bb9 {x1} (h:PA X es t):PE X (.Tuple es x1 pos) (bn7 t):=by
 intro pins s σ H Q I hq
 refine wpAny_Tuple_spliced (thn (h pos pins s σ H _ I hq) λus s1 ⟨xs,H1,I1,r,z,q⟩=>⟨by rw [←r.length];exact z,?_⟩)
 have hf:H1 s1.heap.objs.size=none:=I1.hok.fresh (Nat.le_refl _)
 refine⟨.ref s1.heap.objs.size,upd H1 s1.heap.objs.size (.tup xs),I1.laid (t':=s1.toks) (λb u e=>Heap.get?_push_of_some _ e) (Nat.le_refl _) ?_,rfl,q _ hf⟩
 exact⟨z,us,r,⟨_,Heap.get?_push_size _ rfl,rfl,_,rfl⟩⟩
theorem bc0 (h:PA X es t):PE X (.List es pos) (bn8 t):=by
 intro pins s σ H Q I hq
 refine wpAny_List_spliced (thn (h pos pins s σ H _ I hq) λus s1 ⟨xs,H1,I1,r,z,q⟩=>⟨by rw [←r.length];exact z,?_⟩)
 have hf:H1 s1.heap.objs.size=none:=I1.hok.fresh (Nat.le_refl _)
 refine⟨.ref s1.heap.objs.size,upd H1 s1.heap.objs.size (.lst xs),I1.laid (t':=s1.toks) (λb u e=>Heap.get?_push_of_some _ e) (Nat.le_refl _) ?_,rfl,q _ hf⟩
 exact⟨z,us,0,r,Heap.get?_push_size _ rfl⟩
end
abbrev Sp:=List V->Hp->VK->XK->Prop
abbrev CXT:=List Env->Hp->Shared->XK->Value->Shared->Prop
structure Env0 (P:Program) (w:World) (K:PySem.W.Frag) (mg:Str->Option Value) (base:Heap) (A:Around) (outer:List Env) (s:Shared) (H:Hp):Prop where
 frames:A.frames=some outer
 mod:Mod K mg base
 bs:∀b o,base.get? b=some o->s.heap.get? b=some o/\H b=none
 bsz:base.objs.size<=s.heap.objs.size
 funs:s.heap.FunFrames base outer
 frf:∀b∈frs outer,H b=none
 hok:HOk P w H s.heap
 bare:AllBare s.gens
def CE (outer:List Env) (P:Program) (w:World) (H:Hp) (s:Shared) (Q:VK) (u:Value) (s':Shared):Prop:=
 ∃v H',s'.os=s.os/\AllBare s'.gens/\Un (frs outer) [] H H' s.heap s'.heap/\HOk P w H' s'.heap/\RelV v u/\Q v H'
def CR (CX:CXT) (outer:List Env) (P:Program) (w:World) (H:Hp) (s:Shared) (Q:VK) (E:XK) (r:Result) (s':Shared):Prop:=
 match r with
 | .ok (.ret u)=>CE outer P w H s Q u s'
 | .ok _=>False
 | .error e=>CX outer H s E e s'
structure FnOk (P:Program) (w:World) (K:PySem.W.Frag) (mg:Str->Option Value) (base:Heap) (CX:CXT) (k:Nat) (f:Addr) (fd:FuncData) (ps:List Str) (sp:Sp):Prop where
 len:∀vs H Q E,sp vs H Q E->vs.length=ps.length
 run:∀(A:Around) (outer:List Env) (s:Shared) (H:Hp) (args:Args) (us:List Value) (vs:List V) (Q:VK) (E:XK),Room k A->Env0 P w K mg base A outer s H->BindsTo s fd args (ps.zip us)->Vals vs us->sp vs H Q E->
  codeAny (model P w) A (.call (.ref f) args) (CR CX outer P w H s Q E) s
theorem FnOk.imp {P:Program} {w:World} {K:PySem.W.Frag} {mg:Str->Option Value} {base:Heap} {CX:CXT} {k:Nat} {f:Addr} {fd:FuncData} {ps:List Str} {sp sp':Sp} (F:FnOk P w K mg base CX k f fd ps sp)
 (h:∀vs H Q E,sp' vs H Q E->sp vs H Q E):FnOk P w K mg base CX k f fd ps sp':=
 ⟨λvs H Q E q=>F.len vs H Q E (h _ _ _ _ q),λA outer s H args us vs Q E hr he hb hv hs=>F.run A outer s H args us vs Q E hr he hb hv (h _ _ _ _ hs)⟩
theorem Env0.make {P:Program} {w:World} {K:PySem.W.Frag} {mg:Str->Option Value} {base:Heap} {A:Around} {outer:List Env} {s:Shared} {H:Hp} (e:Env0 P w K mg base A outer s H) (C:Addr) (us:List Value) (kw:List (Str×Value)) :
 Env0 P w K mg base (A.under (.builtin "type.__call__" ⟨.ref C::us,kw⟩)) outer s H:=⟨by first | exact e.frames | (simpa [Around.under,Code.envs,Code.isFrame,pushEnvs] using e.frames),e.mod,e.bs,e.bsz,e.funs,e.frf,e.hok,e.bare⟩
section
variable {X:Cx} {pins:List (Addr×Obj)} {σ:St} {H:Hp} {s s':Shared}
theorem Inv.env0 (I:Inv X pins σ H s):Env0 X.prog X.w X.K X.mg X.base X.A X.stack s H:=
 ⟨I.ok.frames,I.ok.mod,I.bs,Nat.le_trans I.ok.bsz I.sz,I.stack,I.stkFree,I.hok,I.bare⟩
theorem Inv.after {Q:VK} {u:Value} (I:Inv X pins σ H s) (h:CE X.stack X.prog X.w H s Q u s'):EP X pins σ Q u s':=by
 obtain⟨v,H',os,bare,un,hok,r,q⟩:=h
 obtain⟨hh,g,d,t,os'⟩:=s'
 obtain rfl:os'=s.os:=os
 exact⟨v,H',I.call (h':=hh) (g':=g) (d':=d) (t':=t) (ch:=[]) un hok bare (λb z=>absurd z (by simp)),r,q⟩
end
def a77 (sp:Sp) (dvs:List V) (E:XK) (t:TA):TE:=λσ H Q=>t σ H λvs H1=>sp (vs++dvs) H1 Q E
def aQ4 (C:Addr) (m:Str) (sp:Sp) (dvs:List V) (E:XK) (ta:TE) (t:TA):TE:=λσ H Q=>ta σ H λx H1=>∃a dx fs,x=.ref a/\H1 a=some (.ins C dx fs)/\fs.lookup m=none/\
 t σ H1 λvs H2=>sp (x::(vs++dvs)) H2 Q E
def a78 (C:Addr) (sp:Sp) (dvs:List V) (E:XK) (t:TA):TE:=λσ H Q=>t σ H λvs H1=>∀x dx,H1 x=none->H1 dx=none->dx≠x->
 sp (.ref x::(vs++dvs)) (upd (upd H1 dx (.own x)) x (.ins C dx [])) (λv H2=>v=.non/\Q (.ref x) H2) E
def Binds (K:PySem.W.Frag) (fd:FuncData) (ps:List Str) (ds:List Value):Prop:=
 ∀(s:Shared) (us:List Value),K.In s.heap->(us++ds).length=ps.length->BindsTo s fd ⟨us,[]⟩ (ps.zip (us++ds))
theorem Binds.all {K:PySem.W.Frag} {fd:FuncData} {ps:List Str} (h:∀us:List Value,us.length=ps.length->bindArgs fd ⟨us,[]⟩=pure (ps.zip us)):Binds K fd ps []:=λs us _ hl=>by
 rw [List.append_nil] at hl ⊢
 exact .of_eq (h us hl)
def j4 (CX:CXT) (X:Cx) (E:XK):Prop:=∀(pins:List (Addr×Obj)) (σ:St) (H:Hp) (s:Shared) (e:Value) (s':Shared),Inv X pins σ H s->CX X.stack H s E e s'->X.xe e s'
section
variable {X:Cx} {CX:CXT} {k:Nat} {f C:Addr} {fd:FuncData} {ps:List Str} {sp:Sp} {dvs:List V} {ds:List Value} {E:XK} {x m:Str} {p pos apos:Pos} {e o:Expr} {es:List Expr} {ta:TE} {t:TA}
theorem aA4 {pins:List (Addr×Obj)} {σ:St} {H:Hp} {s:Shared} {Q:VK} {us:List Value} {vs:List V} (F:FnOk X.prog X.w X.K X.mg X.base CX k f fd ps sp) (hr:Room k X.A) (hb:Binds X.K fd ps ds) (hd:Vals dvs ds) (hx:j4 CX X E)
 (I:Inv X pins σ H s) (r:Vals vs us) (h:sp (vs++dvs) H Q E):wpAny (model X.prog X.w) X.A (call (.ref f) us) (EP X pins σ Q) X.xe s:=by
 have r2:Vals (vs++dvs) (us++ds):=r.append hd
 have hl:(us++ds).length=ps.length:=by rw [←r2.length];exact F.len _ _ _ _ h
 refine wpAny_call (codeAny_mono (F.run X.A X.stack s H ⟨us,[]⟩ (us++ds) (vs++dvs) Q E hr I.env0 (hb s us I.kIn hl) r2 h) λr s' hq=>?_)
 cases r with
 | error e=>exact hx pins σ H s e s' I hq
 | ok fl=>
   cases fl with
   | ret u=>exact I.after hq
   | next=>exact False.elim hq
   | brk=>exact False.elim hq
   | cont=>exact False.elim hq
theorem a06 (F:FnOk X.prog X.w X.K X.mg X.base CX k f fd ps sp) (hr:Room k X.A) (hg:Gl X x) (hm:X.mg x=some (.ref f)) (hk:PySem.W.keepIn X.K (.ref f)=true) (hb:Binds X.K fd ps ds) (hd:Vals dvs ds) (hx:j4 CX X E)
 (ha:PA X (e::es) t) (hdb:(x == ("__debug__" : Str))=false:=by decide) (he:starEach (e::es) X.env=(false,eval e X.env)::starEach es X.env:=by rfl) (hpl:(backTo pos (starEach es X.env)).any (·.1)=false:=by rfl) :
 PE X (.Call (.Name x p) (e::es) [] pos) (a77 sp dvs E t):=by
 intro pins s σ H Q I h
 refine wpAny_Call_Name_kw (ao8 I hg hm ?_ hdb)
 refine PySem.W.callWith_K (h₀:=X.base) I.ok.mod.kin hk (thn (ha pos pins s σ H _ I h) λus s1 ⟨vs,H1,I1,r,q⟩=>⟨I1.kIn,?_⟩) he hpl
 exact aA4 F hr hb hd hx I1 r q
theorem a07 {pl:Sem Bool} (he:PE X o ta) (c:Cls X.K C) (hm:aJ9 X.K C m f) (F:FnOk X.prog X.w X.K X.mg X.base CX k f fd ps sp) (hr:Room k X.A) (hb:Binds X.K fd ps ds) (hd:Vals dvs ds) (hx:j4 CX X E) (ha:PA X (e::es) t)
 (hst:starEach (e::es) X.env=(false,eval e X.env)::starEach es X.env:=by rfl) (hpl:(backTo pos (starEach es X.env)).any (·.1)=false:=by rfl)
 (ht:eval (.Call (.Attribute o m apos) (e::es) [] pos) X.env=(do
  let ov ←eval o X.env
  standAt apos.atName
  let (f,first) ←holding [ov] (getMethod ov m pl)
  callWith pos f first (backTo pos (starEach (e::es) X.env)) (backToKw pos (keywordEach [] X.env))):=by rfl) :
 PE X (.Call (.Attribute o m apos) (e::es) [] pos) (aQ4 C m sp dvs E ta t):=by
 intro pins s σ H Q I h
 refine PySem.W.methodCall_KW (pl:=pl) (thn (he pins s σ H _ I h) λu s1 ⟨x,H1,I1,rx,a,dx,fs,ex,ea,l,q⟩=>?_) ht
 subst ex
 obtain rfl:u=Value.ref a:=rx
 refine ab5 I1 ea c hm l ?_
 refine PySem.W.callWith_K (first:=[.ref a]) (h₀:=X.base) I.ok.mod.kin hm.kp (thn (ha pos pins s1 σ H1 _ I1 q) λus s2 ⟨vs,H2,I2,r,q2⟩=>⟨I2.kIn,?_⟩) hst hpl
 exact aA4 (us:=.ref a::us) (vs:=.ref a::vs) F hr hb hd hx I2 (.cons rfl r) q2
theorem aQ5 {pl:Sem Bool} (he:PE X o ta) (c:Cls X.K C) (hm:aJ9 X.K C m f) (F:FnOk X.prog X.w X.K X.mg X.base CX k f fd ps sp) (hr:Room k X.A) (hb:Binds X.K fd ps ds) (hd:Vals dvs ds) (hx:j4 CX X E)
 (ht:eval (.Call (.Attribute o m apos) [] [] pos) X.env=(do
  let ov ←eval o X.env
  standAt apos.atName
  let (f,first) ←holding [ov] (getMethod ov m pl)
  callWith pos f first (backTo pos (starEach [] X.env)) (backToKw pos (keywordEach [] X.env))):=by rfl) :
 PE X (.Call (.Attribute o m apos) [] [] pos) (aQ4 C m sp dvs E ta tNil):=by
 intro pins s σ H Q I h
 refine PySem.W.methodCall_KW (pl:=pl) (thn (he pins s σ H _ I h) λu s1 ⟨x,H1,I1,rx,a,dx,fs,ex,ea,l,q⟩=>?_) ht
 subst ex
 obtain rfl:u=Value.ref a:=rx
 refine ab5 I1 ea c hm l ?_
 exact PySem.W.callWith_K0 (first:=[.ref a]) I1.kIn hm.kp (aA4 (us:=[.ref a]) (vs:=[.ref a]) F hr hb hd hx I1 (.cons rfl .nil) q)
structure Mk (K:PySem.W.Frag) (C f:Addr):Prop where
 makes:PySem.W.makesIn K C=true
 init:PySem.W.findIn K (.ref C) "__init__" = some (some (.ref f))
 fn:PySem.W.isFn K (.ref f)=true
 kp:PySem.W.keepIn K (.ref C)=true
theorem aQ6 {pins:List (Addr×Obj)} {σ:St} {H:Hp} {s:Shared} {Q:VK} {us:List Value} {vs:List V} (M:Mk X.K C f) (F:FnOk X.prog X.w X.K X.mg X.base CX k f fd ps sp) (hr:Room (k+1) X.A) (hb:Binds X.K fd ps ds) (hd:Vals dvs ds)
 (hx:j4 CX X E) (I:Inv X pins σ H s) (r:Vals vs us)
 (h:∀x dx,H x=none->H dx=none->dx≠x->sp (.ref x::(vs++dvs)) (upd (upd H dx (.own x)) x (.ins C dx [])) (λv H2=>v=.non/\Q (.ref x) H2) E) :
 wpAny (model X.prog X.w) X.A (call (.ref C) us) (EP X pins σ Q) X.xe s:=by
 have hq:=h (s.heap.objs.size+1) s.heap.objs.size (I.hok.fresh (Nat.le_succ _)) (I.hok.fresh (Nat.le_refl _)) (Nat.ne_of_lt (Nat.lt_succ_self _))
 have I2:=Inv.made (C:=C) I
 have r2:Vals (V.ref (s.heap.objs.size+1)::(vs++dvs)) (Value.ref (s.heap.objs.size+1)::(us++ds)):=.cons rfl (r.append hd)
 have hl:(Value.ref (s.heap.objs.size+1)::us++ds).length=ps.length:=by
  have e:=r2.length
  rw [F.len _ _ _ _ hq] at e
  exact e.symm
 refine wpAny_call (aQ3 (f:=f) I.kIn M.makes M.init (beq_iff_eq.mp M.fn) (codeAny_mono (F.run _ X.stack _ _ ⟨Value.ref (s.heap.objs.size+1)::us,[]⟩ (Value.ref (s.heap.objs.size+1)::(us++ds)) _ _ E (hr.make C us [])
  (I2.env0.make C us []) (hb _ (Value.ref (s.heap.objs.size+1)::us) I2.kIn hl) r2 hq) λr s' hq'=>?_))
 cases r with
 | error e=>exact hx pins σ _ _ e s' I2 hq'
 | ok fl=>
   cases fl with
   | ret u=>
     obtain⟨v,H',I3,rv,ev,q3⟩:=I2.after hq'
     subst ev
     exact⟨rv,⟨V.ref (s.heap.objs.size+1),H',I3,rfl,q3⟩⟩
   | next=>exact False.elim hq'
   | brk=>exact False.elim hq'
   | cont=>exact False.elim hq'
theorem a08 (M:Mk X.K C f) (F:FnOk X.prog X.w X.K X.mg X.base CX k f fd ps sp) (hr:Room (k+1) X.A) (hg:Gl X x) (hm:X.mg x=some (.ref C)) (hb:Binds X.K fd ps ds) (hd:Vals dvs ds) (hx:j4 CX X E)
 (ha:PA X (e::es) t) (hdb:(x == ("__debug__" : Str))=false:=by decide) (he:starEach (e::es) X.env=(false,eval e X.env)::starEach es X.env:=by rfl) (hpl:(backTo pos (starEach es X.env)).any (·.1)=false:=by rfl) :
 PE X (.Call (.Name x p) (e::es) [] pos) (a78 C sp dvs E t):=by
 intro pins s σ H Q I h
 refine wpAny_Call_Name_kw (ao8 I hg hm ?_ hdb)
 refine PySem.W.callWith_K (h₀:=X.base) I.ok.mod.kin M.kp (thn (ha pos pins s σ H _ I h) λus s1 ⟨vs,H1,I1,r,q⟩=>⟨I1.kIn,?_⟩) he hpl
 exact aQ6 M F hr hb hd hx I1 r q
end
structure C9 (N P:List Str) (sc:Scope):Prop where
 kind:sc.kind=.function
 co:sc.isCoroutine=false
 gen:sc.isGenerator=false
 nd:N.Nodup
 pre:N.take P.length=P
 par:∀x∈P,sc.names.lookup x=some .local\/sc.names.lookup x=some .cell
 nofree:∀y∈sc.names,y.2≠.free
theorem al0 {kindOf:Str->Option NameKind} {x:Str}:∀{binds:List (Str×Value)} {m:Str->Option Value},(∀v,(x,v)∉binds)->bindL kindOf binds m x=m x
 | [],_,_=>rfl
 | (n,v)::r,m,h=>by
   unfold bindL
   rw [al0 λw hw=>h w (List.mem_cons_of_mem _ hw)]
   split
   ·have:x≠n:=by rintro rfl;exact h v List.mem_cons_self
    simp [this]
   ·rfl
theorem al1 {kindOf:Str->Option NameKind} {x:Str}:∀{binds:List (Str×Value)} {m:Str->Option Value},(∀v,(x,v)∉binds)->bindC kindOf binds m x=m x
 | [],_,_=>rfl
 | (n,v)::r,m,h=>by
   unfold bindC
   rw [al1 λw hw=>h w (List.mem_cons_of_mem _ hw)]
   split
   ·rfl
   ·have:x≠n:=by rintro rfl;exact h v List.mem_cons_self
    simp [this]
theorem al2 {kindOf:Str->Option NameKind} {x:Str} {v:Value}:∀{P:List Str} {vs:List Value} {i:Nat} {m:Str->Option Value},P.Nodup->P[i]?=some x->vs[i]?=some v->kindOf x=some .local->
 bindL kindOf (P.zip vs) m x=some v
 | [],_,_,_,_,h,_,_=>by simp at h
 | _::_,[],_,_,_,_,h,_=>by simp at h
 | p::P,w::vs,0,m,nd,h1,h2,hk=>by
   simp at h1 h2;subst h1;subst h2
   show bindL kindOf ((p,w)::P.zip vs) m p=_
   unfold bindL
   rw [al0 λv hv=>(List.nodup_cons.mp nd).1 (List.of_mem_zip hv).1,if_pos hk]
   simp
 | p::P,w::vs,i+1,m,nd,h1,h2,hk=>by
   show bindL kindOf ((p,w)::P.zip vs) m x=_
   unfold bindL
   exact al2 (i:=i) (List.nodup_cons.mp nd).2 (by simpa using h1) (by simpa using h2) hk
theorem al3 {kindOf:Str->Option NameKind} {x:Str} {v:Value}:∀{P:List Str} {vs:List Value} {i:Nat} {m:Str->Option Value},P.Nodup->P[i]?=some x->vs[i]?=some v->kindOf x≠some .local->
 bindC kindOf (P.zip vs) m x=some v
 | [],_,_,_,_,h,_,_=>by simp at h
 | _::_,[],_,_,_,_,h,_=>by simp at h
 | p::P,w::vs,0,m,nd,h1,h2,hk=>by
   simp at h1 h2;subst h1;subst h2
   show bindC kindOf ((p,w)::P.zip vs) m p=_
   unfold bindC
   rw [al1 λv hv=>(List.nodup_cons.mp nd).1 (List.of_mem_zip hv).1,if_neg hk]
   simp
 | p::P,w::vs,i+1,m,nd,h1,h2,hk=>by
   show bindC kindOf ((p,w)::P.zip vs) m x=_
   unfold bindC
   exact al3 (i:=i) (List.nodup_cons.mp nd).2 (by simpa using h1) (by simpa using h2) hk
def start (N:List Str) (vs:List V):St:=vs.map some++List.replicate (N.length - vs.length) none
def aj6 (CX:CXT) (P:Program) (w:World) (K:PySem.W.Frag) (mg:Str->Option Value) (base:Heap) (N:List Str) (qual:Str) (scope:Scope) (f:Addr) (cd:Value) (A:Around) (outer:List Env) (s:Shared) (H:Hp) (E:XK):Cx where
 prog:=P
 w:=w
 K:=K
 mg:=mg
 base:=base
 A:=A.deeper (envOfC qual scope s.heap.objs.size f cd)
 N:=N
 s₀:=s
 H₀:=H
 env:=envOfC qual scope s.heap.objs.size f cd
 outer:=outer
 stack:=envOfC qual scope s.heap.objs.size f cd::outer
 ex:=[]
 calm:=true
 fn:=λ_=>true
 pn:=[]
 xe:=λe s'=>wpAny (model P w) (A.deeper (envOfC qual scope s.heap.objs.size f cd)) (leaving (envOfC qual scope s.heap.objs.size f cd) e) (λ_ s''=>CX outer H s E e s'') (λe' s''=>CX outer H s E e' s'') s'
theorem au2 {sc:Scope} {n:Nat} {x:Str} (h:sc.names.lookup x=some .cell):∃c,(cellsFrom n sc.names []).lookup x=some c:=by
 have q:=PySem.W.cellsFrom_some sc.names n [] (.inl h)
 exact Option.isSome_iff_exists.mp q
theorem aK0 {CX:CXT} {P:Program} {w:World} {K:PySem.W.Frag} {mg:Str->Option Value} {base:Heap} {N ps:List Str} {qual:Str} {scope:Scope} {f:Addr} {cd:Value} {A:Around} {outer:List Env} {s s1:Shared} {H:Hp} {E:XK} {us:List Value} {vs:List V}
 (S:C9 N ps scope) (hd:A.handled=none) (e0:Env0 P w K mg base A outer s H) (hl:vs.length=ps.length) (r:Vals vs us)
 (x:InCallC s s.heap.objs.size (bindL (envOfC qual scope s.heap.objs.size f cd).kindOf (ps.zip us) λ_=>none) (cellsFrom (s.heap.objs.size+1) scope.names []) (bindC (envOfC qual scope s.heap.objs.size f cd).kindOf (ps.zip us) λ_=>none) s1) :
 Inv (aj6 CX P w K mg base N qual scope f cd A outer s H E) [] (start N vs) H s1:=by
 have hpl:ps.length<=N.length:=by have:=congrArg List.length S.pre;rw [List.length_take] at this;omega
 obtain⟨h1,tk,rfl,hk⟩:=x.done
 have noA:∀b:Addr,b∉(aj6 CX P w K mg base N qual scope f cd A outer s H E).ex:=λb z=>absurd (show b∈([]:List Addr) from z) (by simp)
 refine⟨⟨e0.mod,S.kind,rfl,rfl,Nat.le_refl _,λy z c h1 h2=>?_,λy hy=>?_,λy c _ h=>?_,λ_=>hd,Around.frames_deeper e0.frames,.inr ⟨rfl,rfl⟩,λb z=>absurd z (noA b),e0.bs,e0.bsz,λb _ _=>noA b,λb z=>absurd z (noA b),e0.funs,e0.frf⟩,
  rfl,e0.bare,Un.kept hk,⟨_,x.toInCall.ns,λi y v h1 h2 h3=>?_⟩,λy c h=>⟨_,x.cell y c h⟩,e0.hok.fresh (Nat.le_refl _),λy c h=>?_,λp hp=>absurd (show p∈([]:List (Addr×Obj)) from hp) (by simp),e0.hok.kept hk,?_⟩
 ·exact name_of_addr x.apart (PySem.mem_of_lookup h1) (PySem.mem_of_lookup h2)
 ·have hy:scope.names.lookup y=some .cell\/scope.names.lookup y=some .free:=hy
  rcases hy with hy | hy
  ·exact au2 hy
  ·exact absurd rfl (S.nofree _ (PySem.mem_of_lookup hy))
 ·exact Nat.le_of_lt (x.above y c (PySem.mem_of_lookup h))
 ·have hi:i<vs.length:=by
   unfold start at h2
   by_cases hi:i<vs.length
   ·exact hi
   ·rw [List.getElem?_append_right (by simpa using hi)] at h2
    rw [List.getElem?_replicate] at h2
    split at h2 <;> cases h2
  have ha:vs[i]?=some v:=by
   unfold start at h2
   rw [List.getElem?_append_left (by simpa using hi),List.getElem?_map] at h2
   cases e:vs[i]? with
   | none=>rw [e] at h2;cases h2
   | some a=>rw [e] at h2;cases h2;rfl
  obtain⟨u,hu,rv⟩:=r.get ha
  have hp:ps[i]?=some y:=by
   rw [←S.pre,List.getElem?_take_of_lt (by omega)];exact h1
  have ndP:ps.Nodup:=by rw [←S.pre];exact S.nd.sublist (List.take_sublist _ _)
  refine⟨u,rv,?_⟩
  rcases S.par y (List.mem_of_getElem? hp) with k | k
  ·exact .inl ⟨k,al2 ndP hp hu k⟩
  ·obtain⟨c,e⟩:=au2 (n:=s.heap.objs.size+1) k
   refine .inr ⟨.inl k,c,e,?_⟩
   have q:=x.cell y c e
   rw [al3 ndP hp hu (by show scope.names.lookup y≠_;rw [k];decide)] at q
   exact q
 ·exact e0.hok.fresh (Nat.le_of_lt (x.above y c (PySem.mem_of_lookup h)))
 ·unfold start
  show _=N.length
  rw [List.length_append,List.length_map,List.length_replicate]
  omega
theorem a79 {CX:CXT} {P:Program} {w:World} {K:PySem.W.Frag} {mg:Str->Option Value} {base:Heap} {k:Nat} {f:Addr} {name qual:Str} {params:Arguments} {body:List Stmt} {scope:Scope} {dV kV doc pm cdv ct oc:Value} {an od:Option Addr}
 {osl:Array (Option Value)} {N ps:List Str} {sp:Sp} (lk:K.lookup f=some ⟨oc,od,.func (PySem.W.fnOf name qual params body scope dV kV doc pm an cdv ct),osl⟩) (hcd:PySem.W.codeIn K cdv qual=true) (S:C9 N ps scope)
 (len:∀vs H Q E,sp vs H Q E->vs.length=ps.length)
 (hbody:∀(A:Around) (outer:List Env) (s:Shared) (H:Hp) (vs:List V) (Q:VK) (E:XK),Room k (A.deeper (envOfC qual scope s.heap.objs.size f cdv))->sp vs H Q E->
  ∃t,PSs (aj6 CX P w K mg base N qual scope f cdv A outer s H E) body t/\t { nx:=λ_ H'=>Q .non H',rt:=Q } (start N vs) H) :
 FnOk P w K mg base CX (k+1) f (PySem.W.fnOf name qual params body scope dV kV doc pm an cdv ct) ps sp:=by
 refine⟨len,λA outer s H args us vs Q E hr e0 hb r hsp=>?_⟩
 have hl:=len _ _ _ _ hsp
 have KX:K.In s.heap:=e0.mod.kin.keeps λb o e=>(e0.bs b o e).1
 have lim:s.heap.NoLimit:=e0.mod.nolimit.keeps λb o e=>(e0.bs b o e).1
 have hkind:∀y∈ps.zip us,scope.names.lookup y.1=some .local\/(scope.names.lookup y.1=some .cell/\((cellsFrom (s.heap.objs.size+1) scope.names []).lookup y.1).isSome=true):=λ⟨n,v⟩ hy=>by
  rcases S.par n (List.of_mem_zip hy).1 with q | q
  ·exact .inl q
  ·exact .inr ⟨q,PySem.W.cellsFrom_some _ _ _ (.inl q)⟩
 refine codeAny_call_function hr.depth (KX _ _ lk) rfl S.co S.gen rfl (PySem.W.codeRec_of KX hcd) (hb _ _ _ _ ?_)
 refine wpAny_newFunctionEnv_cells S.kind hkind λenv he s1 x=>?_
 subst he
 refine⟨lim.keeps x.toInCall.keep,codeAny_func ?_⟩
 obtain⟨t,ht,hq⟩:=hbody A outer s H vs Q E (hr.deeper _) hsp
 have I:Inv (aj6 CX P w K mg base N qual scope f cdv A outer s H E) [] (start N vs) H s1:=aK0 S hr.hd e0 hl r x
 refine wpAny_mono (ht [] s1 (start N vs) H _ I hq) (λfl s' hs=>?_) λe s' hs=>hs
 have fin:∀{σ':St} {H':Hp} {v:V} {u:Value},Inv (aj6 CX P w K mg base N qual scope f cdv A outer s H E) [] σ' H' s'->RelV v u->Q v H'->CE outer P w H s Q u s':=
  λ{σ' H' v u} J rv q=>⟨v,H',J.os,J.bare,J.base,J.hok,rv,q⟩
 cases fl with
 | ret u=>
   obtain⟨v,σ',H',J,rv,q⟩:=hs
   exact fin J rv q
 | next=>
   obtain⟨σ',H',J,q⟩:=hs
   exact fin (v:=V.non) (u:=Value.none) J rfl q
 | brk=>
   obtain⟨_,_,_,q⟩:=hs
   exact False.elim q
 | cont=>
   obtain⟨_,_,_,q⟩:=hs
   exact False.elim q
section
variable {X:Cx} {x:Str} {p pos:Pos} {e:Expr} {es:List Expr} {t:TA} {id T:String} {r:List V->Hp->VK->Prop}
def tCB (r:List V->Hp->VK->Prop) (t:TA):TE:=λσ H Q=>t σ H λvs H1=>r vs H1 Q
theorem V5 (hc:CallR X (.builtin id) r) (hg:Gl X x) (hm:X.mg x=none) (hv:bootBuiltins x=some (.builtin id)) (ha:PA X (e::es) t) (hn:x≠"__name__":=by decide) (hdb:(x == ("__debug__" : Str))=false:=by decide)
 (he:starEach (e::es) X.env=(false,eval e X.env)::starEach es X.env:=by rfl) (hpl:(backTo pos (starEach es X.env)).any (·.1)=false:=by rfl):PE X (.Call (.Name x p) (e::es) [] pos) (tCB r t):=by
 intro pins s σ H Q I h
 refine wpAny_Call_Name_kw (Q1 I hg hm hv ?_ hn hdb)
 exact PyProof.Rows.callWith_builtin1 (thn (ha pos pins s σ H _ I h) λus s1 ⟨vs,H1,I1,r1,q1⟩=>hc pins s1 σ H1 vs us Q I1 r1 q1) he hpl
theorem d5 (hc:CallR X (.type T) r) (hg:Gl X x) (hm:X.mg x=none) (hv:bootBuiltins x=some (.type T)) (ha:PA X (e::es) t) (hn:x≠"__name__":=by decide) (hdb:(x == ("__debug__" : Str))=false:=by decide)
 (he:starEach (e::es) X.env=(false,eval e X.env)::starEach es X.env:=by rfl) (hpl:(backTo pos (starEach es X.env)).any (·.1)=false:=by rfl):PE X (.Call (.Name x p) (e::es) [] pos) (tCB r t):=by
 intro pins s σ H Q I h
 refine wpAny_Call_Name_kw (Q1 I hg hm hv ?_ hn hdb)
 exact PyProof.Rows.callWith_type1 (thn (ha pos pins s σ H _ I h) λus s1 ⟨vs,H1,I1,r1,q1⟩=>hc pins s1 σ H1 vs us Q I1 r1 q1) he hpl
end
end L2
namespace HT
open PySem PyProof.Rows
section
variable {prog:Program} {w:World} {A:Around} {E:Value->Shared->Prop} {s:Shared}
theorem cat_tup {t b:Addr} {vs ws:List Value} {Q:Value->Shared->Prop} (ht:IsTup s.heap t vs.toArray) (hb:IsTup s.heap b ws.toArray) (hv:vs≠[])
 (h1:ws=[]->Q (.ref t) s) (h2:ws≠[]->Q (.ref s.heap.objs.size) { s with heap:=s.heap.push { cls:=.type "tuple",data:=.seq (vs++ws).toArray } })
 (hsz:vs.length+ws.length<=sizeLine):wpAny (model prog w) A (binaryOp .Add (.ref t) (.ref b)) Q E s:=by
 obtain⟨⟨cls,dd,data,sl⟩,ho,hc,n,hd⟩:=id ht
 obtain⟨⟨cls2,dd2,data2,sl2⟩,ho2,hc2,n2,hd2⟩:=id hb
 simp only at hc hd hc2 hd2
 subst hc hd hc2 hd2
 have e:vs.toArray++ws.toArray=(vs++ws).toArray:=by simp
 by_cases hw:ws=[]
 ·exact concat_meets ⟨_,ho,rfl⟩ ⟨_,ho2,rfl⟩ noFill_tuple_add seq_tuple_add PySem.F.slot_tuple_add PySem.F.entry_tuple_add (PySem.F.args_tuple_add_2 _ _)
   (tuple_addW1 t b vs.toArray ws.toArray n n2 dd dd2 sl sl2 (by simpa using hv) (by simp [hw])) ⟨ho,ho2,h1 hw⟩
 ·refine concat_meets ⟨_,ho,rfl⟩ ⟨_,ho2,rfl⟩ noFill_tuple_add seq_tuple_add PySem.F.slot_tuple_add PySem.F.entry_tuple_add (PySem.F.args_tuple_add_2 _ _)
   (tuple_addW2 t b vs.toArray ws.toArray n n2 dd dd2 sl sl2 (by simpa using hv) (by simpa using hw) (by rw [List.size_toArray,List.size_toArray];exact hsz)) ⟨ho,ho2,?_⟩
  rw [e]
  exact h2 hw
def sIx (n d:Nat):Option Int->Nat
 | none=>d
 | some v=>if v<0 then (v+(n:Int)).toNat else min v.toNat n
theorem bc1 (n d:Nat) (hd:d<=n) (o:Option Int):sIx n d o<=n:=by
 cases o with
 | none=>exact hd
 | some v=>
   show (if v<0 then (v+(n:Int)).toNat else min v.toNat n)<=n
   by_cases hv:v<0
   ·rw [if_pos hv];omega
   ·rw [if_neg hv];exact Nat.min_le_right _ _
theorem clip_eq (v:Int) (n d:Nat):(if v<0 then max (v+(n:Int)) 0 else min v (n:Int))=((sIx n d (some v):Nat):Int):=by
 show (if v<0 then max (v+(n:Int)) 0 else min v (n:Int))=(((if v<0 then (v+(n:Int)).toNat else min v.toNat n):Nat):Int)
 by_cases hv:v<0
 ·simp only [if_pos hv];omega
 ·simp only [if_neg hv];omega
theorem aA5 (lo hi:Option Int) (n:Nat):Builtin.Slice.sliceAdjust lo hi 1 (n:Int)=(((sIx n 0 lo:Nat):Int),((sIx n n hi:Nat):Int)):=by
 have h1:¬((1:Int)<0):=by omega
 unfold Builtin.Slice.sliceAdjust
 simp only [h1,if_false]
 refine Prod.ext ?_ ?_
 ·cases lo with
  | none=>rfl
  | some v=>exact clip_eq v n 0
 ·cases hi with
  | none=>rfl
  | some v=>exact clip_eq v n n
theorem aA6 (i j:Nat):Builtin.Slice.slicePlaces (i:Int) (j:Int) 1=j - i:=by
 unfold Builtin.Slice.slicePlaces
 have h1:(1:Int) > 0:=by omega
 simp only [h1,if_true,Int.ediv_one]
 split <;> omega
theorem ab6 {v:Value} {o:Option Int} {Q:Option Int->Shared->Prop} (p:IsPart v o) (h:Q o s):wpAny (model prog w) A (Builtin.Slice.slicePartIndex v) Q E s:=by
 cases p with
 | none=>exact slicePart_none h
 | int i t=>exact slicePart_int h
theorem s9 {sl:Addr} {vl vu:Value} {lo hi:Option Int} {n:Nat} {Q:Int×Int×Nat->Shared->Prop} (hs:s.heap.IsSliceOf sl vl vu .none) (pl:IsPart vl lo) (pu:IsPart vu hi)
 (h:Q (((sIx n 0 lo:Nat):Int),1,sIx n n hi - sIx n 0 lo) s):wpAny (model prog w) A (Builtin.Slice.sliceApplied (.ref sl) (pure (n:Int))) Q E s:=by
 obtain⟨os,hos,hcs,hds⟩:=id hs
 unfold Builtin.Slice.sliceApplied Builtin.Slice.sliceFields
 refine wpAny_bind (wpAny_bind (wpAny_field hos hds (x:=vl) rfl (wpAny_bind (wpAny_field hos hds (x:=vu) rfl (wpAny_bind (wpAny_field hos hds (x:=.none) rfl (wpAny_pure ?_)))))))
 refine wpAny_bind (slicePart_none ?_)
 show wpAny _ _ (if ((1:Int) == 0)=true then _ else _) _ _ s
 rw [if_neg (by decide)]
 refine wpAny_bind (ab6 pl (wpAny_bind (ab6 pu (wpAny_bind (wpAny_pure ?_)))))
 show wpAny _ _ (match Builtin.Slice.sliceAdjust lo hi 1 (n:Int) with | (lo,hi)=>pure (lo,(1:Int),Builtin.Slice.slicePlaces lo hi 1)) _ _ s
 rw [aA5 lo hi n]
 show wpAny _ _ (pure (((sIx n 0 lo:Nat):Int),(1:Int),Builtin.Slice.slicePlaces ((sIx n 0 lo:Nat):Int) ((sIx n n hi:Nat):Int) 1)) _ _ s
 rw [aA6]
 exact wpAny_pure h
theorem aQ7 (xs:Array Value) (i k:Nat):((List.range k).filterMap λ(m:Nat)=>xs[((i:Int)+(m:Int)*1).toNat]?).toArray=((xs.toList.drop i).take k).toArray:=by
 have e:(λ(m:Nat)=>xs[((i:Int)+(m:Int)*1).toNat]?)=λm=>xs[i+m]?:=by
  funext m
  have:((i:Int)+(m:Int)*1).toNat=i+m:=by omega
  rw [this]
 rw [e]
 have:=pick_run xs i k
 rw [List.filterMap_map] at this
 have e2:((λx=>xs[x]?) ∘ λx=>i+x)=λm=>xs[i+m]?:=rfl
 rw [e2] at this
 rw [this]
theorem getItem_tuple_cut {t sl:Addr} {items:Array Value} {vl vu:Value} {lo hi:Option Int} {Q:Value->Shared->Prop} (ht:IsTup s.heap t items) (hs:s.heap.IsSliceOf sl vl vu .none) (pl:IsPart vl lo) (pu:IsPart vu hi)
 (hw:¬(sIx items.size 0 lo=0/\sIx items.size items.size hi=items.size))
 (h:Q (.ref s.heap.objs.size) { s with heap:=s.heap.push { cls:=.type "tuple",data:=.seq ((items.toList.drop (sIx items.size 0 lo)).take (sIx items.size items.size hi - sIx items.size 0 lo)).toArray } })
 (hsz:items.size<=sizeLine):wpAny (model prog w) A (getItem (.ref t) (.ref sl)) Q E s:=by
 have htake:sizeOk (.seq ((items.toList.drop (sIx items.size 0 lo)).take (sIx items.size items.size hi - sIx items.size 0 lo)).toArray):=by
  show ((items.toList.drop (sIx items.size 0 lo)).take (sIx items.size items.size hi - sIx items.size 0 lo)).toArray.size<=sizeLine
  rw [List.size_toArray,List.length_take,List.length_drop,Array.length_toList]
  omega
 have hj:sIx items.size items.size hi<=items.size:=bc1 _ _ (Nat.le_refl _) hi
 obtain⟨os,hos,hcs,hds⟩:=id hs
 have hTs:s.TypeIs (.ref sl) "slice":=⟨os,hos,hcs⟩
 unfold getItem
 try with_reducible refine wpAny_holding ?_
 first | refine wpAny_bind (wpAny_pure ?_) | skip
 refine wpAny_bind (wpAny_sequenceKey ht.typeIs (by decide) ?_)
 refine wpAny_bind (wpAny_callSpecial?_slot (name:=Str.ofString "__getitem__") ht.typeIs PyProof.Rows.slot_tuple_getitem
  (wpAny_call_entry PyProof.Rows.slot_tuple_getitem ht.typeIs entry_tuple_getitem ?_ (args_tuple_getitem _ _)))
 show wpAny _ _ (Builtin.Tuple.tupleItemsOf (.ref t)>>=_) _ _ s
 refine wpAny_bind (tupleItemsOf_ ht ?_)
 refine wpAny_bind (wpAny_typeOf hTs ?_)
 rw [if_pos (by decide)]
 refine wpAny_bind (s9 hs pl pu ?_)
 have hno:¬((((sIx items.size 0 lo:Nat):Int) == 0&&(1:Int) == 1&&(sIx items.size items.size hi - sIx items.size 0 lo) == items.size)=true):=by
  intro q
  rw [Bool.and_eq_true,Bool.and_eq_true] at q
  have q1:((sIx items.size 0 lo:Nat):Int)=0:=eq_of_beq q.1.1
  have q2:sIx items.size items.size hi - sIx items.size 0 lo=items.size:=eq_of_beq q.2
  exact hw ⟨by omega,by omega⟩
 show wpAny _ _ (if (((sIx items.size 0 lo:Nat):Int) == 0&&(1:Int) == 1&&(sIx items.size items.size hi - sIx items.size 0 lo) == items.size)=true then _ else _) _ _ s
 rw [if_neg hno,aQ7]
 first
  | exact wpAny_bind (m:=Builtin.Tuple.tupleExact _) (wpAny_newObj_type (wpAny_pure ⟨_,rfl,wpAny_pure h⟩) htake)
  | exact wpAny_bind (m:=Builtin.Tuple.tupleExact _) (wpAny_newObj_type (wpAny_bind (wpAny_pure (wpAny_pure ⟨_,rfl,wpAny_pure h⟩))) htake)
  | exact wpAny_bind (wpAny_bind (m:=Builtin.Tuple.tupleExact _) (wpAny_newObj_type (wpAny_pure (wpAny_pure ⟨_,rfl,wpAny_pure h⟩)) htake))
  | exact wpAny_bind (wpAny_bind (m:=Builtin.Tuple.tupleExact _) (wpAny_newObj_type (wpAny_pure ⟨_,rfl,wpAny_pure h⟩) htake))
end
end HT
namespace L2
open PySem PySem.Spec PyProof.Rows
abbrev TO:=St->Hp->(Option Int->Hp->Prop)->Prop
def PO (X:Cx) (e:Option Expr) (t:TO):Prop:=
 ∀(pins:List (Addr×Obj)) (s:Shared) (σ:St) (H:Hp) (Q:Option Int->Hp->Prop),Inv X pins σ H s->t σ H Q->
  wpAny (model X.prog X.w) X.A (evalPart e X.env) (λu s'=>∃o H',Inv X pins σ H' s'/\IsPart u o/\Q o H') X.xe s
def tNoPart:TO:=λ_ H Q=>Q none H
def bi4 (t:TE):TO:=λσ H Q=>t σ H λx H1=>∃i,x=.int i/\Q (some i) H1
theorem S8 {ns:List Int}:∀{us:List Value},Vals (ns.map V.int) us->IntsAre us ns:=by
 induction ns with
 | nil=>intro us r;rw [List.map_nil] at r;cases r;exact .nil
 | cons n ns ih=>
   intro us r
   rw [List.map_cons] at r
   cases r with
   | cons r1 r2=>
     obtain⟨t,e⟩:=r1
     subst e
     exact .cons n t (ih r2)
section
variable {X:Cx} {e:Expr} {te:TE} {lo hi:Option Expr} {tl th:TO} {pos p2:Pos}
theorem a09:PO X none tNoPart:=by
 intro pins s σ H Q I h
 rw [evalPart_none]
 exact wpAny_pure ⟨none,H,I,.none,h⟩
theorem a10 (h:PE X e te):PO X (some e) (bi4 te):=by
 intro pins s σ H Q I hw
 rw [evalPart_some]
 refine thn (h pins s σ H _ I hw) λu s1 ⟨x,H1,I1,r1,q1⟩=>?_
 obtain⟨i,rfl,q⟩:=q1
 obtain⟨t,rfl⟩:=r1
 exact⟨some i,H1,I1,.int i t,q⟩
def SlR (X:Cx) (r:V->Option Int->Option Int->Hp->VK->Prop):Prop:=
 ∀(pins:List (Addr×Obj)) (s:Shared) (σ:St) (H:Hp) (x:V) (v vl vu:Value) (lo hi:Option Int) (sl:Addr) (Q:VK),Inv X pins σ H s->RelV x v->s.heap.IsSliceOf sl vl vu .none->IsPart vl lo->IsPart vu hi->r x lo hi H Q->
  ∃T id,typeLookup (.type T) "__getitem__" = pure (some (.builtin id))/\s.TypeIs v T/\wpAny (model X.prog X.w) X.A (getItem v (.ref sl)) (EP X pins σ Q) X.xe s
theorem SlR.or {r r':V->Option Int->Option Int->Hp->VK->Prop} (h:SlR X r) (h':SlR X r'):SlR X (λx lo hi H Q=>r x lo hi H Q\/r' x lo hi H Q):=by
 intro pins s σ H x v vl vu lo hi sl Q I rx hs pl pu q
 rcases q with q | q
 ·exact h pins s σ H x v vl vu lo hi sl Q I rx hs pl pu q
 ·exact h' pins s σ H x v vl vu lo hi sl Q I rx hs pl pu q
def tSl (r:V->Option Int->Option Int->Hp->VK->Prop) (te:TE) (tl th:TO):TE:=λσ H Q=>te σ H λx H1=>tl σ H1 λl H2=>th σ H2 λu H3=>r x l u H3 Q
theorem aQ8 {r:V->Option Int->Option Int->Hp->VK->Prop} (hr:SlR X r) (he:PE X e te) (hl:PO X lo tl) (hu:PO X hi th):PE X (.Subscript e (.Slice lo hi none p2) pos) (tSl r te tl th):=by
 intro pins s σ H Q I h
 refine Subscript_ (thn (he pins s σ H _ I h) λv s1 ⟨x,H1,I1,r1,q1⟩=>?_)
 refine wpAny_Slice (thn (hl pins s1 σ H1 _ I1 q1) λvl s2 ⟨l,H2,I2,pl,q2⟩=>thn (hu pins s2 σ H2 _ I2 q2) λvu s3 ⟨u,H3,I3,pu,q3⟩=>?_)
 rw [evalPart_none]
 refine wpAny_pure ?_
 have I4:Inv X pins σ H3 { s3 with heap:=s3.heap.push { cls:=.type "slice",data:=.fields #[vl,vu,.none] } }:=I3.kept (t':=s3.toks) λb ob q=>Heap.get?_push_of_some _ q
 obtain⟨T,id,hT,ht,hg⟩:=hr pins { s3 with heap:=s3.heap.push { cls:=.type "slice",data:=.fields #[vl,vu,.none] } } σ H3 x v vl vu l u s3.heap.objs.size Q I4 r1 (Heap.IsSliceOf.new ..) pl pu q3
 show wpAny (model X.prog X.w) X.A (subscriptTail e (.Slice lo hi none p2) v (.ref s3.heap.objs.size)) (EP X pins σ Q) X.xe { s3 with heap:=s3.heap.push { cls:=.type "slice",data:=.fields #[vl,vu,.none] } }
 exact tail_any (ops:=[.ref s3.heap.objs.size,v]) ht hT hg (by with_unfolding_all rfl)
def ap0 (xs:List V) (lo hi:Option Int):List V:=(xs.drop (HT.sIx xs.length 0 lo)).take (HT.sIx xs.length xs.length hi - HT.sIx xs.length 0 lo)
theorem y0 (xs:List V) (lo hi:Option Int):(ap0 xs lo hi).length<=xs.length:=by
 unfold ap0
 rw [List.length_take,List.length_drop]
 omega
def bn9 (K:PySem.W.Frag):V->Option Int->Option Int->Hp->VK->Prop:=λx lo hi H Q=>∃a xs,x=.ref a/\SqT K H a xs/\
 ¬(HT.sIx xs.length 0 lo=0/\HT.sIx xs.length xs.length hi=xs.length)/\∀p,H p=none->Q (.ref p) (upd H p (.tup (ap0 xs lo hi)))
theorem bc2:SlR X (bn9 X.K):=by
 intro pins s σ H x v vl vu lo hi sl Q I rx hs pl pu h
 obtain⟨a,xs,rfl,hx,hw,q⟩:=h
 cases rx
 obtain⟨its,r,ht,hz⟩:=I.tuple hx
 have hlen:its.toArray.size=xs.length:=by rw [List.size_toArray];exact r.length.symm
 refine⟨"tuple",_,PyProof.Rows.slot_tuple_getitem.lookup,ht.typeIs,?_⟩
 refine HT.getItem_tuple_cut ht hs pl pu (by rw [hlen];exact hw) ?_ (by rw [hlen];exact hz)
 rw [hlen]
 refine⟨.ref s.heap.objs.size,_,I.laid (t':=s.toks) (o:=.tup (ap0 xs lo hi)) (λb ob q=>Heap.get?_push_of_some _ q) (Nat.le_refl _) ?_,rfl,q _ (I.hok.fresh (Nat.le_refl _))⟩
 exact⟨Nat.le_trans (y0 xs lo hi) hz,_,(r.drop (HT.sIx xs.length 0 lo)).take (HT.sIx xs.length xs.length hi - HT.sIx xs.length 0 lo),IsTup.new _ _⟩
def a80 (K:PySem.W.Frag):R2:=λx y H Q=>∃a b xs ys,x=.ref a/\y=.ref b/\SqT K H a xs/\SqT K H b ys/\xs≠[]/\xs.length+ys.length<=sizeLine/\
 (ys=[]->Q (.ref a) H)/\(ys≠[]->∀p,H p=none->Q (.ref p) (upd H p (.tup (xs++ys))))
theorem Vals.nil_iff {xs:List V} {us:List Value} (r:Vals xs us):us=[]↔xs=[]:=by
 cases r with
 | nil=>simp
 | cons _ _=>simp
theorem op_catT:OpR X (binaryOp .Add) (a80 X.K):=by
 intro pins s σ H x y v u Q I rx ry h
 obtain⟨a,b,xs,ys,rfl,rfl,ha,hb,hx,hz,q1,q2⟩:=h
 cases rx
 cases ry
 obtain⟨its,r1,p1,_⟩:=I.tuple ha
 obtain⟨its2,r2,p2,_⟩:=I.tuple hb
 refine HT.cat_tup p1 p2 (λz=>hx (r1.nil_iff.mp z)) (λz=>⟨.ref a,H,I,rfl,q1 (r2.nil_iff.mp z)⟩) (λz=>?_) (by rw [←r1.length,←r2.length];exact hz)
 refine⟨.ref s.heap.objs.size,_,I.laid (t':=s.toks) (o:=.tup (xs++ys)) (λb ob q=>Heap.get?_push_of_some _ q) (Nat.le_refl _) ?_,rfl,q2 (λw=>z (r2.nil_iff.mpr w)) _ (I.hok.fresh (Nat.le_refl _))⟩
 exact⟨by rw [List.length_append];exact hz,_,r1.append r2,IsTup.new _ _⟩
end
def ixN (n:Nat) (i:Int):Option Nat:=if 0<=i then (if i<n then some i.toNat else none) else if -(n:Int)<=i then some (i+n).toNat else none
def atI {α:Type} (xs:List α) (i:Int):Option α:=(ixN xs.length i).bind λj=>xs[j]?
theorem a11 {n:Nat} {i:Int} {j:Nat} (h:ixN n i=some j):seqIndex? i n=some j/\j<n/\-(n:Int)<=i/\i<n:=by
 unfold ixN at h
 by_cases h0:0<=i
 ·rw [if_pos h0] at h
  by_cases h1:i<n
  ·rw [if_pos h1] at h
   have e:i.toNat=j:=Option.some.inj h
   exact⟨by rw [seqIndex_of h0 h1,e],by omega,by omega,h1⟩
  ·rw [if_neg h1] at h;cases h
 ·rw [if_neg h0] at h
  by_cases h1 : -(n:Int)<=i
  ·rw [if_pos h1] at h
   have e:(i+n).toNat=j:=Option.some.inj h
   exact⟨by rw [seqIndex_neg (by omega) h1,e],by omega,h1,by omega⟩
  ·rw [if_neg h1] at h;cases h
theorem aE3 {α:Type} {xs:List α} {i:Int} {v:α} (h:atI xs i=some v):∃j,seqIndex? i xs.length=some j/\xs[j]?=some v/\j<xs.length/\-(xs.length:Int)<=i/\i<xs.length:=by
 unfold atI at h
 cases e:ixN xs.length i with
 | none=>rw [e] at h;cases h
 | some j=>
   rw [e] at h
   obtain⟨h1,h2,h3,h4⟩:=a11 e
   exact⟨j,h1,h,h2,h3,h4⟩
def aE4 (b:Expr):Prop:=∀o i,subscripted b false o i=operate [o,i] (getItem o i)
def IxR (X:Cx) (r:R2):Prop:=
 ∀(value slice:Expr) (pins:List (Addr×Obj)) (s:Shared) (σ:St) (H:Hp) (x y:V) (v u:Value) (Q:VK),Inv X pins σ H s->RelV x v->RelV y u->r x y H Q->
  subscripted slice false v u=operate [v,u] (getItem v u)->wpAny (model X.prog X.w) X.A (subscriptTail value slice v u) (EP X pins σ Q) X.xe s
def MtR (X:Cx) (id:String) (r:V->List V->Hp->VK->Prop):Prop:=
 ∀(pins:List (Addr×Obj)) (s:Shared) (σ:St) (H:Hp) (x:V) (xs:List V) (v:Value) (us:List Value) (Q:VK),Inv X pins σ H s->RelV x v->Vals xs us->r x xs H Q->
  wpAny (model X.prog X.w) X.A (call (.builtin id) (v::us)) (EP X pins σ Q) X.xe s
section
variable {X:Cx} {a b:Expr} {ta tb:TE} {pos:Pos}
theorem IxR.or {r r':R2} (h:IxR X r) (h':IxR X r'):IxR X (λx y H Q=>r x y H Q\/r' x y H Q):=by
 intro value slice pins s σ H x y v u Q I rx ry q hs
 rcases q with q | q
 ·exact h value slice pins s σ H x y v u Q I rx ry q hs
 ·exact h' value slice pins s σ H x y v u Q I rx ry q hs
theorem bi5 {r:R2} (hr:IxR X r) (ha:PE X a ta) (hb:PE X b tb) (hs:aE4 b):PE X (.Subscript a b pos) (tOp r ta tb):=by
 intro pins s σ H Q I h
 exact Subscript_ (bb5 ha hb I h λv u s2 x y H2 I2 rx ry q=>hr a b pins s2 σ H2 x y v u Q I2 rx ry q (hs _ _))
def bi6 (K:PySem.W.Frag):R2:=λx y H Q=>∃p xs i v,x=.ref p/\y=.int i/\SqL K H p xs/\atI xs i=some v/\Q v H
def bi7 (K:PySem.W.Frag):R2:=λx y H Q=>∃p xs i v,x=.ref p/\y=.int i/\SqT K H p xs/\atI xs i=some v/\Q v H
theorem ix_list:IxR X (bi6 X.K):=by
 intro value slice pins s σ H x y v u Q I rx ry h hs
 obtain⟨p,xs,i,z,rfl,rfl,hq,he,q⟩:=h
 cases rx
 obtain⟨t,rfl⟩:=ry
 obtain⟨its,r,pl,hz⟩:=I.list hq
 obtain⟨j,h1,h2,h3,h4,h5⟩:=aE3 he
 obtain⟨w,ew,rw'⟩:=r.get h2
 have hl:=r.length
 have hn:=az8
 have fin:EP X pins σ Q w s:=⟨z,H,I,rw',q⟩
 by_cases h0:0<=i
 ·have hj:i.toNat=j:=by
   rw [seqIndex_of h0 h5] at h1
   exact Option.some.inj h1
  exact item_listR pl.isList h0 (by omega) (by rw [hj];simpa using ew) fin hs
 ·have hj:(i+(its.toArray.size:Int)).toNat=j:=by
   rw [seqIndex_neg (by omega) h4] at h1
   rw [List.size_toArray,←hl]
   exact Option.some.inj h1
  exact subscriptTail_builtinR (x:=w) pl.isList.typeIs slot_list_getitem.lookup
   (wpAny_getItem_list_neg (Q:=λr s'=>r=w/\EP X pins σ Q r s') pl.isList (by omega) (by rw [List.size_toArray] <;> omega) (by omega) (by rw [hj];simpa using ew) ⟨rfl,fin⟩) hs
theorem bc3:IxR X (bi7 X.K):=by
 intro value slice pins s σ H x y v u Q I rx ry h hs
 obtain⟨p,xs,i,z,rfl,rfl,hq,he,q⟩:=h
 cases rx
 obtain⟨t,rfl⟩:=ry
 obtain⟨its,r,pl,hz⟩:=I.tuple hq
 obtain⟨j,h1,h2,h3,h4,h5⟩:=aE3 he
 obtain⟨w,ew,rw'⟩:=r.get h2
 have hl:=r.length
 have hn:=az8
 have fin:EP X pins σ Q w s:=⟨z,H,I,rw',q⟩
 exact subscriptTail_builtinR (x:=w) pl.typeIs slot_tuple_getitem.lookup
  (getItem_tuple (j:=j) (Q:=λr s'=>r=w/\EP X pins σ Q r s') pl (by omega) (by omega) (by rw [List.size_toArray,←hl];exact h1) (by simpa using ew) ⟨rfl,fin⟩) hs
theorem ap1 (lo hi:Option Int) (n:Nat):(sliceBounds lo hi none n).1=((HT.sIx n 0 lo:Nat):Int)/\(sliceBounds lo hi none n).2.1=((HT.sIx n n hi:Nat):Int)/\(sliceBounds lo hi none n).2.2=1:=by
 refine⟨?_,?_,rfl⟩
 ·cases lo with
  | none=>simp [sliceBounds,HT.sIx]
  | some i=>
    simp only [sliceBounds,HT.sIx,Option.getD_none,show (1:Int) > 0 by decide,if_true]
    by_cases h:i<0
    ·simp only [h,if_true] <;> omega
    ·simp only [h,if_false] <;> omega
 ·cases hi with
  | none=>simp [sliceBounds,HT.sIx]
  | some i=>
    simp only [sliceBounds,HT.sIx,Option.getD_none,show (1:Int) > 0 by decide,if_true]
    by_cases h:i<0
    ·simp only [h,if_true] <;> omega
    ·simp only [h,if_false] <;> omega
theorem aj7 (its:List Value) (lo hi:Option Int):slicePick its.toArray lo hi none=((its.drop (HT.sIx its.length 0 lo)).take (HT.sIx its.length its.length hi - HT.sIx its.length 0 lo)).toArray:=by
 obtain⟨h1,h2,h3⟩:=ap1 lo hi its.toArray.size
 unfold slicePick
 rw [h1,h2,h3]
 simp only [sliceRange_one,pick_run,List.size_toArray] <;> rfl
def bo0 (K:PySem.W.Frag):V->Option Int->Option Int->Hp->VK->Prop:=λx lo hi H Q=>∃a xs,x=.ref a/\SqL K H a xs/\∀p,H p=none->Q (.ref p) (upd H p (.lst (ap0 xs lo hi)))
theorem sl_list:SlR X (bo0 X.K):=by
 intro pins s σ H x v vl vu lo hi sl Q I rx hs pl pu h
 obtain⟨a,xs,rfl,hx,q⟩:=h
 cases rx
 obtain⟨its,r,ht,hz⟩:=I.list hx
 have hlen:=r.length
 refine⟨"list",_,slot_list_getitem.lookup,ht.isList.typeIs,?_⟩
 refine wpAny_getItem_list_slice ht.isList hs pl pu .none (by simp) ?_ (by rw [List.size_toArray] <;> omega)
 rw [aj7,←hlen]
 refine⟨.ref s.heap.objs.size,_,I.laid (t':=s.toks) (o:=.lst (ap0 xs lo hi)) (λb ob q=>Heap.get?_push_of_some _ q) (Nat.le_refl _) ?_,rfl,q _ (I.hok.fresh (Nat.le_refl _))⟩
 exact⟨Nat.le_trans (y0 xs lo hi) hz,_,0,(r.drop (HT.sIx xs.length 0 lo)).take (HT.sIx xs.length xs.length hi - HT.sIx xs.length 0 lo),Heap.get?_push_size _ rfl⟩
def aE5:V->Bool
 | .non=>true
 | .bl _=>true
 | .int _=>true
 | .str _=>true
 | _=>false
def eqV:V->V->Bool
 | .non,.non=>true
 | .bl a,.bl b=>a == b
 | .bl a,.int b=>(if a then 1 else 0) == b
 | .int a,.bl b=>a == (if b then 1 else 0)
 | .int a,.int b=>a == b
 | .str a,.str b=>a == b
 | _,_=>false
theorem bc4 {A:Around} {s:Shared} {y x:V} {u v:Value} (ry:RelV y u) (rx:RelV x v) (fy:aE5 y=true) (fx:aE5 x=true):SeqAt.EqAt A s u v (eqV y x):=by
 cases y with
 | non=>
   cases ry
   cases x with
   | non=>cases rx;exact SeqAt.EqAt.same _
   | bl b=>cases rx;exact SeqAt.EqAt.none_bool b
   | int b=>obtain⟨t,rfl⟩:=rx;exact SeqAt.EqAt.none_int b t
   | str b=>obtain⟨t,rfl⟩:=rx;exact SeqAt.EqAt.none_str b t
   | _=>exact absurd (show false=true from fx) Bool.false_ne_true
 | bl a=>
   cases ry
   cases x with
   | non=>cases rx;exact SeqAt.EqAt.bool_none a
   | bl b=>cases rx;exact SeqAt.EqAt.bool_bool a b
   | int b=>obtain⟨t,rfl⟩:=rx;exact SeqAt.EqAt.bool_int a b t
   | str b=>obtain⟨t,rfl⟩:=rx;exact SeqAt.EqAt.bool_str a b t
   | _=>exact absurd (show false=true from fx) Bool.false_ne_true
 | int a=>
   obtain⟨t',rfl⟩:=ry
   cases x with
   | non=>cases rx;exact SeqAt.EqAt.int_none a t'
   | bl b=>cases rx;exact SeqAt.EqAt.int_bool a t' b
   | int b=>obtain⟨t,rfl⟩:=rx;exact SeqAt.EqAt.int_int a t' b t
   | str b=>obtain⟨t,rfl⟩:=rx;exact SeqAt.EqAt.int_str a t' b t
   | _=>exact absurd (show false=true from fx) Bool.false_ne_true
 | str a=>
   obtain⟨t',rfl⟩:=ry
   cases x with
   | non=>cases rx;exact SeqAt.EqAt.str_none a t'
   | bl b=>cases rx;exact SeqAt.EqAt.str_bool a t' b
   | int b=>obtain⟨t,rfl⟩:=rx;exact SeqAt.EqAt.str_int a t' b t
   | str b=>obtain⟨t,rfl⟩:=rx;exact SeqAt.EqAt.str_str a t' b t
   | _=>exact absurd (show false=true from fx) Bool.false_ne_true
 | _=>exact absurd (show false=true from fy) Bool.false_ne_true
theorem ap2:CallR X (.builtin "len") (λxs H Q=>∃p ys,xs=[.ref p]/\(SqL X.K H p ys\/SqT X.K H p ys)/\Q (.int ys.length) H):=by
 intro pins s σ H xs us Q I r h
 obtain⟨p,ys,rfl,hq,q⟩:=h
 obtain⟨u,rfl,rx⟩:=g7 r
 cases rx
 have hn:=az8
 rcases hq with hq | hq
 ·obtain⟨its,r',pl,hz⟩:=I.list hq
  have hlen:=r'.length
  exact Calls.call_len_list pl.isList (by simp only [List.size_toArray] <;> omega) ⟨.int ys.length,H,I.tok _,⟨s.toks+1,by rw [List.size_toArray,hlen]⟩,q⟩
 ·obtain⟨its,r',pl,hz⟩:=I.tuple hq
  have hlen:=r'.length
  exact len_tuple pl (by simp only [List.size_toArray] <;> omega) ⟨.int ys.length,H,I.tok _,⟨s.toks+1,by rw [List.size_toArray,hlen]⟩,q⟩
theorem CallR.or {f:Value} {r r':List V->Hp->VK->Prop} (h:CallR X f r) (h':CallR X f r'):CallR X f (λxs H Q=>r xs H Q\/r' xs H Q):=by
 intro pins s σ H xs us Q I rs q
 rcases q with q | q
 ·exact h pins s σ H xs us Q I rs q
 ·exact h' pins s σ H xs us Q I rs q
theorem ap3:CallR X (.type "list") (λxs H Q=>∃p ys,xs=[.ref p]/\(SqL X.K H p ys\/SqT X.K H p ys)/\∀l,H l=none->Q (.ref l) (upd H l (.lst ys))):=by
 intro pins s σ H xs us Q I r h
 obtain⟨p,ys,rfl,hq,q⟩:=h
 obtain⟨u,rfl,rx⟩:=g7 r
 cases rx
 have fin:∀(its:List Value),Vals ys its->ys.length<=sizeLine->∀(h':Heap) (c':Nat),(∀b o',s.heap.get? b=some o'->h'.get? b=some o')->
  h'.get? s.heap.objs.size=some { cls:=.type "list",dict:=none,data:=.seq its.toArray c',slots:=#[] }->EP X pins σ Q (.ref s.heap.objs.size) { s with heap:=h' }:=λits r' hz h' c' kp e=>
  ⟨.ref s.heap.objs.size,_,I.laid (t':=s.toks) kp (Nat.le_refl _) (show ObjOk X.prog X.w _ h' _ (.lst ys) from ⟨hz,its,c',r',e⟩),rfl,q _ (I.hok.fresh (Nat.le_refl _))⟩
 rcases hq with hq | hq
 ·obtain⟨its,r',pl,hz⟩:=I.list hq
  have hlen:=r'.length
  obtain⟨o,ho,hc,n,hd⟩:=pl.isList
  exact call_list_seq p (.inl rfl) ho hc hd (λh' c' kp e=>fin its r' hz h' c' kp e) (by simp only [List.size_toArray] <;> omega)
 ·obtain⟨its,r',pl,hz⟩:=I.tuple hq
  have hlen:=r'.length
  obtain⟨o,ho,hc,n,hd⟩:=pl
  exact call_list_seq p (.inr rfl) ho hc hd (λh' c' kp e=>fin its r' hz h' c' kp e) (by simp only [List.size_toArray] <;> omega)
def tyV (K:PySem.W.Frag) (T:String) (x:V) (H:Hp):Prop:=match x with
 | .str _=>T="str"
 | .int _=>T="int"
 | .ref p=>(T="list"/\∃xs,SqL K H p xs)\/(T="tuple"/\∃o,K.lookup p=some o/\o.cls=.type "tuple"/\o.dict=none)\/
  (T="dict"/\((∃kvs,H p=some (.dK kvs))\/∃kvs,H p=some (.dT kvs)))\/(T="set"/\∃S n,H p=some (.set S n))
 | _=>False
theorem bc5 {pins:List (Addr×Obj)} {σ:St} {H:Hp} {s:Shared} {T:String} {x:V} {v:Value} (I:Inv X pins σ H s) (r:RelV x v) (ty:tyV X.K T x H) :
 s.TypeIs v T/\∀a,v=.ref a->∃ob,s.heap.get? a=some ob/\ob.dict=none:=by
 cases x with
 | str z=>
   obtain⟨t,rfl⟩:=r
   cases (show T="str" from ty)
   exact⟨typeIs_str s z t,λ_ e=>nomatch e⟩
 | int i=>
   obtain⟨t,rfl⟩:=r
   cases (show T="int" from ty)
   exact⟨typeIs_int s i t,λ_ e=>nomatch e⟩
 | ref p=>
   cases r
   rcases ty with ⟨rfl,xs,hq⟩ | ⟨rfl,o,hk,hc,hd⟩ | ⟨rfl,hk⟩ | ⟨rfl,S,n,hk⟩
   ·obtain⟨its,_,pl,_⟩:=I.list hq
    refine⟨pl.isList.typeIs,λa e=>?_⟩
    cases e
    obtain⟨o,n,e,c,hd,_⟩:=pl
    exact⟨o,e,hd⟩
   ·refine⟨⟨o,I.kIn p o hk,hc⟩,λa e=>?_⟩
    cases e
    exact⟨o,I.kIn _ o hk,hd⟩
   ·have z:∃o,s.heap.get? p=some o/\o.ExactDict:=by
     rcases hk with ⟨kvs,hk⟩ | ⟨kvs,hk⟩
     ·obtain⟨_,_,_,_,o,_,_,e,ex,_⟩:=I.hok p _ hk
      exact⟨o,e,ex⟩
     ·obtain⟨_,_,_,_,o,_,_,e,ex,_⟩:=I.hok p _ hk
      exact⟨o,e,ex⟩
    obtain⟨o,e,ex⟩:=z
    refine⟨⟨o,e,ex.1⟩,λa e2=>?_⟩
    cases e2
    exact⟨o,e,ex.2.1⟩
   ·obtain⟨o,_,_,_,e,ex,_⟩:=I.hok p _ hk
    refine⟨⟨o,e,ex.1⟩,λa e2=>?_⟩
    cases e2
    exact⟨o,e,ex.2.1⟩
 | _=>exact False.elim ty
def tBM (K:PySem.W.Frag) (T:String) (r:V->List V->Hp->VK->Prop) (to:TE) (t:TA):TE:=λσ H Q=>to σ H λx H1=>tyV K T x H1/\t σ H1 λxs H2=>r x xs H2 Q
variable {o e:Expr} {es:List Expr} {to:TE} {t:TA} {name:Str} {apos cpos:Pos} {T id:String} {r:V->List V->Hp->VK->Prop}
theorem bi8 (pa:PlainAttrs T) (slot:Slot T name id) (hty:typeOf (.builtin id)=pure (.type "method_descriptor")) (hm:MtR X id r) (ho:PE X o to) (ha:PA X (e::es) t)
 (hbase:attributeBase o name X.env (eval o X.env)=eval o X.env:=by rfl)
 (hfew:((backTo cpos (starEach (e::es) X.env)).all (λx=>!x.1)&&(backToKw cpos (keywordEach [] X.env)).all (λx=>x.1.isSome)
  &&decide ((e::es).length+([]:List Keyword).length+(if ([]:List Keyword).isEmpty then 0 else 1)<30))=true:=by rfl)
 (hline:(apos.endLine == cpos.line)=true:=by rfl) (hs:starEach (e::es) X.env=(false,eval e X.env)::starEach es X.env:=by rfl) (hplain:(backTo cpos (starEach es X.env)).any (·.1)=false:=by rfl) :
 PE X (.Call (.Attribute o name apos) (e::es) [] cpos) (tBM X.K T r to t):=by
 intro pins s σ H Q I h
 refine wpAny_Call_method_late hbase hfew hline rfl (thn (ho pins s σ H _ I h) λv s1 ⟨x,H1,I1,r1,ty,q1⟩=>?_)
 obtain⟨h1,h2⟩:=bc5 I1 r1 ty
 refine⟨T,id,pa,slot,hty,h1,h2,?_⟩
 have hA:=ha cpos pins s1 σ H1 _ I1 q1
 rw [hs] at hA ⊢
 refine Calls.callWith_builtin (by show (false||(backTo cpos (starEach es X.env)).any (·.1))=false;rw [hplain] <;> rfl) (Calls.evalArgs_plain ?_)
 exact thn hA λus s2 ⟨vs,H2,I2,r2,q2⟩=>hm pins s2 σ H2 x vs v us Q I2 r1 r2 q2
/- xs.append(e),list.index on a module's tuple .. are MtR facts of 06m -/
end
def MtM (X:Cx) (id:String) (r:V->List V->Hp->VK->Prop):Prop:=
 ∀(pins:List (Addr×Obj)) (s:Shared) (σ:St) (H:Hp) (x:V) (xs:List V) (v:Value) (us:List Value) (Q:VK),Inv X pins σ H s->RelV x v->Vals xs us->r x xs H Q->
  wpAny (model X.prog X.w) X.A (call (.builtin id) (v::us)) (EP X pins σ Q) X.xe s
theorem Vals.one:∀{x:V} {us:List Value},Vals [x] us->∃u,us=[u]/\RelV x u
 | _,_,.cons r .nil=>⟨_,rfl,r⟩
section
variable {X:Cx} {pins:List (Addr×Obj)} {σ:St} {H:Hp} {s:Shared} {l b:Addr} {xs ys zs:List V}
theorem Inv.lset {its its':List Value} {n:Nat} {f:Array Value->Array Value} {t':Nat} (I:Inv X pins σ H s) (hH:H l=some (.lst xs))
 (e:s.heap.get? l=some { cls:=.type "list",data:=.seq its.toArray n }) (hf:f its.toArray=its'.toArray) (hv:Vals ys its') (hz:ys.length<=sizeLine) :
 Inv X pins σ (upd H l (.lst ys)) { s with heap:=s.heap.update l (Obj.mapSeq f),toks:=t' }:=by
 have q:=PySem.IsL.update e f
 rw [hf] at q
 refine I.write (x:=l) (e:=l) (by rw [hH];exact trivial) (.inl rfl) (λb' u hb hu=>(Heap.get?_update_other s.heap (Obj.mapSeq f) (Ne.symm hb)).trans hu) ⟨_,q⟩ ?_
 exact⟨hz,its',_,hv,q⟩
theorem Inv.lnew {its:List Value} {t':Nat} (I:Inv X pins σ H s) (hv:Vals ys its) (hz:ys.length<=sizeLine) :
 Inv X pins σ (upd H s.heap.objs.size (.lst ys)) { s with heap:=s.heap.push { cls:=.type "list",data:=.seq its.toArray },toks:=t' }:=
 I.laid (λ_ _ q=>Heap.get?_push_of_some _ q) (Nat.le_refl _) ⟨hz,its,0,hv,Heap.get?_push_size _ rfl⟩
theorem Inv.fresh (I:Inv X pins σ H s):H s.heap.objs.size=none:=I.hok.fresh (Nat.le_refl _)
theorem Inv.lstM (I:Inv X pins σ H s) (hH:H l=some (.lst xs)):xs.length<=sizeLine/\∃(its:List Value) (n:Nat),Vals xs its/\xs.length=its.length/\s.heap.get? l=some { cls:=.type "list",data:=.seq its.toArray n }:=by
 obtain⟨z,its,n,r,e⟩:=I.hok l _ hH
 exact⟨z,its,n,r,r.length,e⟩
end
section
variable {X:Cx}
def rAppend:V->List V->Hp->VK->Prop:=λx vs H Q=>∃l xs y,x=.ref l/\vs=[y]/\H l=some (.lst xs)/\xs.length<sizeLine/\Q .non (upd H l (.lst (xs++[y])))
theorem aK1:MtM X "list.append" rAppend:=by
 intro pins s σ H x vs v us Q I rx rv h
 obtain⟨l,xs,y,rfl,rfl,hH,hz,q⟩:=h
 cases rx
 obtain⟨u,rfl,ru⟩:=rv.one
 obtain⟨z,its,n,r,hl,e⟩:=I.lstM hH
 refine call_meets F.slot_list_append ⟨_,e,rfl⟩ F.entry_list_append (F.args_list_append_2 _ _) (PySem.list_append l its.toArray n u (by rw [List.size_toArray];omega)) ⟨e,?_⟩
 refine⟨.non,_,I.lset (its':=its++[u]) hH e (by simp) (r.append (.cons ru .nil)) ?_,rfl,q⟩
 rw [List.length_append,List.length_singleton]
 omega
def rCat:R2:=λx y H Q=>∃l b xs zs,x=.ref l/\y=.ref b/\H l=some (.lst xs)/\H b=some (.lst zs)/\xs.length+zs.length<=sizeLine/\∀p,H p=none->Q (.ref p) (upd H p (.lst (xs++zs)))
theorem bc6:OpR X (binaryOp .Add) rCat:=by
 intro pins s σ H x y v u Q I rx ry h
 obtain⟨l,b,xs,zs,rfl,rfl,hH,hB,hz,q⟩:=h
 cases rx
 cases ry
 obtain⟨z,its,n,r,hl,e⟩:=I.lstM hH
 obtain⟨z2,its2,n2,r2,hl2,e2⟩:=I.lstM hB
 refine PySem.P.add_list e e2 ?_ (by rw [List.size_toArray,List.size_toArray];omega)
 have ea:its.toArray++its2.toArray=(its++its2).toArray:=by simp
 rw [ea]
 exact⟨.ref _,_,I.lnew (t':=s.toks) (r.append r2) (by rw [List.length_append];omega),rfl,q _ I.fresh⟩
end
end L2
namespace Att
open PySem PySem.W PySem.Calls PyProof.Rows
theorem z9 {P:Params} {h:Heap}:∀(ns:List Int) (vs:List Value),WellAll P h vs (ns.map WData.int)->IntsAre vs ns:=by
 intro ns
 induction ns with
 | nil=>
   intro vs w
   rw [List.map_nil] at w
   cases w
   exact .nil
 | cons n ns ih=>
   intro vs w
   rw [List.map_cons] at w
   cases w with
   | cons a b=>
     cases a
     exact .cons _ _ (ih _ b)
theorem aK2 {l:OpenLaw} {n:Nat} (hn:l.most=some n) {P:Params} {h:Heap} {args:List WData} {vals:List Value}
 (hpre:l.row.toRowW.claim.pre args=true) (hwl:WellAll P h vals args) :
 ∃a vs ns,vals=[Value.ref a]/\args=[WData.list (ns.map WData.int)]/\h.get? a=some { cls:=.type "list",data:=.seq vs.toArray }/\IntsAre vs ns/\ns.length<=n:=by
 have hsh:WShape.hasAll [] args [.list .int]=true:=(pre_splitW hpre).1
 have hc:l.pre.holds [] { args:=args }=true:=(pre_splitW hpre).2
 obtain⟨d,r,rfl,h1,h2⟩:=hasAllW_cons hsh
 obtain rfl:=hasAllW_nil h2
 obtain⟨xs,rfl,h3⟩:=hasW_list h1
 obtain⟨ns,rfl⟩:=items_int h3
 have hlen:ns.length<=n:=by
  unfold OpenLaw.pre at hc
  have h4:(WTm.not (.lt (.lit (.int (n:Int))) (.len (.arg 0)))).holds [] { args:=[.list (ns.map .int)] }=true:=by
   have h4:=(holds_andW hc).1
   rw [hn] at h4
   exact h4
  have h5:=condW_of h4 (w_not (w_lt w_lit (w_len_list (w_arg rfl))))
  rw [List.length_map] at h5
  refine Nat.le_of_not_lt λq=>?_
  have q':(n:Int)<((ns.length:Nat):Int):=by omega
  first
   | (rw [decide_eq_true q'] at h5;exact absurd h5 (by decide))
   | (simp at h5;omega)
 cases hwl with
 | cons w1 w2=>
   cases w2
   cases w1 with
   | list ho hall=>exact⟨_,_,ns,rfl,rfl,ho,z9 ns _ hall,hlen⟩
theorem aK3 (l:OpenLaw) (args:List WData):l.row.toRowW.claim.post args (.bool true) args=true:=
 postW_of (r:=l.row.toRowW) (X:=(true == true))
  (show WShape.has [] (.bool true) .bool=true by first | rfl | decide | simp [WShape.has,WShape.arms,WShape.armsAll])
  (show (WTm.eq .res (.lit (.bool true))).value [] { args:=args,res:=some (.bool true),after:=args }=some (.bool (true == true)) from w_eq_bool (w_res rfl) w_lit) rfl
theorem au3 {l:OpenLaw} {n:Nat} {q:Program} {loose:List Str} {XP:(Str->Option Value)->Heap->Prop} {YP:World->Heap->Prop} {d:DefRec}
 (hn:l.most=some n) (hdf:d.params.defaults=[])
 (call:∀(w:World) (s₀ s₁:Shared) (mg mb:Str->Option Value) (fa:Addr) (o:Obj) (pm cd doc:Value) (a:Addr) (vs:List Value) (ns:List Int),
  Ground q loose [] XP w s₀ mg mb s₁.heap->YP w s₁.heap->
  s₁.heap.get? fa=some o->o.data=.func (docDef d.name d.params d.body d.scope pm cd doc)->s₁.heap.CodeRec cd d.name->mg d.name=some (.ref fa)->
  s₁.heap.get? a=some { cls:=.type "list",data:=.seq vs.toArray }->IntsAre vs ns->ns.length<=n->s₁.gens=#[]->
  codeAny (model l.prog w) callerA (.call (.ref fa) ⟨[.ref a],[]⟩) (λr s'=>r=.ok (.ret (.bool true))/\OldK s₁.heap s'.heap/\s'.os=s₁.os/\AllBare s'.gens) s₁) :
 WalkO q loose XP YP l.row.toRowW d [] (λf vs=>PySem.call f vs):=by
 intro w s₀ s₁ mg mb G Y fa o pm cd doc dV kV ho hd hcd hD hmg hg args vals as hpre hlay hrd hwl hlo
 obtain rfl:dV=.none:=Dflts.none hD hdf
 obtain rfl:kV=.none:=Dflts.noKw hD
 obtain⟨a,vs,ns,rfl,rfl,hobj,hints,hlen⟩:=aK2 hn hpre hwl
 refine enter_call (codeAny_mono (call w s₀ s₁ mg mb fa o pm cd doc a vs ns G Y ho (fd_plain hd) hcd hmg hobj hints hlen hg) λr s' hq=>?_)
 obtain⟨rfl,h2,h3,h4⟩:=hq
 exact⟨.inl ⟨.bool true,.bool true,[],rfl,λ_=>rfl,.bool true,aK3 l _,λ_=>⟨List.Pairwise.nil,λ_ hm=>(nomatch hm)⟩⟩,h2,h3,h4⟩
end Att
namespace L2
open PySem PySem.Spec PyProof.Rows
theorem d6:∀{vs:List Value} {ns:List Int},IntsAre vs ns->Vals (ns.map V.int) vs
 | _,_,.nil=>.nil
 | _,_,.cons n t h=>.cons ⟨t,rfl⟩ (d6 h)
def bc7 (H:Hp):Prop:=∀b,H b=none\/∃o xs,H b=some (.frz o (.lst xs))
theorem aQ9 {P:Program} {w:World} {K:PySem.W.Frag} {mg mb:Str->Option Value} {CX:CXT} {k:Nat} {fa a:Addr} {fd:FuncData} {x:Str} {sp:Sp} {s₁:Shared} {vs:List Value} {ns:List Int}
 (KX:K.In s₁.heap) (hns:s₁.heap.Ns mainGlobals mg) (hb:s₁.heap.Ns builtinsNs mb) (hbb:∀x:Str,x≠"__name__"->mb x=bootBuiltins x) (hlim:s₁.heap.NoLimit) (hg:s₁.gens=#[])
 (ha:s₁.heap.get? a=some { cls:=.type "list",data:=.seq vs.toArray }) (hi:IntsAre vs ns) (hl:ns.length<=sizeLine) (hr:Room k callerA)
 (F:∀base:Heap,K.In base->base.Ns mainGlobals mg->FnOk P w K mg base CX k fa fd [x] sp) (hbind:∀(s:Shared) (u:Value),BindsTo s fd ⟨[u],[]⟩ [(x,u)])
 (hsp:∀H:Hp,bc7 H->SqL K H a (ns.map V.int)->sp [.ref a] H (λv _=>v=.bl true) λ_ _ _=>False)
 (hCX:∀H e s',CX [] H s₁ (λ_ _ _=>False) e s'->False) :
 codeAny (model P w) callerA (.call (.ref fa) ⟨[.ref a],[]⟩) (λr s'=>r=.ok (.ret (.bool true))/\OldK s₁.heap s'.heap/\s'.os=s₁.os/\AllBare s'.gens) s₁:=by
 have rv:=d6 hi
 have lenV:=hi.length
 have core:∀H:Hp,bc7 H->SqL K H a (ns.map V.int)->HOk P w H s₁.heap->(∀b,H b≠none->b=a)->(H a≠none->K.lookup a=none)->
  codeAny (model P w) callerA (.call (.ref fa) ⟨[.ref a],[]⟩) (λr s'=>r=.ok (.ret (.bool true))/\OldK s₁.heap s'.heap/\s'.os=s₁.os/\AllBare s'.gens) s₁:=by
  intro H hO hS hok hA hK
  have base_of:∀{b:Addr} {o:Obj},s₁.heap.get? b=some o->H b=none->(ao7 s₁.heap H).get? b=some o:=λe n=>aO7 e n
  have noA:∀{b:Addr} {o:Obj} {es:Array DictEntry} {ep:Nat},s₁.heap.get? b=some o->o.data=.dict es ep->H b=none:=λ{b o es ep} e d=>by
   cases q:H b with
   | none=>rfl
   | some u=>
     have e':b=a:=hA b (by rw [q];simp)
     subst e'
     rw [ha] at e;cases e
     have d':Data.seq vs.toArray _=Data.dict es ep:=d
     cases d'
  have nsK:∀{b:Addr} {m:Str->Option Value},s₁.heap.Ns b m->(ao7 s₁.heap H).Ns b m:=λ{b m} ⟨o,es,ep,e,d,r⟩=>⟨o,es,ep,base_of e (noA e d),d,r⟩
  have hKb:K.In (ao7 s₁.heap H):=λb o e=>base_of (KX b o e) (by
   cases q:H b with
   | none=>rfl
   | some u=>
     have e':b=a:=hA b (by rw [q];simp)
     subst e'
     rw [hK (by rw [q];simp)] at e;cases e)
  have hM:Mod K mg (ao7 s₁.heap H):=⟨hKb,nsK hns,⟨mb,nsK hb,hbb⟩,let ⟨mc,h1,h2⟩:=hlim;⟨mc,nsK h1,h2⟩⟩
  have e0:Env0 P w K mg (ao7 s₁.heap H) callerA [] s₁ H:=⟨rfl,hM,λb o e=>aZ3 e,Nat.le_of_eq (aJ3 _ _),trivial,λb hb=>absurd (show b∈([]:List Addr) from hb) (by simp),hok,.of_eq hg⟩
  refine codeAny_mono ((F _ hKb (nsK hns)).run callerA [] s₁ H ⟨[.ref a],[]⟩ [.ref a] [.ref a] _ _ hr e0 (hbind s₁ (.ref a)) (.cons rfl .nil) (hsp H hO hS)) λr s' h=>?_
  cases r with
  | error e=>exact (hCX H e s' h).elim
  | ok fl=>
    cases fl with
    | next=>exact False.elim h
    | brk=>exact False.elim h
    | cont=>exact False.elim h
    | ret u=>
      obtain⟨v,H',os,bare,un,hok',r',q⟩:=h
      have q':v=.bl true:=q
      subst q'
      obtain rfl:u=Value.bool true:=r'
      refine⟨rfl,OldK.of_keep λb o e=>?_,os,bare⟩
      cases q:H b with
      | none=>exact un.keep b o e q (by intro z;exact absurd (show b∈([]:List Addr) from z) (by simp)) (by simp)
      | some u=>
        rcases hO b with z | ⟨ob,xs,z⟩
        ·rw [q] at z;cases z
        ·have z2:=un.frzs b ob _ z
         obtain⟨e1,_⟩:=hok b _ z
         obtain⟨e2,_⟩:=hok' b _ z2
         rw [e] at e1;cases e1
         exact e2
 cases hk:K.lookup a with
 | some o=>
   have e:=KX a o hk
   rw [ha] at e
   cases e
   refine core (λ_=>none) (λ_=>.inl rfl) (.inr ⟨_,vs.toArray,_,hk,rfl,rfl,rfl,by rw [List.size_toArray,lenV];exact hl,by simpa using rv⟩) (λb u z=>by have z':(none:Option HO)=some u:=z;cases z') (λb z=>absurd rfl z) λz=>absurd rfl z
 | none=>
   refine core (λb=>if b=a then some (.frz { cls:=.type "list",data:=.seq vs.toArray } (.lst (ns.map V.int))) else none) (λb=>?_) (.inl (.inr ⟨{ cls:=.type "list",data:=.seq vs.toArray },if_pos rfl⟩)) (λb u z=>?_) (λb z=>?_) λ_=>hk
   ·by_cases hb:b=a
    ·exact .inr ⟨_,_,if_pos hb⟩
    ·exact .inl (if_neg hb)
   ·by_cases hb:b=a
    ·have z':=(if_pos hb).symm.trans z
     cases z'
     subst hb
     exact⟨ha,by rw [List.length_map];exact hl,vs,_,rv,ha⟩
    ·have z':=(if_neg hb).symm.trans z
     cases z'
   ·by_cases hb:b=a
    ·exact hb
    ·exact absurd (if_neg hb) z
def C0 (s:Stmt) (j:Nat):Stmt:=match s with
 | .ClassDef _ _ _ body _ _ _ _ _ _ _=>body.getD j (.Pass ⟨0,0,0,0⟩)
 | _=>.Pass ⟨0,0,0,0⟩
def C6 (s:Stmt):Arguments:=match s with
 | .FunctionDef _ a _ _ _ _ _ _ _ _=>a
 | _=>{ posonlyargs:=[],args:=[],vararg:=none,kwonlyargs:=[],kw_defaults:=[],kwarg:=none,defaults:=[] }
def C5 (s:Stmt):List Stmt:=match s with
 | .FunctionDef _ _ b _ _ _ _ _ _ _=>b
 | _=>[]
def B9 (s:Stmt):Scope:=match s with
 | .FunctionDef _ _ _ _ _ _ sc _ _ _=>sc
 | _=>{ kind:=.function,names:=[],isGenerator:=false,isCoroutine:=false }
abbrev CX0:CXT:=λ_ _ _ _ _ _=>False
abbrev E0:XK:=λ_ _ _=>False
theorem aE6 {X:Cx}:j4 CX0 X E0:=λ_ _ _ _ _ _ _ h=>h.elim
structure Fun (K:PySem.W.Frag) (x qual:Str) (st:Stmt) (f:Addr) (fd:FuncData):Prop where
 ex:∃(oc:Value) (od:Option Addr) (kV doc pm:Value) (an:Option Addr) (cdv ct:Value) (osl:Array (Option Value)),
  fd=PySem.W.fnOf x qual (C6 st) (C5 st) (B9 st) .none kV doc pm an cdv ct/\K.lookup f=some ⟨oc,od,.func fd,osl⟩/\PySem.W.codeIn K cdv qual=true
 kp:PySem.W.keepIn K (.ref f)=true
section
variable {P:Program} {w:World} {K:PySem.W.Frag} {mg:Str->Option Value} {base:Heap}
theorem Fun.ok {x qual:Str} {st:Stmt} {f:Addr} {fd:FuncData} {N ps:List Str} {k:Nat} {sp:Sp} (F:Fun K x qual st f fd) (S:C9 N ps (B9 st)) (len:∀vs H Q E,sp vs H Q E->vs.length=ps.length)
 (hbody:∀(cdv:Value) (A:Around) (outer:List Env) (s:Shared) (H:Hp) (vs:List V) (Q:VK) (E:XK),Room k (A.deeper (envOfC qual (B9 st) s.heap.objs.size f cdv))->sp vs H Q E->
  ∃t,PSs (aj6 CX0 P w K mg base N qual (B9 st) f cdv A outer s H E).nox (C5 st) t/\t { nx:=λ_ H'=>Q .non H',rt:=Q } (start N vs) H):FnOk P w K mg base CX0 (k+1) f fd ps sp:=by
 obtain⟨oc,od,kV,doc,pm,an,cdv,ct,osl,rfl,lk,hcd⟩:=F.ex
 refine a79 lk hcd S len λA outer s H vs Q E hr hsp=>?_
 obtain⟨t,h,q⟩:=hbody cdv A outer s H vs Q E hr hsp
 exact⟨t,h.nox,q⟩
theorem Fun.binds {x qual:Str} {st:Stmt} {f:Addr} {fd:FuncData} {ps:List Str} (F:Fun K x qual st f fd)
 (h:∀(kV doc pm:Value) (an:Option Addr) (cdv ct:Value) (us:List Value),us.length=ps.length->bindArgs (PySem.W.fnOf x qual (C6 st) (C5 st) (B9 st) .none kV doc pm an cdv ct) ⟨us,[]⟩=pure (ps.zip us)):Binds K fd ps []:=by
 obtain⟨oc,od,kV,doc,pm,an,cdv,ct,osl,rfl,lk,hcd⟩:=F.ex
 exact .all (h kV doc pm an cdv ct)
theorem bc8 {x qual:Str} {st:Stmt} {f:Addr} {oc:Value} {od an:Option Addr} {osl:Array (Option Value)} {kV doc pm cdv ct:Value} (l:K.lookup f=some ⟨oc,od,.func (PySem.W.fnOf x qual (C6 st) (C5 st) (B9 st) .none kV doc pm an cdv ct),osl⟩)
 (c:PySem.W.codeIn K cdv qual=true) (k:PySem.W.keepIn K (.ref f)=true):Fun K x qual st f (PySem.W.fnOf x qual (C6 st) (C5 st) (B9 st) .none kV doc pm an cdv ct):=⟨⟨oc,od,kV,doc,pm,an,cdv,ct,osl,rfl,l,c⟩,k⟩
end
section
variable {X:Cx}
theorem pv (i:Nat) {x:Str} {pos:Pos} (hN:X.N[i]?=some x:=by rfl) (hv:Vis X.env.scope x:=by first | exact Or.inl rfl | exact Or.inr (Or.inl rfl) | exact Or.inr (Or.inr rfl)) (hd:(x == ("__debug__" : Str))=false:=by decide)
 (hcd:(x == ("__classdict__" : Str))=false:=by decide):PE X (.Name x pos) (a99 i):=ba0 hN hv hd hcd
end
section
variable {κ:Type} [DecidableEq κ]
def Y4 (kvs:List (κ×V)) (k:κ):Option V:=(kvs.find? λkv=>decide (kv.1=k)).map (·.2)
def U3 (kvs:List (κ×V)) (k:κ) (v:V):List (κ×V):=
 if (kvs.any λkv=>decide (kv.1=k))=true then kvs.map (λkv=>if kv.1=k then (kv.1,v) else kv) else kvs++[(k,v)]
theorem l6 {p:κ×V} {r:List (κ×V)} {k:κ} (e:p.1=k):Y4 (p::r) k=some p.2:=by simp [Y4,List.find?_cons,e]
theorem l7 {p:κ×V} {r:List (κ×V)} {k:κ} (e:¬p.1=k):Y4 (p::r) k=Y4 r k:=by simp [Y4,List.find?_cons,e]
theorem ab7 (k:κ):∀kvs:List (κ×V),(kvs.any λkv=>decide (kv.1=k))=(Y4 kvs k).isSome
 | []=>rfl
 | p::r=>by
   rw [List.any_cons]
   by_cases e:p.1=k
   ·simp only [l6 e,decide_eq_true e,Bool.true_or,Option.isSome_some]
   ·rw [l7 e,decide_eq_false e,Bool.false_or];exact ab7 k r
theorem Y9 (kvs:List (κ×V)) (k:κ) (v:V):(U3 kvs k v).length<=kvs.length+1:=by
 unfold U3
 split
 ·rw [List.length_map];omega
 ·rw [List.length_append,List.length_cons,List.length_nil];omega
theorem RelO.isSome_eq {o:Option V} {u:Option Value} (r:RelO o u):o.isSome=u.isSome:=by
 cases o with
 | none=>cases u with
   | none=>rfl
   | some _=>exact (show False from r).elim
 | some _=>cases u with
   | none=>exact (show False from r).elim
   | some _=>rfl
theorem RelO.getD {o:Option V} {u:Option Value} {d:V} {d':Value} (r:RelO o u) (rd:RelV d d'):RelV (o.getD d) (u.getD d'):=by
 cases o with
 | none=>cases u with
   | none=>exact rd
   | some _=>exact (show False from r).elim
 | some _=>cases u with
   | none=>exact (show False from r).elim
   | some _=>exact r
theorem KV.val {kvs:List (κ×V)} {vs:List (κ×Value)} (r:KV kvs vs) (k:κ):RelO (Y4 kvs k) (valueAt vs k):=by
 unfold KV at r
 induction r with
 | nil=>exact True.intro
 | @cons p q ps qs h t ih=>
   obtain⟨h1,h2⟩:=h
   by_cases e:p.1=k
   ·have e':q.1=k:=h1.symm.trans e
    have b:valueAt (q::qs) k=some q.2:=by simp [valueAt,List.find?_cons,e']
    rw [l6 e,b];exact h2
   ·have e':¬q.1=k:=λz=>e (h1.trans z)
    have b:valueAt (q::qs) k=valueAt qs k:=by simp [valueAt,List.find?_cons,e']
    rw [l7 e,b];exact ih
theorem KV.any {kvs:List (κ×V)} {vs:List (κ×Value)} (r:KV kvs vs) (k:κ):(kvs.any λkv=>decide (kv.1=k))=vs.any λkv=>decide (kv.1=k):=by
 unfold KV at r
 induction r with
 | nil=>rfl
 | cons h t ih=>rw [List.any_cons,List.any_cons,ih,h.1]
theorem KV.repl {kvs:List (κ×V)} {vs:List (κ×Value)} (r:KV kvs vs) (k:κ) {y:V} {u:Value} (ry:RelV y u) :
 KV (kvs.map λkv=>if kv.1=k then (kv.1,y) else kv) (vs.map λkv=>if kv.1=k then (kv.1,u) else kv):=by
 unfold KV at r ⊢
 induction r with
 | nil=>exact .nil
 | @cons p q ps qs h t ih=>
   rw [List.map_cons,List.map_cons]
   refine .cons ?_ ih
   obtain⟨h1,h2⟩:=h
   by_cases e:p.1=k
   ·rw [if_pos e,if_pos (h1.symm.trans e)];exact⟨h1,ry⟩
   ·rw [if_neg e,if_neg (λz=>e (h1.trans z))];exact⟨h1,h2⟩
theorem KV.put {kvs:List (κ×V)} {vs:List (κ×Value)} (r:KV kvs vs) (k:κ) {y:V} {u:Value} (ry:RelV y u):KV (U3 kvs k y) (stored vs k u):=by
 unfold U3 stored
 rw [r.any k]
 by_cases e:(vs.any λkv=>decide (kv.1=k))=true
 ·rw [if_pos e,if_pos e];exact r.repl k ry
 ·rw [if_neg e,if_neg e];exact Paired.snoc r ⟨rfl,ry⟩
theorem KV.length {kvs:List (κ×V)} {vs:List (κ×Value)} (r:KV kvs vs):kvs.length=vs.length:=Paired.length r
end
theorem al4 {P:Program} {w:World} {k:Key} {u:Value} (r:RelV (kV k) u):(K2 P w).is k u=true:=by
 cases k with
 | inl i=>obtain⟨t,e⟩:=(show ∃t,u=Value.int i t from r);subst e;exact at8 P w i t
 | inr x=>obtain⟨t,e⟩:=(show ∃t,u=Value.str x t from r);subst e;exact at9 P w x t
theorem al5 {P:Program} {w:World}:∀{ks:List Key} {us:List Value},Vals (ks.map kV) us->ItemsAre (K2 P w) ks us
 | [],_,r=>by rw [List.map_nil] at r;cases r;exact .nil
 | k::ks,_,r=>by
   rw [List.map_cons] at r
   cases r with
   | cons h t=>exact .cons (al4 h) (al5 t)
abbrev KT (H:Hp):List (List Key×V)->List (List Key×Addr×Value)->Prop:=Paired λp q=>p.1=q.1/\H q.2.1=some (.tup (p.1.map kV))/\RelV p.2 q.2.2
theorem KT.val {H:Hp} {kvs:List (List Key×V)} {xs:List (List Key×Addr×Value)} (r:KT H kvs xs) (k:List Key):RelO (Y4 kvs k) ((atKey xs k).map (·.2)):=by
 induction r with
 | nil=>exact True.intro
 | @cons p q ps qs h t ih=>
   obtain⟨h1,_,h2⟩:=h
   by_cases e:p.1=k
   ·have e':q.1=k:=h1.symm.trans e
    have b:atKey (q::qs) k=some q.2:=by simp [atKey,List.find?_cons,e']
    rw [l6 e,b];exact h2
   ·have e':¬q.1=k:=λz=>e (h1.trans z)
    have b:atKey (q::qs) k=atKey qs k:=by simp [atKey,List.find?_cons,e']
    rw [l7 e,b];exact ih
theorem KT.repl {H:Hp} {kvs:List (List Key×V)} {xs:List (List Key×Addr×Value)} (r:KT H kvs xs) (k:List Key) {y:V} {u:Value} (ry:RelV y u) :
 KT H (kvs.map λkv=>if kv.1=k then (kv.1,y) else kv) (xs.map (putAt k u)):=by
 induction r with
 | nil=>exact .nil
 | @cons p q ps qs h t ih=>
   rw [List.map_cons,List.map_cons]
   refine .cons ?_ ih
   obtain⟨h1,h2,h3⟩:=h
   unfold putAt
   by_cases e:p.1=k
   ·rw [if_pos e,if_pos (h1.symm.trans e)];exact⟨h1,h2,ry⟩
   ·rw [if_neg e,if_neg (λz=>e (h1.trans z))];exact⟨h1,h2,h3⟩
theorem KT.put {H:Hp} {kvs:List (List Key×V)} {xs:List (List Key×Addr×Value)} (r:KT H kvs xs) (k:List Key) {b:Addr} {y:V} {u:Value} (hb:H b=some (.tup (k.map kV))) (ry:RelV y u) :
 KT H (U3 kvs k y) (storedH xs k b u):=by
 have e:(kvs.any λkv=>decide (kv.1=k))=(atKey xs k).isSome:=by
  rw [ab7,(r.val k).isSome_eq,Option.isSome_map]
 unfold U3 storedH
 rw [e]
 by_cases q:(atKey xs k).isSome=true
 ·rw [if_pos q,if_pos q];exact r.repl k ry
 ·rw [if_neg q,if_neg q];exact Paired.snoc r ⟨rfl,hb,ry⟩
theorem KT.keeps {H H':Hp} {kvs:List (List Key×V)} {xs:List (List Key×Addr×Value)} (r:KT H kvs xs) (ht:∀b ys,H b=some (.tup ys)->H' b=some (.tup ys)):KT H' kvs xs:=
 Paired.mapP r λ_ _ z=>⟨z.1,ht _ _ z.2.1,z.2.2⟩
section
variable {P:Program} {w:World} {H:Hp} {h:Heap} {a:Addr}
theorem a81 {u:HO} (ok:HOk P w H h) (e:Rd H a u):ObjOk P w H h a u:=e.ok ok
theorem ab8 {kvs:List (Key×V)} (ok:HOk P w H h) (e:Rd H a (.dK kvs)):kvs.length<=sizeLine/\(a == sysModules)=false/\∃vs,KV kvs vs/\h.DictOf (K2 P w) a vs:=
 show ObjOk P w H h a (.dK kvs) from a81 ok e
theorem bi9 {kvs:List (Key×V)} (ok:HOk P w H h) (e:H a=some (.dK kvs)):kvs.length<=sizeLine/\(a == sysModules)=false/\∃vs,KV kvs vs/\h.DictOf (K2 P w) a vs:=ab8 ok (.inl e)
theorem Z0 {ks:List Key} (ok:HOk P w H h) (e:H a=some (.tup (ks.map kV))):(tupleKind (K2 P w)).is h ks a:=by
 obtain⟨_,its,r,o,h1,h2,n,h3⟩:=(show ObjOk P w H h a (.tup (ks.map kV)) from ok a _ e)
 exact⟨o,its.toArray,n,h1,h2,h3,by simpa using al5 r⟩
theorem ab9 {kvs:List (List Key×V)} (ok:HOk P w H h) (e:Rd H a (.dT kvs)):kvs.length<=sizeLine/\(a == sysModules)=false/\
 ∃xs,KT H kvs xs/\h.DictOfH (tupleKind (K2 P w)) a xs:=by
 obtain⟨z,y,xs,r,o,es,ep,h1,h2,h3,h4,h5⟩:=(show ObjOk P w H h a (.dT kvs) from a81 ok e)
 refine⟨z,y,xs,r,o,es,ep,h1,h2,h3,h4,λx hx=>?_,h5⟩
 have all:∀{l:List (List Key×V)} {m:List (List Key×Addr×Value)},KT H l m->∀x∈m,(tupleKind (K2 P w)).is h x.1 x.2.1:=by
  intro l m q
  induction q with
  | nil=>intro x hx;exact nomatch hx
  | @cons p q ps qs hq t ih=>
    intro x hx
    rcases List.mem_cons.mp hx with e | hx
    ·subst e
     exact Z0 ok (by rw [←hq.1];exact hq.2.1)
    ·exact ih x hx
 exact all r x hx
theorem aE7 {kvs:List (List Key×V)} (ok:HOk P w H h) (e:H a=some (.dT kvs)):kvs.length<=sizeLine/\(a == sysModules)=false/\
 ∃xs,KT H kvs xs/\h.DictOfH (tupleKind (K2 P w)) a xs:=ab9 ok (.inl e)
end
def DGet (H:Hp) (a:Addr) (y:V) (r:Option V):Prop:=
 (∃kvs k,Rd H a (.dK kvs)/\y=kV k/\r=Y4 kvs k)\/∃kvs k b,Rd H a (.dT kvs)/\y=.ref b/\H b=some (.tup (k.map kV))/\r=Y4 kvs k
def DPut (H:Hp) (a:Addr) (y v:V) (H':Hp):Prop:=
 (∃kvs k,H a=some (.dK kvs)/\y=kV k/\kvs.length<sizeLine/\H'=upd H a (.dK (U3 kvs k v)))\/
 ∃kvs k b,H a=some (.dT kvs)/\y=.ref b/\H b=some (.tup (k.map kV))/\kvs.length<sizeLine/\H'=upd H a (.dT (U3 kvs k v))
theorem DGet.t {H:Hp} {a b:Addr} {kvs:List (List Key×V)} {k:List Key} (e:H a=some (.dT kvs)) (eb:H b=some (.tup (k.map kV))):DGet H a (.ref b) (Y4 kvs k):=.inr ⟨kvs,k,b,.inl e,rfl,eb,rfl⟩
theorem DPut.t {H:Hp} {a b:Addr} {kvs:List (List Key×V)} {k:List Key} {v:V} (e:H a=some (.dT kvs)) (eb:H b=some (.tup (k.map kV))) (hl:kvs.length<sizeLine) :
 DPut H a (.ref b) v (upd H a (.dT (U3 kvs k v))):=.inr ⟨kvs,k,b,e,rfl,eb,hl,rfl⟩
section
variable {X:Cx} {pins:List (Addr×Obj)} {σ:St} {H:Hp} {s:Shared} {a:Addr} {y v:V} {u r:Value} {o:Option V} {A:Around} {E:Value->Shared->Prop}
theorem Inv.big (I:Inv X pins σ H s):sysModules<s.heap.objs.size:=by
 have h:mainGlobals<s.heap.objs.size:=(I.mod.glob.keeps I.bk).lt
 exact Nat.lt_trans (by decide) h
theorem aK4 {Q:Value->Shared->Prop} (hu:A.units+1<cLine) (I:Inv X pins σ H s) (g:DGet H a y (some v)) (ry:RelV y u) (h:∀w' s',Inv X pins σ H s'->RelV v w'->Q w' s') :
 wpAny (model X.prog X.w) A (getItem (.ref a) u) Q E s:=by
 rcases g with ⟨kvs,k,e,ey,l⟩ | ⟨kvs,k,b,e,ey,eb,l⟩
 ·subst ey
  obtain⟨z,hd,vs,rel,dd⟩:=ab8 I.hok e
  obtain⟨w',hw,rw'⟩:=RelO.some_of (v:=v) (o:=valueAt vs k) (by rw [l];exact rel.val k)
  exact wpAny_getItem_of (al4 ry) dd.mapOf hw (h w' _ (I.tok _) rw')
 ·subst ey
  cases (show u=Value.ref b from ry)
  obtain⟨z,hd,xs,rel,dd⟩:=ab9 I.hok e
  obtain⟨w',hw,rw'⟩:=RelO.some_of (v:=v) (o:=(atKey xs k).map (·.2)) (by rw [l];exact rel.val k)
  obtain⟨p,hp,hp2⟩:=Option.map_eq_some_iff.mp hw
  refine wpAny_getItem_heap (tupleKind_room_in1 hu) (Z0 I.hok eb) dd hp ?_
  rw [hp2]
  exact h w' _ (I.tok _) rw'
theorem bo1 {Q:Value->Shared->Prop} (hu:A.units+1<cLine) (I:Inv X pins σ H s) (g:DGet H a y o) (ry:RelV y u) (h:∀s',Inv X pins σ H s'->Q (.bool o.isSome) s') :
 wpAny (model X.prog X.w) A (compareOp .In u (.ref a)) Q E s:=by
 rcases g with ⟨kvs,k,e,ey,l⟩ | ⟨kvs,k,b,e,ey,eb,l⟩
 ·subst ey
  obtain⟨z,hd,vs,rel,dd⟩:=ab8 I.hok e
  refine wpAny_in_of (al4 ry) hd dd.mapOf ?_
  rw [←(rel.val k).isSome_eq,←l]
  exact h _ (I.tok _)
 ·subst ey
  cases (show u=Value.ref b from ry)
  obtain⟨z,hd,xs,rel,dd⟩:=ab9 I.hok e
  refine wpAny_in_heap (tupleKind_room_in1 hu) (Z0 I.hok eb) hd dd ?_
  have q:=(rel.val k).isSome_eq
  rw [Option.isSome_map] at q
  rw [←q,←l]
  exact h _ (I.tok _)
theorem ap4 {h':Heap} {t':Nat} {ob:HO} (I:Inv X pins σ H s) (mu:Mut (H a)) (hs:Heap.SameBut a s.heap h') (he:∃q,h'.get? a=some q) (new:ObjOk X.prog X.w (upd H a ob) h' a ob) :
 Inv X pins σ (upd H a ob) { s with heap:=h',toks:=t' }:=
 I.write (x:=a) (e:=a) mu (.inl rfl) (λb q hb z=>(hs.2 b hb).trans z) he new
theorem bc9 {P:Program} {w:World} {H':Hp} {h':Heap} {kvs:List (Key×V)} {vs:List (Key×Value)} (z:kvs.length<=sizeLine) (hd:(a == sysModules)=false) (rel:KV kvs vs) (dd:h'.DictOf (K2 P w) a vs) :
 ObjOk P w H' h' a (.dK kvs):=⟨z,hd,vs,rel,dd⟩
theorem aK5 {H':Hp} {Q:Unit->Shared->Prop} (hu:A.units+1<cLine) (I:Inv X pins σ H s) (g:DPut H a y v H') (ry:RelV y u) (rv:RelV v r) (h:∀s',Inv X pins σ H' s'->Q () s') :
 wpAny (model X.prog X.w) A (setItem (.ref a) u r) Q E s:=by
 rcases g with ⟨kvs,k,e,ey,l,eH⟩ | ⟨kvs,k,b,e,ey,eb,l,eH⟩
 ·subst ey eH
  obtain⟨z,hd,vs,rel,dd⟩:=bi9 I.hok e
  have hz:vs.length<=sizeLine:=by rw [←rel.length];exact z
  have hl:(U3 kvs k v).length<=sizeLine:=by have:=Y9 kvs k v;omega
  refine wpAny_setItem_pairs (hsz:=hz) (al4 ry) dd λh' dd' hs=>h _ ?_
  have he:∃q,h'.get? a=some q:=let ⟨q,_,_,hq,_⟩:=dd';⟨q,hq⟩
  exact ap4 I (by rw [e];exact True.intro) hs he (bc9 hl hd (rel.put k rv) dd')
 ·subst ey eH
  cases (show u=Value.ref b from ry)
  obtain⟨z,hd,xs,rel,dd⟩:=aE7 I.hok e
  have hz:xs.length<=sizeLine:=by rw [←Paired.length rel];exact z
  have hl:(U3 kvs k v).length<=sizeLine:=by have:=Y9 kvs k v;omega
  refine wpAny_setItem_heap (hsz:=hz) (tupleKind_room_in1 hu) (Z0 I.hok eb) dd λh' dd' hs=>h _ ?_
  obtain⟨q,es,ep,hq,h2,h3,h4,_,h5⟩:=dd'
  refine ap4 I (by rw [e];exact True.intro) hs ⟨q,hq⟩ ⟨hl,hd,_,(rel.put k eb rv).keeps λc ys ec=>?_,q,es,ep,hq,h2,h3,h4,h5⟩
  rw [D4 (a74 ec e (λz=>nomatch z))]
  exact ec
end
def bd0 (i:Expr):Prop:=∀ov iv,subscripted i false ov iv=operate [ov,iv] (getItem ov iv)
theorem a12 {prog:Program} {w:World} {A:Around} {E:Value->Shared->Prop} {s:Shared} {env:Env} {value slice:Expr} {pos:Pos} {T id:String} {Q:Value->Shared->Prop}
 (hl:typeLookup (.type T) "__getitem__" = pure (some (.builtin id))) (hs:bd0 slice)
 (h:wpAny (model prog w) A (eval value env) (λo s₁=>wpAny (model prog w) A (eval slice env) (λi s₂=>s₂.TypeIs o T/\wpAny (model prog w) A (getItem o i) Q E s₂) E s₁) E s) :
 wpAny (model prog w) A (eval (.Subscript value slice pos) env) Q E s:=by
 refine Subscript_ (wpAny_mono h (λo s₁ h₁=>wpAny_mono h₁ (λi s₂ h₂=>?_) λ_ _ x=>x) λ_ _ x=>x)
 obtain⟨hT,h₂⟩:=h₂
 unfold subscriptTail
 refine wpAny_bind ?_
 rw [getitemInPython_of_ne hT.not_modules]
 refine wpAny_bind (wpAny_specialOf hT hl ?_)
 have fin:wpAny (model prog w) A (subscripted slice false o i) (λr s₃=>wpAny (model prog w) A (letTemporaryGo value o r>>=λ_=>pure r) Q E s₃) E s₂:=by
  rw [hs o i]
  exact wpAny_operating (wpAny_mono h₂ (λr s₃ h₃=>wpAny_bind (wpAny_letTemporaryGo (wpAny_pure h₃))) λ_ _ x=>x)
 first
  | exact wpAny_pure (wpAny_bind fin)
  | exact wpAny_bind (wpAny_pure (wpAny_bind fin))
  | exact wpAny_bind fin
theorem au4 {X:Cx} {pins:List (Addr×Obj)} {σ:St} {H:Hp} {s:Shared} {a:Addr} {y:V} {o:Option V} (I:Inv X pins σ H s) (g:DGet H a y o):s.TypeIs (.ref a) "dict":=by
 rcases g with ⟨kvs,k,e,_,_⟩ | ⟨kvs,k,b,e,_,_,_⟩
 ·obtain⟨_,_,vs,_,dd⟩:=ab8 I.hok e
  exact dd.typeIs
 ·obtain⟨_,_,xs,_,dd⟩:=ab9 I.hok e
  exact dd.typeIs
def bj0 (td ty:TE):TE:=λσ H Q=>td σ H λx H1=>ty σ H1 λy H2=>∃a v,x=.ref a/\DGet H2 a y (some v)/\Q v H2
def bj1 (ty td:TE):TE:=λσ H Q=>ty σ H λy H1=>td σ H1 λx H2=>∃a o,x=.ref a/\DGet H2 a y o/\Q (.bl o.isSome) H2
def bj2 (td ty tv:TE):TS:=λD σ H=>tv σ H λv H1=>td σ H1 λx H2=>ty σ H2 λy H3=>∃a H4,x=.ref a/\DPut H3 a y v H4/\D.nx σ H4
section
variable {X:Cx} {o i e value:Expr} {pos pos' tpos:Pos} {td ty tv:TE}
theorem a13 (hu:X.A.units+1<cLine) (ho:PE X o td) (hi:PE X i ty) (hs:bd0 i):PE X (.Subscript o i pos) (bj0 td ty):=by
 intro pins s σ H Q I h
 refine a12 PySem.F.slot_dict_getitem.lookup hs (thn (ho pins s σ H _ I h) λu s1 ⟨x,H1,I1,rx,q1⟩=>thn (hi pins s1 σ H1 _ I1 q1) λiv s2 ⟨y,H2,I2,ry,a,v,ex,g,q2⟩=>?_)
 subst ex
 obtain rfl:u=Value.ref a:=rx
 exact⟨au4 I2 g,aK4 hu I2 g ry λw' s3 I3 rw'=>⟨v,H2,I3,rw',q2⟩⟩
theorem aR0 (hu:X.A.units+1<cLine) (hi:PE X i ty) (ho:PE X o td):PC X .In i o (bj1 ty td):=by
 intro pins s σ H Q I h
 refine thn (hi pins s σ H _ I h) λiv s1 ⟨y,H1,I1,ry,q1⟩=>thn (ho pins s1 σ H1 _ I1 q1) λu s2 ⟨x,H2,I2,rx,a,ov,ex,g,q2⟩=>?_
 subst ex
 obtain rfl:u=Value.ref a:=rx
 exact bo1 hu I2 g ry λs3 I3=>⟨.bl ov.isSome,H2,I3,rfl,q2⟩
theorem a14 (hu:X.A.units+1<cLine) (ho:PE X o td) (hi:PE X i ty) (hv:PE X value tv) (hs:swapsWith value (some (.Subscript o i pos')) pos.line X.env=pure false) :
 PS X (.Assign [.Subscript o i pos'] value pos) (bj2 td ty tv):=by
 intro pins s σ H D I h
 refine wpAny_Assign_Subscript (thn (hv pins s σ H _ I h) λr s1 ⟨v,H1,I1,rv,q1⟩=>thn (ho pins s1 σ H1 _ I1 q1) λu s2 ⟨x,H2,I2,rx,q2⟩=>thn (hi pins s2 σ H2 _ I2 q2) λiv s3 ⟨y,H3,I3,ry,a,H4,ex,g,q3⟩=>?_) hs
 subst ex
 obtain rfl:u=Value.ref a:=rx
 exact aK5 hu I3 g ry rv λs4 I4=>⟨σ,H4,I4,q3⟩
end
theorem aR1 {P:Program} {w:World} {H:Hp} (h:Heap) (hb:sysModules<h.objs.size):ObjOk P w H (h.push { cls:=.type "dict",data:=.dict #[] }) h.objs.size (.dT []):=
 ⟨Nat.zero_le _,beq_eq_false_iff_ne.mpr (Ne.symm (Nat.ne_of_lt hb)),[],.nil,_,#[],0,Heap.get?_push_size _ rfl,⟨rfl,rfl,rfl⟩,rfl,rfl,List.nodup_nil⟩
def tDNewT:TE:=λ_ H Q=>∀p,H p=none->Q (.ref p) (upd H p (.dT []))
section
variable {X:Cx} {pos:Pos}
theorem aR2:PE X (.Dict [] [] pos) tDNewT:=λpins s σ H Q I h=>
 wpAny_Dict_empty ⟨.ref s.heap.objs.size,_,I.laid (a:=s.heap.objs.size) (o:=.dT []) (t':=s.toks) (λ_ _ q=>Heap.get?_push_of_some _ q) (Nat.le_refl _) (aR1 s.heap I.big),rfl,h _ (I.hok.fresh (Nat.le_refl _))⟩
end
structure M1 (X:Cx) (o:Expr) (m:Str) (apos:Pos) (e:Expr) (cpos:Pos):Prop where
 base:attributeBase o m X.env (eval o X.env)=eval o X.env
 few:((backTo cpos (starEach [e] X.env)).all (λx=>!x.1)&&(backToKw cpos (keywordEach [] X.env)).all (λx=>x.1.isSome)
  &&decide (([e]:List Expr).length+([]:List Keyword).length+(if ([]:List Keyword).isEmpty then 0 else 1)<30))=true
 line:(apos.endLine == cpos.line)=true
 trees:backTo cpos (starEach [e] X.env)=[(false,eval e X.env)]
structure M2 (X:Cx) (o:Expr) (m:Str) (apos:Pos) (e f:Expr) (cpos:Pos):Prop where
 base:attributeBase o m X.env (eval o X.env)=eval o X.env
 few:((backTo cpos (starEach [e,f] X.env)).all (λx=>!x.1)&&(backToKw cpos (keywordEach [] X.env)).all (λx=>x.1.isSome)
  &&decide (([e,f]:List Expr).length+([]:List Keyword).length+(if ([]:List Keyword).isEmpty then 0 else 1)<30))=true
 line:(apos.endLine == cpos.line)=true
 trees:backTo cpos (starEach [e,f] X.env)=[(false,eval e X.env),(false,eval f X.env)]
def IsD (H:Hp) (a:Addr):Prop:=(∃kvs,Rd H a (.dK kvs))\/∃kvs,Rd H a (.dT kvs)
theorem aA7 {X:Cx} {pins:List (Addr×Obj)} {σ:St} {H:Hp} {s:Shared} {a:Addr} (I:Inv X pins σ H s) (d:IsD H a) :
 s.TypeIs (.ref a) "dict"/\(∀b,Value.ref a=.ref b->∃ob,s.heap.get? b=some ob/\ob.dict=none)/\(a == sysModules)=false:=by
 rcases d with ⟨kvs,e⟩ | ⟨kvs,e⟩
 ·obtain⟨_,hd,vs,_,dd⟩:=ab8 I.hok e
  refine⟨dd.typeIs,λb q=>?_,hd⟩
  cases q
  obtain⟨ob,_,_,h1,h2,_⟩:=dd
  exact⟨ob,h1,h2.2.1⟩
 ·obtain⟨_,hd,xs,_,dd⟩:=ab9 I.hok e
  refine⟨dd.typeIs,λb q=>?_,hd⟩
  cases q
  obtain⟨ob,_,_,h1,h2,_⟩:=dd
  exact⟨ob,h1,h2.2.1⟩
section
variable {X:Cx} {pins:List (Addr×Obj)} {σ:St} {H:Hp} {s:Shared} {a:Addr} {y d:V} {u r:Value} {o:Option V} {A:Around} {E:Value->Shared->Prop}
theorem bd1 {Q:Value->Shared->Prop} (hu:A.units+1<cLine) (I:Inv X pins σ H s) (g:DGet H a y o) (ry:RelV y u) (h:∀w' s',Inv X pins σ H s'->RelV (o.getD .non) w'->Q w' s') :
 wpAny (model X.prog X.w) A (call (.builtin "dict.get") [.ref a,u]) Q E s:=by
 rcases g with ⟨kvs,k,e,ey,l⟩ | ⟨kvs,k,b,e,ey,eb,l⟩
 ·subst ey
  obtain⟨z,hd,vs,rel,dd⟩:=ab8 I.hok e
  refine call_meetsIn PySem.F.slot_dict_get dd.typeIs PySem.F.entry_dict_get (PySem.F.args_dict_get_2 _ _) (meets_dict_get (K2 X.prog X.w) a (al4 ry) hd) ⟨_,dd.mapOf,h _ _ (I.tok _) ?_⟩
  rw [l]
  exact (rel.val k).getD rfl
 ·subst ey
  cases (show u=Value.ref b from ry)
  obtain⟨z,hd,xs,rel,dd⟩:=ab9 I.hok e
  refine call_meetsIn PySem.F.slot_dict_get dd.typeIs PySem.F.entry_dict_get (PySem.F.args_dict_get_2 _ _) (meetsH_dict_get (tupleKind (K2 X.prog X.w)) a b hd) ⟨tupleKind_room_in1 hu,k,xs,Z0 I.hok eb,dd,h _ _ (I.tok _) ?_⟩
  rw [l]
  exact (rel.val k).getD rfl
theorem bd2 {Q:Value->Shared->Prop} (hu:A.units+1<cLine) (I:Inv X pins σ H s) (g:DGet H a y o) (ry:RelV y u) (rd:RelV d r) (h:∀w' s',Inv X pins σ H s'->RelV (o.getD d) w'->Q w' s') :
 wpAny (model X.prog X.w) A (call (.builtin "dict.get") [.ref a,u,r]) Q E s:=by
 rcases g with ⟨kvs,k,e,ey,l⟩ | ⟨kvs,k,b,e,ey,eb,l⟩
 ·subst ey
  obtain⟨z,hd,vs,rel,dd⟩:=ab8 I.hok e
  refine call_meetsIn PySem.F.slot_dict_get dd.typeIs PySem.F.entry_dict_get (PySem.F.args_dict_get_3 _ _ _) (meets_dict_get_default (K2 X.prog X.w) a (al4 ry) hd r) ⟨_,dd.mapOf,h _ _ (I.tok _) ?_⟩
  rw [l]
  exact (rel.val k).getD rd
 ·subst ey
  cases (show u=Value.ref b from ry)
  obtain⟨z,hd,xs,rel,dd⟩:=ab9 I.hok e
  refine call_meetsIn PySem.F.slot_dict_get dd.typeIs PySem.F.entry_dict_get (PySem.F.args_dict_get_3 _ _ _) (meetsH_dict_get_default (tupleKind (K2 X.prog X.w)) a b hd r) ⟨tupleKind_room_in1 hu,k,xs,Z0 I.hok eb,dd,h _ _ (I.tok _) ?_⟩
  rw [l]
  exact (rel.val k).getD rd
end
def bd3 (td ty:TE):TE:=λσ H Q=>td σ H λx H1=>∃a,x=.ref a/\IsD H1 a/\ty σ H1 λy H2=>∃o,DGet H2 a y o/\Q (o.getD .non) H2
def bd4 (td ty tx:TE):TE:=λσ H Q=>td σ H λx H1=>∃a,x=.ref a/\IsD H1 a/\ty σ H1 λy H2=>tx σ H2 λz H3=>∃o,DGet H3 a y o/\Q (o.getD z) H3
section
variable {X:Cx} {o e f:Expr} {apos cpos:Pos} {td ty tx:TE}
theorem aR3 (hu:X.A.units+1<cLine) (ho:PE X o td) (he:PE X e ty) (m:M1 X o "get" apos e cpos):PE X (.Call (.Attribute o "get" apos) [e] [] cpos) (bd3 td ty):=by
 intro pins s σ H Q I h
 refine wpAny_Call_method m.base m.few m.line PySem.F.plainAttrs_dict PySem.F.slot_dict_get PySem.F.type_dict_get (thn (ho pins s σ H _ I h) λu s1 ⟨x,H1,I1,rx,a,ex,d,q1⟩=>?_)
 subst ex
 obtain rfl:u=Value.ref a:=rx
 obtain⟨t1,t2,_⟩:=aA7 I1 d
 refine⟨t1,t2,?_⟩
 rw [m.trees]
 refine Calls.callWith_builtin rfl (Calls.evalArgs_plain (Calls.spliced_cons (thn (he pins s1 σ H1 _ I1 q1) λiv s2 ⟨y,H2,I2,ry,ov,g,q2⟩=>Calls.spliced_nil ?_)))
 exact bd1 hu I2 g ry λw' s3 I3 rw'=>⟨_,H2,I3,rw',q2⟩
theorem aR4 (hu:X.A.units+1<cLine) (ho:PE X o td) (he:PE X e ty) (hf:PE X f tx) (m:M2 X o "get" apos e f cpos):PE X (.Call (.Attribute o "get" apos) [e,f] [] cpos) (bd4 td ty tx):=by
 intro pins s σ H Q I h
 refine wpAny_Call_method m.base m.few m.line PySem.F.plainAttrs_dict PySem.F.slot_dict_get PySem.F.type_dict_get (thn (ho pins s σ H _ I h) λu s1 ⟨x,H1,I1,rx,a,ex,d,q1⟩=>?_)
 subst ex
 obtain rfl:u=Value.ref a:=rx
 obtain⟨t1,t2,_⟩:=aA7 I1 d
 refine⟨t1,t2,?_⟩
 rw [m.trees]
 refine Calls.callWith_builtin rfl (Calls.evalArgs_plain (Calls.spliced_cons (thn (he pins s1 σ H1 _ I1 q1) λiv s2 ⟨y,H2,I2,ry,q2⟩=>
  Calls.spliced_cons (thn (hf pins s2 σ H2 _ I2 q2) λfv s3 ⟨z,H3,I3,rz,ov,g,q3⟩=>Calls.spliced_nil ?_))))
 exact bd2 hu I3 g ry rz λw' s4 I4 rw'=>⟨_,H3,I4,rw',q3⟩
end
end L2
set_option maxRecDepth 100000
namespace Ws
noncomputable section
inductive PV where
 | non | bl (b:Bool) | int (i:Int) | str (x:PySem.Str) | tup (l:List PV) | ref (n:Nat)
inductive PO where
 | lst (l:List PV)
 | ro (l:List PV)
 | dI (kvs:List (Int×PV))
 | ins (c:Nat) (fs:List (Nat×PV))
   | dT (kvs:List (List Int×PV))
   | exc (c:Nat) (v:PV)
abbrev PHp:=List PO
inductive R (α:Type) where
 | ok (a:α) (A:PHp)
 | ex (c:Nat) (v:PV) (A:PHp)
 | no
abbrev M (α:Type):=PHp->R α
@[simp] def ret {α:Type} (a:α):M α:=λA=>.ok a A
@[simp] def stuck {α:Type}:M α:=λ_=>.no
@[simp] def bnd {α β:Type} (m:M α) (f:α->M β):M β:=λA=>match m A with
  | .ok a A'=>f a A'
  | .ex c v A'=>.ex c v A'
  | .no=>.no
def G5 {α:Type} (P:Prop) (m:M α):M α:=@ite _ P (Classical.propDecidable P) m stuck
theorem d7 {α:Type} {P:Prop} {m:M α} (h:P):G5 P m=m:=if_pos h
@[simp] theorem bd5 {α:Type} {m:M α}:G5 True m=m:=if_pos trivial
theorem C7 {α:Type} {P:Prop} {m:M α} {A A':PHp} {a:α} (h:G5 P m A=.ok a A'):P/\m A=.ok a A':=by
 by_cases p:P
 ·rw [d7 p] at h;exact⟨p,h⟩
 ·rw [show G5 P m=stuck from if_neg p] at h;cases h
theorem bnd_ok {α β:Type} {m:M α} {f:α->M β} {A A':PHp} {a:α} (h:m A=.ok a A'):bnd m f A=f a A':=by unfold bnd;rw [h]
theorem B0 {α β:Type} {m:M α} {f:α->M β} {A A':PHp} {b:β} (h:bnd m f A=.ok b A'):∃a A1,m A=.ok a A1/\f a A1=.ok b A':=by
 unfold bnd at h
 cases e:m A with
 | ok a A1=>rw [e] at h;exact⟨a,A1,rfl,h⟩
 | ex c v A1=>rw [e] at h;cases h
 | no=>rw [e] at h;cases h
abbrev PSt:=List (Option PV)
abbrev ED:=PSt->M PV
abbrev TD:=PSt->M Bool
abbrev AD:=PSt->M (List PV)
abbrev Fun:=List PV->M PV
inductive Fl where
 | nx (σ:PSt) | rt (v:PV) | bk (σ:PSt) | ct (σ:PSt)
abbrev SD:=PSt->M Fl
abbrev GD:=PV->PSt->M PSt
@[irreducible] def LIM:Nat:=100000
theorem lim_le {n:Nat} (h:n<=10000):n<=LIM:=by unfold LIM;omega
theorem U6 {n:Nat} (h:n<10000):n<LIM:=by unfold LIM;omega
@[simp] theorem bp4:0<=LIM:=Nat.zero_le _
@[simp] theorem bp5:1<=LIM:=lim_le (by omega)
@[simp] theorem bp6:2<=LIM:=lim_le (by omega)
@[simp] theorem bp7:3<=LIM:=lim_le (by omega)
@[simp] theorem bp8:4<=LIM:=lim_le (by omega)
mutual
def eqv:PV->PV->Bool
 | .non,.non=>true
 | .bl a,.bl b=>a == b
 | .int i,.int j=>decide (i=j)
 | .str x,.str y=>decide (x=y)
 | .tup l,.tup m=>R6 l m
 | _,_=>false
def R6:List PV->List PV->Bool
 | [],[]=>true
 | x::xs,y::ys=>eqv x y&&R6 xs ys
 | _,_=>false
end
mutual
def X2:PV->Bool
 | .non=>true
 | .int _=>true
 | .str _=>true
 | .tup l=>l8 l
 | _=>false
def l8:List PV->Bool
 | []=>true
 | x::xs=>X2 x&&l8 xs
end
@[simp] def M3:PV->Bool
  | .non=>true
  | .int _=>true
  | .str _=>true
  | _=>false
def ac0:PV->Bool
 | .tup l=>l.all M3
 | x=>M3 x
def g8:PV->Bool
 | .tup l=>l.all ac0
 | x=>M3 x
def plain:PV->Bool
 | .tup l=>l.all g8
 | x=>M3 x
def J2 (l:List PV):Bool:=l.all plain
@[simp] theorem bg5 (i:Int):plain (.int i)=true:=rfl
@[simp] theorem bg6:plain .non=true:=rfl
@[simp] def alloc (o:PO):M PV:=λA=>.ok (.ref A.length) (A++[o])
@[simp] def E7 (n:Nat):M (List PV):=λA=>match A[n]? with
  | some (.lst l)=>.ok l A
  | some (.ro l)=>.ok l A
  | _=>.no
@[simp] def S9 (n:Nat):M (List PV):=λA=>match A[n]? with
  | some (.lst l)=>.ok l A
  | _=>.no
@[simp] def put (n:Nat) (o:PO):M Unit:=λA=>.ok () (A.set n o)
@[simp] def Z1 (n:Nat):M (Nat×List (Nat×PV)):=λA=>match A[n]? with
  | some (.ins c fs)=>.ok (c,fs) A
  | _=>.no
@[simp] def N0 (v:PV):M (List PV):=match v with
  | .ref n=>E7 n
  | .tup l=>ret l
  | _=>stuck
@[simp] def eVar (i:Nat):ED:=λσ=>match σ[i]? with
  | some (some v)=>ret v
  | _=>stuck
@[simp] def eK (v:PV):ED:=λ_=>ret v
@[simp] def aNil:AD:=λ_=>ret []
@[simp] def aCons (e:ED) (es:AD):AD:=λσ=>bnd (e σ) λx=>bnd (es σ) λxs=>ret (x::xs)
@[simp] def f9 (es:AD):ED:=λσ=>bnd (es σ) λxs=>G5 (xs.length<=LIM) (ret (.tup xs))
@[simp] def g6 (es:AD):ED:=λσ=>bnd (es σ) λxs=>G5 (xs.length<=LIM) (alloc (.lst xs))
abbrev OD:=PV->PV->M PV
@[simp] def D1 (f:OD) (a b:ED):ED:=λσ=>bnd (a σ) λx=>bnd (b σ) λy=>f x y
@[simp] def Z2:OD
  | .int i,.int j=>ret (.int (i+j))
  | .tup l,.tup m=>G5 (l≠[]/\l.length+m.length<=LIM) (ret (.tup (l++m)))
  | .ref n,.ref k=>bnd (S9 n) λl=>bnd (S9 k) λm=>G5 (l.length+m.length<=LIM) (alloc (.lst (l++m)))
  | _,_=>stuck
@[simp] def aR5:OD
  | .int i,.int j=>G5 ((-(2 ^ 64)<i/\i<2 ^ 64)\/(-(2 ^ 64)<j/\j<2 ^ 64)) (ret (.int (i*j)))
  | _,_=>stuck
@[simp] def ap5:OD
  | .int i,.int j=>G5 (0<j) (ret (.int (i%j)))
  | _,_=>stuck
@[simp] def au5:OD
  | .int i,.int j=>G5 (0<j/\j<1073741824) (ret (.int (i / j)))
  | _,_=>stuck
@[simp] def oLt:OD
  | .int i,.int j=>ret (.bl (decide (i<j)))
  | _,_=>stuck
@[simp] def oLe:OD
  | .int i,.int j=>ret (.bl (decide (i<=j)))
  | _,_=>stuck
@[simp] def oGt:OD
  | .int i,.int j=>ret (.bl (decide (j<i)))
  | _,_=>stuck
@[simp] def oGe:OD
  | .int i,.int j=>ret (.bl (decide (j<=i)))
  | _,_=>stuck
@[simp] def ap6:PV->PV->Bool
  | .bl _,.bl _=>true
  | _,_=>false
@[simp] def pEq (x y:PV):M Bool:=match x,y with
  | .ref n,.ref k=>bnd (E7 n) λl=>bnd (E7 k) λm=>G5 (J2 l=true/\J2 m=true) (ret (R6 l m))
  | x,y=>G5 (ap6 x y=true\/(plain x=true/\plain y=true)) (ret (eqv x y))
@[simp] def oEq:OD:=λx y=>bnd (pEq x y) λb=>ret (.bl b)
@[simp] def oNe:OD:=λx y=>bnd (pEq x y) λb=>ret (.bl (!b))
def pIn (x:PV) (l:List PV):Bool:=l.any λy=>eqv y x
@[simp] def oIn:OD:=λx y=>bnd (N0 y) λl=>G5 (plain x=true/\J2 l=true) (ret (.bl (pIn x l)))
@[simp] def ac1:OD:=λx y=>bnd (N0 y) λl=>G5 (plain x=true/\J2 l=true) (ret (.bl (!pIn x l)))
@[simp] def ac2:PV->Bool
  | .non=>true
  | _=>false
@[simp] def aK6 (a:ED):ED:=λσ=>bnd (a σ) λx=>ret (.bl (ac2 x))
@[simp] def au6 (a:ED):ED:=λσ=>bnd (a σ) λx=>ret (.bl (!ac2 x))
@[simp] def ap7 (f g:OD) (a b c:ED):ED:=λσ=>bnd (a σ) λx=>bnd (b σ) λy=>bnd (f x y) λz=>match z with
  | .bl true=>bnd (c σ) λu=>g y u
  | .bl false=>ret (.bl false)
  | _=>stuck
@[simp] def asB (v:PV):M Bool:=match v with
  | .bl b=>ret b
  | _=>stuck
@[simp] def G9 (e:ED):TD:=λσ=>bnd (e σ) asB
@[simp] def tAnd (a b:TD):TD:=λσ=>bnd (a σ) λc=>if c=true then b σ else ret false
@[simp] def tOr (a b:TD):TD:=λσ=>bnd (a σ) λc=>if c=true then ret true else b σ
@[simp] def tNot (a:TD):TD:=λσ=>bnd (a σ) λc=>ret (!c)
@[simp] def Z3 (a b:ED):ED:=λσ=>bnd (bnd (a σ) asB) λc=>if c=true then b σ else ret (.bl false)
@[simp] def eOr (a b:ED):ED:=λσ=>bnd (bnd (a σ) asB) λc=>if c=true then ret (.bl true) else b σ
@[simp] def bd6 (a:ED):ED:=λσ=>bnd (bnd (a σ) asB) λc=>ret (.bl (!c))
@[simp] def eIf (t:TD) (a b:ED):ED:=λσ=>bnd (t σ) λc=>if c=true then a σ else b σ
def ixN (n:Nat) (i:Int):Option Nat:=if 0<=i then (if i<n then some i.toNat else none) else if -(n:Int)<=i then some (i+n).toNat else none
def atI {α:Type} (xs:List α) (i:Int):Option α:=(ixN xs.length i).bind λj=>xs[j]?
@[simp] def oIx:OD:=λx y=>match y with
  | .int i=>bnd (N0 x) λl=>match atI l i with
    | some v=>ret v
    | none=>stuck
  | _=>stuck
def S0 (n d:Nat):Option Int->Nat
 | none=>d
 | some v=>if v<0 then (max (v+n) 0).toNat else (min v n).toNat
def cut {α:Type} (xs:List α) (lo hi:Option Int):List α:=(xs.drop (S0 xs.length 0 lo)).take (S0 xs.length xs.length hi - S0 xs.length 0 lo)
abbrev LD:=PSt->M (Option Int)
@[simp] def lNo:LD:=λ_=>ret none
@[simp] def lAt (e:ED):LD:=λσ=>bnd (e σ) λx=>match x with
  | .int i=>ret (some i)
  | _=>stuck
@[simp] def ap8 (a:ED) (lo hi:LD):ED:=λσ=>bnd (a σ) λx=>bnd (lo σ) λl=>bnd (hi σ) λh=>match x with
  | .ref n=>bnd (E7 n) λxs=>alloc (.lst (cut xs l h))
  | .tup xs=>G5 (¬(S0 xs.length 0 l=0/\S0 xs.length xs.length h=xs.length)) (ret (.tup (cut xs l h)))
  | _=>stuck
@[simp] def Z4 (a:ED):ED:=λσ=>bnd (a σ) λx=>bnd (N0 x) λl=>ret (.int l.length)
@[simp] def l9 (a:ED):ED:=λσ=>bnd (a σ) λx=>bnd (N0 x) λl=>alloc (.lst l)
def L6:List PV->Option (List Int)
 | []=>some []
 | .int i::r=>(L6 r).map (i :: ·)
 | _=>none
def T0:List PV->Option (List (List Int))
 | []=>some []
 | .tup (x::l)::r=>match L6 (x::l),T0 r with
   | some z,some zs=>some (z::zs)
   | _,_=>none
 | _=>none
def G3:List Int->List Int->Bool
 | _,[]=>false
 | [],_::_=>true
 | x::xs,y::ys=>if x=y then G3 xs ys else decide (x<y)
def g9 {α:Type} (lt:α->α->Bool) (a:α):List α->List α
 | []=>[a]
 | b::r=>if lt b a=true then b::g9 lt a r else a::b::r
def G6 {α:Type} (lt:α->α->Bool):List α->List α
 | []=>[]
 | a::r=>g9 lt a (G6 lt r)
def ltI (i j:Int):Bool:=decide (i<j)
def U4 (l:List PV):M (List PV):=G5 (l.length<64) (match L6 l with
    | some ns=>ret ((G6 ltI ns).map .int)
    | none=>match T0 l with
      | some ts=>ret ((G6 G3 ts).map λt=>.tup (t.map .int))
      | none=>stuck)
@[simp] def m3 (a:ED):ED:=λσ=>bnd (a σ) λx=>match x with
  | .ref n=>bnd (E7 n) λl=>bnd (U4 l) λm=>alloc (.lst m)
  | _=>stuck
inductive Ty where
 | int | bool | tuple | list
@[simp] def au7 (t:Ty) (v:PV):M Bool:=match t,v with
  | .int,.int _=>ret true
  | .int,.bl _=>ret true
  | .bool,.bl _=>ret true
  | .tuple,.tup _=>ret true
  | .list,.ref n=>bnd (S9 n) λ_=>ret true
  | _,.ref n=>bnd (S9 n) λ_=>ret false
  | _,_=>ret false
@[simp] def Z5 (a:ED) (t:Ty):ED:=λσ=>bnd (a σ) λx=>bnd (au7 t x) λb=>ret (.bl b)
@[simp] def U7 (f:Nat):List (Nat×PV)->Option PV
  | []=>none
  | (g,u)::r=>if g=f then some u else U7 f r
@[simp] def L5 (a:ED) (f:Nat):ED:=λσ=>bnd (a σ) λx=>match x with
  | .ref n=>bnd (Z1 n) λo=>match U7 f o.2 with
    | some v=>ret v
    | none=>stuck
  | _=>stuck
@[simp] def putFld (f:Nat) (v:PV):List (Nat×PV)->List (Nat×PV)
  | []=>[(f,v)]
  | (g,u)::r=>if g=f then (g,v)::r else (g,u)::putFld f v r
@[simp] def sFld (a:ED) (f:Nat) (e:ED):SD:=λσ=>bnd (e σ) λv=>bnd (a σ) λx=>match x with
  | .ref n=>bnd (Z1 n) λo=>G5 (o.2.length<900) (bnd (put n (.ins o.1 (putFld f v o.2))) λ_=>ret (.nx σ))
  | _=>stuck
@[simp] def J1 (f:Fun) (es:AD):ED:=λσ=>bnd (es σ) f
@[simp] def ac3 (c:Nat) (init:Fun) (es:AD):ED:=λσ=>bnd (es σ) λvs=>bnd (alloc (.ins c [])) λx=>bnd (init (x::vs)) λ_=>ret x
@[simp] def O3 (c:Nat) (f:Fun) (a:ED) (es:AD):ED:=λσ=>bnd (a σ) λx=>match x with
  | .ref n=>bnd (Z1 n) λo=>G5 (o.1=c) (bnd (es σ) λvs=>f (x::vs))
  | _=>stuck
@[simp] def m5 (a e:ED):ED:=λσ=>bnd (a σ) λx=>match x with
  | .ref n=>bnd (S9 n) λ_=>bnd (e σ) λv=>bnd (S9 n) λl=>G5 (l.length<LIM) (bnd (put n (.lst (l++[v]))) λ_=>ret .non)
  | _=>stuck
@[simp] def gName (i:Nat):GD:=λv σ=>ret (σ.set i (some v))
abbrev GDs:=List PV->PSt->M PSt
@[simp] def gNil:GDs:=λvs σ=>match vs with
  | []=>ret σ
  | _=>stuck
@[simp] def gCons (g:GD) (r:GDs):GDs:=λvs σ=>match vs with
  | v::w=>bnd (g v σ) λσ'=>r w σ'
  | _=>stuck
@[simp] def gTup (n:Nat) (g:GDs):GD:=λv σ=>match v with
  | .tup l=>G5 (l.length=n) (g l σ)
  | _=>stuck
inductive It where
 | rng (lo:Int) (n:Nat) | lst (n:Nat) | tup (l:List PV) | enm (n:Nat)
   | fix (l:List PV)
   | zip (x y:PV)
   | enk (k n:Nat)
abbrev ID:=PSt->M It
@[simp] def Y5 (a:ED):ID:=λσ=>bnd (a σ) λx=>match x with
  | .ref n=>bnd (E7 n) λ_=>ret (.lst n)
  | .tup l=>ret (.tup l)
  | _=>stuck
@[simp] def iRng1 (a:ED):ID:=λσ=>bnd (a σ) λx=>match x with
  | .int j=>G5 (-(2 ^ 62)<=j/\j<2 ^ 62) (ret (.rng 0 j.toNat))
  | _=>stuck
@[simp] def bj3 (a:ED):ID:=λσ=>bnd (a σ) λx=>match x with
  | .ref n=>bnd (E7 n) λ_=>ret (.enm n)
  | _=>stuck
@[simp] def item (J:It) (i:Nat):M (Option PV):=match J with
  | .rng lo n=>ret (if i<n then some (.int (lo+i)) else none)
  | .lst a=>bnd (E7 a) λl=>ret l[i]?
  | .tup l=>ret l[i]?
  | .enm a=>bnd (E7 a) λl=>ret (l[i]?.map λx=>.tup [.int i,x])
  | .fix l=>ret l[i]?
  | .zip x y=>bnd (N0 x) λl=>bnd (N0 y) λm=>ret (match l[i]?,m[i]? with
    | some u,some v=>some (.tup [u,v])
    | _,_=>none)
  | .enk k a=>bnd (E7 a) λl=>ret (l[i]?.map λx=>.tup [.int ((k+i:Nat):Int),x])
@[simp] def Z6 (J:It):M Nat:=match J with
  | .rng _ n=>ret n
  | .lst a=>bnd (E7 a) λl=>ret l.length
  | .tup l=>ret l.length
  | .enm a=>bnd (E7 a) λl=>ret l.length
  | .fix l=>ret l.length
  | .zip x _=>bnd (N0 x) λl=>ret l.length
  | .enk _ a=>bnd (E7 a) λl=>ret l.length
@[simp] def sPass:SD:=λσ=>ret (.nx σ)
@[simp] def D5 (a b:SD):SD:=λσ=>bnd (a σ) λf=>match f with
  | .nx σ'=>b σ'
  | o=>ret o
@[simp] def Y0 (e:ED):SD:=λσ=>bnd (e σ) λ_=>ret (.nx σ)
@[simp] def J3 (e:ED):SD:=λσ=>bnd (e σ) λv=>ret (.rt v)
@[simp] def sIf (t:TD) (a b:SD):SD:=λσ=>bnd (t σ) λc=>if c=true then a σ else b σ
@[simp] def N2 (e:ED) (g:GD):SD:=λσ=>bnd (e σ) λv=>bnd (g v σ) λσ'=>ret (.nx σ')
@[simp] def sNever:SD:=λ_=>stuck
def aA8 (J:It) (g:GD) (body:SD):Nat->Nat->PSt->M Fl
 | 0,_,_=>stuck
 | f+1,i,σ=>bnd (item J i) λx=>match x with
   | none=>ret (.nx σ)
   | some v=>bnd (g v σ) λσ1=>bnd (body σ1) λo=>match o with
     | .nx σ2=>aA8 J g body f (i+1) σ2
     | .ct σ2=>aA8 J g body f (i+1) σ2
     | .bk σ2=>ret (.nx σ2)
     | .rt v=>ret (.rt v)
theorem ac4:∃T:It->GD->SD->Nat->Nat->PSt->M Fl,(∀J g body i σ,T J g body 0 i σ=stuck)/\∀J g body f i σ,T J g body (f+1) i σ=bnd (item J i) λx=>match x with
 | none=>ret (.nx σ)
 | some v=>bnd (g v σ) λσ1=>bnd (body σ1) λo=>match o with
   | .nx σ2=>T J g body f (i+1) σ2
   | .ct σ2=>T J g body f (i+1) σ2
   | .bk σ2=>ret (.nx σ2)
   | .rt v=>ret (.rt v):=⟨aA8,λ_ _ _ _ _=>rfl,λ_ _ _ _ _ _=>rfl⟩
def V6:It->GD->SD->Nat->Nat->PSt->M Fl:=Classical.choose ac4
theorem ac5 (J:It) (g:GD) (body:SD) (i:Nat) (σ:PSt):V6 J g body 0 i σ=stuck:=(Classical.choose_spec ac4).1 J g body i σ
theorem Q3 (J:It) (g:GD) (body:SD) (f i:Nat) (σ:PSt):V6 J g body (f+1) i σ=bnd (item J i) λx=>match x with
 | none=>ret (.nx σ)
 | some v=>bnd (g v σ) λσ1=>bnd (body σ1) λo=>match o with
   | .nx σ2=>V6 J g body f (i+1) σ2
   | .ct σ2=>V6 J g body f (i+1) σ2
   | .bk σ2=>ret (.nx σ2)
   | .rt v=>ret (.rt v):=(Classical.choose_spec ac4).2 J g body f i σ
@[simp] def aa0 (it:ID) (g:GD) (body:SD):SD:=λσ=>bnd (it σ) λJ=>bnd (Z6 J) λn=>V6 J g body (n+1) 0 σ
def ap9 (t:TD) (body:SD):Nat->PSt->M Fl
 | 0,_=>stuck
 | f+1,σ=>bnd (t σ) λc=>if c=true then bnd (body σ) λo=>match o with
    | .nx σ2=>ap9 t body f σ2
    | .ct σ2=>ap9 t body f σ2
    | .bk σ2=>ret (.nx σ2)
    | .rt v=>ret (.rt v)
   else ret (.nx σ)
theorem t0:∃T:TD->SD->Nat->PSt->M Fl,(∀t body σ,T t body 0 σ=stuck)/\∀t body f σ,T t body (f+1) σ=bnd (t σ) λc=>if c=true then bnd (body σ) λo=>match o with
 | .nx σ2=>T t body f σ2
 | .ct σ2=>T t body f σ2
 | .bk σ2=>ret (.nx σ2)
 | .rt v=>ret (.rt v)
 else ret (.nx σ):=⟨ap9,λ_ _ _=>rfl,λ_ _ _ _=>rfl⟩
def Z7:TD->SD->Nat->PSt->M Fl:=Classical.choose t0
theorem au8 (t:TD) (body:SD) (σ:PSt):Z7 t body 0 σ=stuck:=(Classical.choose_spec t0).1 t body σ
theorem y6 (t:TD) (body:SD) (f:Nat) (σ:PSt):Z7 t body (f+1) σ=bnd (t σ) λc=>if c=true then bnd (body σ) λo=>match o with
 | .nx σ2=>Z7 t body f σ2
 | .ct σ2=>Z7 t body f σ2
 | .bk σ2=>ret (.nx σ2)
 | .rt v=>ret (.rt v)
 else ret (.nx σ):=(Classical.choose_spec t0).2 t body f σ
@[simp] def aq0 (t:TD) (body:SD):SD:=λσ=>Z7 t body LIM σ
def bst {α:Type} (js:List (Option Nat)) (σ:List (Option α)):List (Option α):=js.map λo=>match o with
 | none=>none
 | some j=>σ.getD j none
def aq1 (J:It) (g:GD) (t:TD) (e:ED):Nat->Nat->PSt->M (List PV)
 | 0,_,_=>stuck
 | f+1,i,σ=>bnd (item J i) λx=>match x with
   | none=>ret []
   | some v=>bnd (g v σ) λσ1=>bnd (t σ1) λc=>if c=true then bnd (e σ1) λy=>bnd (aq1 J g t e f (i+1) σ1) λys=>ret (y::ys)
     else aq1 J g t e f (i+1) σ1
theorem t3:∃T:It->GD->TD->ED->Nat->Nat->PSt->M (List PV),(∀J g t e i σ,T J g t e 0 i σ=stuck)/\∀J g t e f i σ,T J g t e (f+1) i σ=bnd (item J i) λx=>match x with
 | none=>ret []
 | some v=>bnd (g v σ) λσ1=>bnd (t σ1) λc=>if c=true then bnd (e σ1) λy=>bnd (T J g t e f (i+1) σ1) λys=>ret (y::ys)
   else T J g t e f (i+1) σ1:=⟨aq1,λ_ _ _ _ _ _=>rfl,λ_ _ _ _ _ _ _=>rfl⟩
def Z8:It->GD->TD->ED->Nat->Nat->PSt->M (List PV):=Classical.choose t3
theorem y7 (J:It) (g:GD) (t:TD) (e:ED) (i:Nat) (σ:PSt):Z8 J g t e 0 i σ=stuck:=(Classical.choose_spec t3).1 J g t e i σ
theorem y9 (J:It) (g:GD) (t:TD) (e:ED) (f i:Nat) (σ:PSt):Z8 J g t e (f+1) i σ=bnd (item J i) λx=>match x with
 | none=>ret []
 | some v=>bnd (g v σ) λσ1=>bnd (t σ1) λc=>if c=true then bnd (e σ1) λy=>bnd (Z8 J g t e f (i+1) σ1) λys=>ret (y::ys)
   else Z8 J g t e f (i+1) σ1:=(Classical.choose_spec t3).2 J g t e f i σ
@[simp] def T1:TD:=λ_=>ret true
@[simp] def O0 (it:ID) (mk:PSt->PSt) (g:GD) (t:TD) (e:ED):ED:=λσ=>bnd (it σ) λJ=>bnd (Z6 J) λn=>bnd (Z8 J g t e (n+1) 0 (mk σ)) λys=>G5 (ys.length<=LIM) (alloc (.lst ys))
@[simp] def start (n:Nat) (vs:List PV):PSt:=vs.map some++List.replicate (n - vs.length) none
def fin (o:Fl):M PV:=match o with
    | .rt v=>ret v
    | .nx _=>ret .non
    | _=>stuck
@[simp] theorem bo2 (v:PV):fin (.rt v)=ret v:=rfl
@[simp] theorem bo3 (σ:PSt):fin (.nx σ)=ret .non:=rfl
@[simp] def fn (n p:Nat) (body:SD):Fun:=λvs=>G5 (vs.length=p) (bnd (body (start n vs)) fin)
end
theorem pre_get {A B:PHp} {n:Nat} {o:PO} (h:A<+:B) (e:A[n]?=some o):B[n]?=some o:=by
 obtain⟨t,rfl⟩:=h
 rw [List.getElem?_append_left (List.getElem?_eq_some_iff.mp e).1];exact e
theorem G1 {A:PHp} {n:Nat} {o:PO} (e:A[n]?=some o):n<A.length:=(List.getElem?_eq_some_iff.mp e).1
theorem aa5 {A B:PHp} {n:Nat} {o:PO} (h:A<+:B) (e:A.length<=n):A<+:B.set n o:=by
 obtain⟨t,rfl⟩:=h
 rw [List.set_append_right _ _ e];exact List.prefix_append _ _
theorem K3 {A B:PHp} {o:PO} (h:A<+:B):A<+:B++[o]:=h.trans (List.prefix_append _ _)
theorem get_app {A:PHp} {o:PO}:(A++[o])[A.length]?=some o:=by simp
theorem get_app_of {A:PHp} {o p:PO} {n:Nat} (e:A[n]?=some p):(A++[o])[n]?=some p:=pre_get (List.prefix_append _ _) e
theorem D6 {A:PHp} {o:PO} {n m:Nat} (h:m≠n):(A.set n o)[m]?=A[m]?:=by
 rw [List.getElem?_set];simp [Ne.symm h]
theorem get_set {A:PHp} {o p:PO} {n:Nat} (h:A[n]?=some p):(A.set n o)[n]?=some o:=by
 rw [List.getElem?_set];simp [G1 h]
def Comes (r:R Fl) (P:PSt->PHp->Prop) (Q:PV->PHp->Prop):Prop:=
 (∃σ A,r=.ok (.nx σ) A/\P σ A)\/∃v A,r=.ok (.rt v) A/\Q v A
def Turns (r:R Fl) (P:PSt->PHp->Prop) (Q:PV->PHp->Prop):Prop:=
 (∃σ A,(r=.ok (.nx σ) A\/r=.ok (.ct σ) A)/\P σ A)\/∃v A,r=.ok (.rt v) A/\Q v A
theorem turns_inv {J:It} {g:GD} {body:SD} {n:Nat} (P:Nat->PSt->PHp->Prop) (Q:PV->PHp->Prop)
 (hend:∀σ A,P n σ A->item J n A=.ok none A)
 (hs:∀i σ A,i<n->P i σ A->∃v,item J i A=.ok (some v) A/\Turns (bnd (g v σ) body A) (P (i+1)) Q) :
 ∀k i σ A,i+k=n->P i σ A->Comes (V6 J g body (k+1) i σ A) (P n) Q
 | 0,i,σ,A,e,h=>by
   obtain rfl:i=n:=by omega
   refine .inl ⟨σ,A,?_,h⟩
   rw [Q3,bnd_ok (hend σ A h)];rfl
 | k+1,i,σ,A,e,h=>by
   obtain⟨v,hv,t⟩:=hs i σ A (by omega) h
   have key:V6 J g body (k+1+1) i σ A=bnd (bnd (g v σ) body) (λo=>match o with
    | .nx σ2=>V6 J g body (k+1) (i+1) σ2
    | .ct σ2=>V6 J g body (k+1) (i+1) σ2
    | .bk σ2=>ret (.nx σ2)
    | .rt v=>ret (.rt v)) A:=by
    rw [Q3,bnd_ok hv]
    show bnd (g v σ) _ A=_
    unfold bnd
    cases g v σ A <;> rfl
   rw [key]
   rcases t with ⟨σ2,A2,e2,h2⟩ | ⟨u,A2,e2,h2⟩
   ·rcases e2 with e2 | e2 <;> (rw [bnd_ok e2];exact turns_inv P Q hend hs k (i+1) σ2 A2 (by omega) h2)
   ·rw [bnd_ok e2];exact .inr ⟨u,A2,rfl,h2⟩
theorem a15 {it:ID} {g:GD} {body:SD} {a:Nat} {l:List PV} {σ:PSt} {A A1:PHp} (hi:it σ A=.ok (.enm a) A1) (P:Nat->PSt->PHp->Prop) (Q:PV->PHp->Prop) (h0:P 0 σ A1)
 (hl:∀i σ A,P i σ A->E7 a A=.ok l A)
 (hs:∀(i:Nat) v σ A,l[i]?=some v->P i σ A->Turns (bnd (g (.tup [.int i,v]) σ) body A) (P (i+1)) Q):Comes (aa0 it g body σ A) (P l.length) Q:=by
 show Comes (bnd (it σ) _ A) _ _
 rw [bnd_ok hi]
 show Comes (bnd (bnd (E7 a) _) _ A1) _ _
 rw [bnd_ok (show bnd (E7 a) (λl=>ret l.length) A1=.ok l.length A1 by rw [bnd_ok (hl 0 σ A1 h0)];rfl)]
 refine turns_inv (J:=.enm a) P Q (λσ A h=>?_) (λi σ A hi h=>⟨.tup [.int i,l[i]],?_,hs i _ σ A (by simp [hi]) h⟩) l.length 0 σ A1 (by omega) h0
 ·show bnd (E7 a) _ A=_
  rw [bnd_ok (hl _ _ _ h)];simp
 ·show bnd (E7 a) _ A=_
  rw [bnd_ok (hl _ _ _ h)];simp [hi]
theorem Comes.end {r:R Fl} {P:PSt->PHp->Prop} (h:Comes r P λ_ _=>False):∃σ A,r=.ok (.nx σ) A/\P σ A:=by
 rcases h with h | ⟨_,_,_,h⟩
 ·exact h
 ·exact h.elim
theorem Turns.nx {r:R Fl} {P:PSt->PHp->Prop} {Q:PV->PHp->Prop} {σ:PSt} {A:PHp} (e:r=.ok (.nx σ) A) (h:P σ A):Turns r P Q:=.inl ⟨σ,A,.inl e,h⟩
theorem Comes.mono {r:R Fl} {P P':PSt->PHp->Prop} {Q Q':PV->PHp->Prop} (h:Comes r P Q) (hp:∀σ A,P σ A->P' σ A) (hq:∀v A,Q v A->Q' v A):Comes r P' Q':=by
 rcases h with ⟨σ,A,e,h⟩ | ⟨v,A,e,h⟩
 ·exact .inl ⟨σ,A,e,hp _ _ h⟩
 ·exact .inr ⟨v,A,e,hq _ _ h⟩
theorem K6 {A:PHp} {n:Nat} {l:List PV} (h:A[n]?=some (.lst l)):E7 n A=.ok l A:=by
 unfold E7;rw [h]
theorem aK7 {A:PHp} {n:Nat} {l:List PV} (h:A[n]?=some (.lst l)):S9 n A=.ok l A:=by
 unfold S9;rw [h]
mutual
theorem au9:∀x y:PV,X2 x=true->(eqv x y=true↔x=y)
 | .non,y,_=>by cases y <;> simp [eqv]
 | .bl _,_,h=>by simp [X2] at h
 | .int i,y,_=>by cases y <;> simp [eqv]
 | .str s,y,_=>by cases y <;> simp [eqv]
 | .tup l,y,h=>by
   cases y with
   | tup m=>simp only [eqv,PV.tup.injEq];exact d8 l m (by simpa [X2] using h)
   | _=>simp [eqv]
 | .ref _,_,h=>by simp [X2] at h
theorem d8:∀l m:List PV,l8 l=true->(R6 l m=true↔l=m)
 | [],m,_=>by cases m <;> simp [R6]
 | x::xs,m,h=>by
   cases m with
   | nil=>simp [R6]
   | cons y ys=>
     simp only [l8,Bool.and_eq_true] at h
     simp only [R6,Bool.and_eq_true,List.cons.injEq]
     rw [au9 x y h.1,d8 xs ys h.2]
end
theorem R3 {f:PV->Bool} (h:∀x,f x=true->X2 x=true):∀l:List PV,l.all f=true->l8 l=true
 | [],_=>rfl
 | x::xs,e=>by
   rw [List.all_cons,Bool.and_eq_true] at e
   simp only [l8,Bool.and_eq_true]
   exact⟨h x e.1,R3 h xs e.2⟩
theorem av0 (x:PV) (h:M3 x=true):X2 x=true:=by cases x <;> simp_all [M3,X2]
theorem a82 (x:PV) (h:ac0 x=true):X2 x=true:=by
 cases x with
 | tup l=>exact R3 av0 l h
 | _=>exact av0 _ h
theorem a83 (x:PV) (h:g8 x=true):X2 x=true:=by
 cases x with
 | tup l=>exact R3 a82 l h
 | _=>exact av0 _ h
theorem X3 (x:PV) (h:plain x=true):X2 x=true:=by
 cases x with
 | tup l=>exact R3 a83 l h
 | _=>exact av0 _ h
theorem aq2 (x y:PV) (h:plain x=true):eqv x y=true↔x=y:=au9 x y (X3 x h)
theorem aR6 (l m:List PV) (h:J2 l=true):R6 l m=true↔l=m:=d8 l m (R3 X3 l h)
theorem ac6 (l:List PV):J2 l=true↔∀x∈l,plain x=true:=List.all_eq_true
theorem N3 (ns:List Int):J2 (ns.map .int)=true:=by
 rw [ac6];intro x hx;obtain⟨i,_,rfl⟩:=List.mem_map.mp hx;rfl
theorem insBy_perm {α:Type} (lt:α->α->Bool) (a:α):∀l:List α,(g9 lt a l).Perm (a::l)
 | []=>.refl _
 | b::r=>by
   unfold g9
   split
   ·exact ((insBy_perm lt a r).cons b).trans (.swap a b r)
   ·exact .refl _
theorem N4 {α:Type} (lt:α->α->Bool):∀l:List α,(G6 lt l).Perm l
 | []=>.refl _
 | a::r=>(insBy_perm lt a _).trans ((N4 lt r).cons a)
theorem O8 (ns:List Int):L6 (ns.map .int)=some ns:=by
 induction ns with
 | nil=>rfl
 | cons i r ih=>simp [L6,ih]
theorem ac7:∀(ts:List (List Int)),(∀t∈ts,t≠[])->T0 (ts.map λt=>PV.tup (t.map .int))=some ts
 | [],_=>rfl
 | t::r,h=>by
   have ih:=ac7 r λu hu=>h u (List.mem_cons_of_mem _ hu)
   cases t with
   | nil=>exact absurd rfl (h [] List.mem_cons_self)
   | cons x l=>
     have e:=O8 (x::l)
     simp only [List.map_cons] at e
     simp only [List.map_cons,T0,e,ih]
theorem aq3 {ns:List Int} {A:PHp} (h:ns.length<64):U4 (ns.map .int) A=.ok ((G6 ltI ns).map .int) A:=by
 unfold U4
 rw [List.length_map,d7 h,O8];rfl
theorem aq4 {ts:List (List Int)} {A:PHp} (h:ts.length<64) (h0:∀t∈ts,t≠[]):U4 (ts.map λt=>PV.tup (t.map .int)) A=.ok ((G6 G3 ts).map λt=>PV.tup (t.map .int)) A:=by
 unfold U4
 rw [List.length_map,d7 h]
 cases ts with
 | nil=>rfl
 | cons t r=>
   have e:L6 ((t::r).map λt=>PV.tup (t.map .int))=none:=by simp [L6]
   rw [e,ac7 _ h0];rfl
theorem m6 {α:Type} {lt:α->α->Bool} (asym:∀a b,lt a b=true->lt b a=false) (tr:∀a b c,lt b a=false->lt c b=false->lt c a=false) (a:α) :
 ∀l:List α,l.Pairwise (λx y=>lt y x=false)->(g9 lt a l).Pairwise (λx y=>lt y x=false)
 | [],_=>by simp [g9]
 | b::r,h=>by
   rw [List.pairwise_cons] at h
   unfold g9
   split
   ·rename_i hb
    rw [List.pairwise_cons]
    refine⟨λc hc=>?_,m6 asym tr a r h.2⟩
    rcases List.mem_cons.mp ((insBy_perm lt a r).mem_iff.mp hc) with rfl | hc
    ·exact asym _ _ hb
    ·exact h.1 c hc
   ·rename_i hb
    have hb':lt b a=false:=by simpa using hb
    rw [List.pairwise_cons]
    refine⟨λc hc=>?_,List.pairwise_cons.mpr h⟩
    rcases List.mem_cons.mp hc with rfl | hc
    ·exact hb'
    ·exact tr a b c hb' (h.1 c hc)
theorem U8 {α:Type} {lt:α->α->Bool} (asym:∀a b,lt a b=true->lt b a=false) (tr:∀a b c,lt b a=false->lt c b=false->lt c a=false) :
 ∀l:List α,(G6 lt l).Pairwise (λx y=>lt y x=false)
 | []=>by simp [G6]
 | a::r=>m6 asym tr a _ (U8 asym tr r)
theorem m7 (l:List Int):(G6 ltI l).Pairwise (·<=·):=by
 refine (U8 (lt:=ltI) ?_ ?_ l).imp ?_
 ·intro a b h;simp [ltI] at *;omega
 ·intro a b c h1 h2;simp [ltI] at *;omega
 ·intro a b h;simp [ltI] at h;exact h
theorem t4:∀{l m:List Int},l.Perm m->l.Pairwise (·<=·)->m.Pairwise (·<=·)->l=m
 | [],m,h,_,_=>(List.nil_perm.mp h).symm
 | x::l,[],h,_,_=>absurd h.length_eq (by simp)
 | x::l,y::m,h,h1,h2=>by
   rw [List.pairwise_cons] at h1 h2
   have e:x=y:=by
    have a1:x∈y::m:=h.mem_iff.mp List.mem_cons_self
    have a2:y∈x::l:=h.mem_iff.mpr List.mem_cons_self
    rcases List.mem_cons.mp a1 with e | e
    ·exact e
    ·rcases List.mem_cons.mp a2 with e' | e'
     ·exact e'.symm
     ·have:=h2.1 x e;have:=h1.1 y e';omega
   subst e
   rw [t4 (List.perm_cons _ |>.mp h) h1.2 h2.2]
theorem t5 {α:Type} {lt:α->α->Bool} (tot:∀a b,lt a b=false->lt b a=false->a=b):∀{l m:List α},l.Perm m->l.Pairwise (λx y=>lt y x=false)->m.Pairwise (λx y=>lt y x=false)->l=m
 | [],m,h,_,_=>(List.nil_perm.mp h).symm
 | x::l,[],h,_,_=>absurd h.length_eq (by simp)
 | x::l,y::m,h,h1,h2=>by
   rw [List.pairwise_cons] at h1 h2
   have e:x=y:=by
    have a1:x∈y::m:=h.mem_iff.mp List.mem_cons_self
    have a2:y∈x::l:=h.mem_iff.mpr List.mem_cons_self
    rcases List.mem_cons.mp a1 with e | e
    ·exact e
    ·rcases List.mem_cons.mp a2 with e' | e'
     ·exact e'.symm
     ·exact tot _ _ (h2.1 x e) (h1.1 y e') |>.symm ▸ rfl
   subst e
   rw [t5 tot (List.perm_cons _ |>.mp h) h1.2 h2.2]
theorem ac8:∀a b:List Int,G3 a b=true->G3 b a=false
 | _,[],h=>by simp [G3] at h
 | [],_::_,_=>rfl
 | x::xs,y::ys,h=>by
   simp only [G3] at h ⊢
   by_cases e:x=y
   ·subst e;simp only [if_true] at h ⊢;exact ac8 xs ys h
   ·rw [if_neg e] at h;rw [if_neg (Ne.symm e)];simp at h ⊢;omega
theorem aa6:∀a b:List Int,G3 a b=false->G3 b a=false->a=b
 | [],[],_,_=>rfl
 | [],_::_,h,_=>by simp [G3] at h
 | _::_,[],_,h=>by simp [G3] at h
 | x::xs,y::ys,h,h'=>by
   simp only [G3] at h h'
   by_cases e:x=y
   ·subst e;simp only [if_true] at h h';rw [aa6 xs ys h h']
   ·rw [if_neg e] at h;rw [if_neg (Ne.symm e)] at h';simp at h h';omega
theorem aA9:∀a b c:List Int,G3 b a=false->G3 c b=false->G3 c a=false
 | [],_,_,_,_=>by simp [G3]
 | _::_,[],_,h,_=>by simp [G3] at h
 | _::_,_::_,[],_,h=>by simp [G3] at h
 | x::xs,y::ys,z::zs,h,h'=>by
   simp only [G3] at h h' ⊢
   by_cases e:y=x
   ·subst e
    simp only [if_true] at h
    by_cases e2:z=y
    ·subst e2;simp only [if_true] at h' ⊢;exact aA9 xs ys zs h h'
    ·rw [if_neg e2] at h' ⊢;exact h'
   ·rw [if_neg e] at h
    by_cases e2:z=y
    ·subst e2;rw [if_neg e];exact h
    ·rw [if_neg e2] at h'
     simp at h h'
     rw [if_neg (by omega)];simp;omega
theorem ac9 (ts:List (List Int)):(G6 G3 ts).Pairwise (λx y=>G3 y x=false):=U8 ac8 aA9 ts
@[simp] def bq0 (a:ED):ED:=λσ=>bnd (a σ) λx=>match x with
  | .ref n=>bnd (S9 n) λl=>match l[l.length - 1]? with
    | some y=>bnd (put n (.lst l.dropLast)) λ_=>ret y
    | none=>stuck
  | _=>stuck
def i0:List PV->Option (List Bool)
 | []=>some []
 | .bl b::r=>(i0 r).map (b :: ·)
 | _=>none
@[simp] def aq5 (a:ED):ED:=λσ=>bnd (a σ) λx=>match x with
  | .ref n=>bnd (E7 n) λl=>match i0 l with
    | some bs=>ret (.bl (bs.all id))
    | none=>stuck
  | _=>stuck
@[simp] def m8 (a:ED):ED:=λσ=>bnd (a σ) λx=>match x with
  | .ref n=>bnd (E7 n) λl=>G5 (l.length<=LIM) (ret (.tup l))
  | _=>stuck
def aB0:List Int->List (List Int)
 | []=>[[]]
 | a::r=>aB0 r++(aB0 r).map (a :: ·)
def metI (l:List Int) (a:Int):List Int:=if l.any (·== a)=true then l else l++[a]
def ad0 (ns:List Int):Nat:=(ns.foldl metI []).length
@[simp] def ad1 (a:ED):ED:=λσ=>bnd (a σ) λx=>bnd (N0 x) λl=>match L6 l with
  | some ns=>G5 (ns.length<1000) (ret (.int (ad0 ns)))
  | none=>stuck
theorem metI_cases (l:List Int) (a:Int):(a∈l/\metI l a=l)\/(a∉l/\metI l a=l++[a]):=by
 unfold metI
 by_cases h:a∈l
 ·exact .inl ⟨h,if_pos (List.any_eq_true.mpr ⟨a,h,by simp⟩)⟩
 ·refine .inr ⟨h,if_neg λz=>?_⟩
  obtain⟨x,hx,e⟩:=List.any_eq_true.mp z
  exact h (by rw [←(beq_iff_eq.mp e)];exact hx)
theorem m9:∀(r l:List Int),l.Nodup->(r.foldl metI l).length<=l.length+r.length/\((r.foldl metI l).length=l.length+r.length↔(l++r).Nodup)
 | [],l,h=>by simp [h]
 | a::r,l,h=>by
   rw [List.foldl_cons]
   rcases metI_cases l a with ⟨h1,e⟩ | ⟨h1,e⟩
   ·rw [e]
    obtain⟨i1,i2⟩:=m9 r l h
    refine⟨by simp;omega,⟨λz=>by simp at z;omega,λz=>?_⟩⟩
    exact absurd rfl ((List.nodup_append.mp z).2.2 a h1 a List.mem_cons_self)
   ·rw [e]
    have nd:(l++[a]).Nodup:=by
     rw [List.nodup_append]
     exact⟨h,by simp,λx hx y hy z=>by simp at hy;exact h1 (by rw [←hy,←z];exact hx)⟩
    obtain⟨i1,i2⟩:=m9 r (l++[a]) nd
    have e2:l++[a]++r=l++a::r:=by simp
    rw [e2] at i2
    simp only [List.length_append,List.length_cons,List.length_nil] at i1 i2 ⊢
    exact⟨by omega,⟨λz=>i2.mp (by omega),λz=>by have:=i2.mpr z;omega⟩⟩
theorem aR7 (ns:List Int):ad0 ns<=ns.length:=by have:=(m9 ns [] List.nodup_nil).1;simpa [ad0] using this
theorem aR8 (ns:List Int):ad0 ns<ns.length↔¬ns.Nodup:=by
 have h:=(m9 ns [] List.nodup_nil).2
 have h1:=aR7 ns
 simp only [List.length_nil,Nat.zero_add,List.nil_append] at h
 unfold ad0 at *
 constructor
 ·intro z y;have:=h.mpr y;omega
 ·intro z
  rcases Nat.lt_or_ge (ns.foldl metI []).length ns.length with q | q
  ·exact q
  ·exact absurd (h.mp (by omega)) z
@[simp] def a16 (a b:ED):ID:=λσ=>bnd (a σ) λx=>bnd (b σ) λy=>bnd (N0 x) λ_=>bnd (N0 y) λ_=>ret (.zip x y)
noncomputable section
end
noncomputable section
end
noncomputable section
end
noncomputable section
def O1:PV->Option (List Int)
 | .tup l=>L6 l
 | _=>none
def Q0 (n:Nat):M (List (List Int×PV)):=λA=>match A[n]? with
 | some (.dT m)=>.ok m A
 | _=>.no
def K0:List (List Int×PV)->List Int->Option PV
 | [],_=>none
 | p::r,k=>if p.1=k then some p.2 else K0 r k
def R4 (kvs:List (List Int×PV)) (k:List Int) (x:PV):List (List Int×PV):=
 if (kvs.any λp=>decide (p.1=k))=true then kvs.map (λp=>if p.1=k then (p.1,x) else p) else kvs++[(k,x)]
def aB1 (y d:ED):ED:=λσ=>bnd (y σ) λk=>bnd (d σ) λx=>match O1 k,x with
 | some i,.ref n=>bnd (Q0 n) λm=>ret (.bl (K0 m i).isSome)
 | _,_=>stuck
def al6 (d y e:ED):SD:=λσ=>bnd (e σ) λv=>bnd (d σ) λx=>bnd (y σ) λk=>match x,O1 k with
 | .ref n,some i=>bnd (Q0 n) λm=>G5 (m.length<LIM) (bnd (put n (.dT (R4 m i v))) λ_=>ret (.nx σ))
 | _,_=>stuck
def z0 (d y:ED):ED:=λσ=>bnd (d σ) λx=>bnd (y σ) λk=>match x,O1 k with
 | .ref n,some i=>bnd (Q0 n) λm=>match K0 m i with
   | some v=>ret v
   | none=>stuck
 | _,_=>stuck
def al7:ED:=λ_=>alloc (.dT [])
def aB2 (d y:ED):ED:=λσ=>bnd (d σ) λx=>match x with
 | .ref n=>bnd (Q0 n) λ_=>bnd (y σ) λk=>match O1 k with
   | some i=>bnd (Q0 n) λm=>ret ((K0 m i).getD .non)
   | _=>stuck
 | _=>stuck
def aB3 (d y e:ED):ED:=λσ=>bnd (d σ) λx=>match x with
 | .ref n=>bnd (Q0 n) λ_=>bnd (y σ) λk=>bnd (e σ) λv=>match O1 k with
   | some i=>bnd (Q0 n) λm=>ret ((K0 m i).getD v)
   | _=>stuck
 | _=>stuck
def bq1:OD
 | .int i,.int j=>G5 (0<=j) (ret (.int (i / 2 ^ j.toNat)))
 | _,_=>stuck
def ad2 (a:ED):ED:=λσ=>bnd (a σ) λx=>match x with
 | .int j=>G5 (-(2 ^ 62)<=j/\j<2 ^ 62/\j.toNat<=2 ^ 24) (alloc (.lst ((List.range j.toNat).map λk=>PV.int (k:Nat))))
 | _=>stuck
end
noncomputable section
def small:List (List Int):=((List.range 10).map λa=>(List.range 10).map λb=>[((a:Nat):Int),((b:Nat):Int)]).flatten
def bp9 (a:ED):ED:=λσ=>bnd (a σ) λx=>match x with
 | .ref n=>bnd (Q0 n) λm=>ret (.int m.length)
 | _=>stuck
def aB4 (a:ED):ED:=λσ=>bnd (a σ) λx=>match x with
 | .ref n=>bnd (Q0 n) λm=>G5 ((m.map (·.1)).Nodup/\∀p∈m,p.1∈small) (alloc (.dT m))
 | _=>stuck
end
noncomputable section
end
noncomputable section
end
noncomputable section
end
noncomputable section
end
noncomputable section
def aR9 (a:ED):ED:=λσ=>bnd (a σ) λx=>match x with
 | .bl b=>ret (.int (if b then 1 else 0))
 | _=>stuck
def ad3 (x:PV):M Bool:=match x with
 | .str _=>ret true
 | .ref n=>bnd (S9 n) λ_=>ret false
 | _=>ret false
def aq6 (a:ED):ED:=λσ=>bnd (a σ) λx=>bnd (ad3 x) λb=>ret (.bl b)
end
noncomputable section
end
noncomputable section
def ad4 (a:ED):ED:=λσ=>bnd (a σ) λx=>match x with
 | .ref n=>bnd (Q0 n) λm=>G5 (m.length<64/\∀p∈m,p.1≠[]) (alloc (.lst ((G6 G3 (m.map (·.1))).map λt=>.tup (t.map .int))))
 | _=>stuck
end
noncomputable section
end
noncomputable section
end
noncomputable section
end
def t6 (d y e:ED):ED:=λσ=>bnd (d σ) λx=>match x with
 | .ref n=>bnd (Q0 n) λ_=>bnd (y σ) λk=>bnd (e σ) λv=>match O1 k with
   | some i=>bnd (Q0 n) λm=>match K0 m i with
     | some w=>ret w
     | none=>G5 (m.length<LIM) (bnd (put n (.dT (R4 m i v))) λ_=>ret v)
   | _=>stuck
 | _=>stuck
def t7:List PV->Option (List (List Int×PV))
 | []=>some []
 | .tup [k,v]::r=>(O1 k).bind λi=>(t7 r).map ((i,v) :: ·)
 | _=>none
def n0 (a:ED):ED:=λσ=>bnd (a σ) λx=>match x with
 | .ref n=>bnd (S9 n) λl=>match t7 l with
   | some m=>G5 (m.length<LIM) (alloc (.dT (m.foldl (λacc p=>R4 acc p.1 p.2) [])))
   | none=>stuck
 | _=>stuck
def Z9 (M:List Int) (x:Int):Nat:=(M.takeWhile λy=>decide (y<x)).length
def T2 (M:List Int) (x:Int):List Int:=M.takeWhile (λy=>decide (y<x))++x::M.dropWhile (λy=>decide (y<x))
def t8 (M:List Int) (x:Int):List Int:=if x∈M then M else T2 M x
def setL (l:List Int):List Int:=l.foldl t8 []
def t9 (a:ED):ED:=λσ=>bnd (a σ) λx=>match x with
 | .ref n=>bnd (S9 n) λl=>match L6 l with
   | some ns=>G5 (∀x∈ns,0<=x/\x<=5) (alloc (.lst ((setL ns).map PV.int)))
   | none=>stuck
 | _=>stuck
end Ws
namespace Ws
open PySem
def bd7:Expr->Bool
 | .Starred _ _=>true
 | _=>false
theorem G0 {e:Expr} {es:List Expr} {env:Env} (h:bd7 e=false):starEach (e::es) env=(false,eval e env)::starEach es env:=by
 cases e <;> first | rfl | cases h
mutual
inductive RV (ρ:List Addr) (H:L2.Hp):PV->L2.V->Prop
 | non:RV ρ H .non .non
 | bl (b:Bool):RV ρ H (.bl b) (.bl b)
 | int (i:Int):RV ρ H (.int i) (.int i)
 | str (x:Str):RV ρ H (.str x) (.str x)
 | tup {l:List PV} {a:Addr} {vs:List L2.V} (h:H a=some (.tup vs)) (r:RVs ρ H l vs):RV ρ H (.tup l) (.ref a)
 | ref {n:Nat} {a:Addr} (h:ρ[n]?=some a):RV ρ H (.ref n) (.ref a)
inductive RVs (ρ:List Addr) (H:L2.Hp):List PV->List L2.V->Prop
 | nil:RVs ρ H [] []
 | cons {x:PV} {v:L2.V} {l:List PV} {vs:List L2.V} (h:RV ρ H x v) (r:RVs ρ H l vs):RVs ρ H (x::l) (v::vs)
end
structure Ext (ρ:List Addr) (H:L2.Hp) (ρ':List Addr) (H':L2.Hp):Prop where
 pre:ρ<+:ρ'
 tup:∀a vs,H a=some (.tup vs)->H' a=some (.tup vs)
 xd:∀a fs,H a=some (.xd fs)->H' a=some (.xd fs)
theorem Ext.refl (ρ:List Addr) (H:L2.Hp):Ext ρ H ρ H:=⟨List.prefix_refl _,λ_ _ h=>h,λ_ _ h=>h⟩
theorem Ext.trans {ρ ρ1 ρ2:List Addr} {H H1 H2:L2.Hp} (a:Ext ρ H ρ1 H1) (b:Ext ρ1 H1 ρ2 H2):Ext ρ H ρ2 H2:=⟨a.pre.trans b.pre,λc vs h=>b.tup c vs (a.tup c vs h),λc vs h=>b.xd c vs (a.xd c vs h)⟩
theorem ad5 {ρ ρ':List Addr} {n:Nat} {a:Addr} (h:ρ<+:ρ') (e:ρ[n]?=some a):ρ'[n]?=some a:=by
 obtain⟨t,rfl⟩:=h
 rw [List.getElem?_append_left (List.getElem?_eq_some_iff.mp e).1];exact e
section
variable {ρ ρ':List Addr} {H H':L2.Hp}
mutual
theorem RV.mono (e:Ext ρ H ρ' H'):∀{x:PV} {v:L2.V},RV ρ H x v->RV ρ' H' x v
 | _,_,.non=>.non
 | _,_,.bl b=>.bl b
 | _,_,.int i=>.int i
 | _,_,.str x=>.str x
 | _,_,.tup h r=>.tup (e.tup _ _ h) (RVs.mono e r)
 | _,_,.ref h=>.ref (ad5 e.pre h)
theorem RVs.mono (e:Ext ρ H ρ' H'):∀{l:List PV} {vs:List L2.V},RVs ρ H l vs->RVs ρ' H' l vs
 | _,_,.nil=>.nil
 | _,_,.cons h r=>.cons (RV.mono e h) (RVs.mono e r)
end
theorem RVs.length:∀{l:List PV} {vs:List L2.V},RVs ρ H l vs->l.length=vs.length
 | _,_,.nil=>rfl
 | _,_,.cons _ r=>by simp [RVs.length r]
theorem RVs.get:∀{l:List PV} {vs:List L2.V} {i:Nat} {x:PV},RVs ρ H l vs->l[i]?=some x->∃v,vs[i]?=some v/\RV ρ H x v
 | _,_,_,_,.nil,e=>by simp at e
 | _,_,0,_,.cons h _,e=>by simp at e;subst e;exact⟨_,rfl,h⟩
 | _,_,i+1,_,.cons _ r,e=>by
   obtain⟨v,h1,h2⟩:=RVs.get (i:=i) r (by simpa using e)
   exact⟨v,by simpa using h1,h2⟩
theorem RVs.get':∀{l:List PV} {vs:List L2.V} {i:Nat} {v:L2.V},RVs ρ H l vs->vs[i]?=some v->∃x,l[i]?=some x/\RV ρ H x v
 | _,_,_,_,.nil,e=>by simp at e
 | _,_,0,_,.cons h _,e=>by simp at e;subst e;exact⟨_,rfl,h⟩
 | _,_,i+1,_,.cons _ r,e=>by
   obtain⟨x,h1,h2⟩:=RVs.get' (i:=i) r (by simpa using e)
   exact⟨x,by simpa using h1,h2⟩
theorem RVs.append:∀{l m:List PV} {vs ws:List L2.V},RVs ρ H l vs->RVs ρ H m ws->RVs ρ H (l++m) (vs++ws)
 | _,_,_,_,.nil,s=>s
 | _,_,_,_,.cons h r,s=>.cons h (RVs.append r s)
theorem RVs.take:∀{l:List PV} {vs:List L2.V} (n:Nat),RVs ρ H l vs->RVs ρ H (l.take n) (vs.take n)
 | _,_,0,_=>by simpa using .nil
 | _,_,_+1,.nil=>.nil
 | _,_,n+1,.cons h r=>.cons h (RVs.take n r)
theorem RVs.drop:∀{l:List PV} {vs:List L2.V} (n:Nat),RVs ρ H l vs->RVs ρ H (l.drop n) (vs.drop n)
 | _,_,0,r=>r
 | _,_,_+1,.nil=>.nil
 | _,_,n+1,.cons _ r=>RVs.drop n r
theorem RVs.ints (ns:List Int):RVs ρ H (ns.map .int) (ns.map .int):=by
 induction ns with
 | nil=>exact .nil
 | cons i r ih=>exact .cons (.int i) ih
end
def fnm (i:Nat):Str:=(["number","passings","at","web","leaders","limits","plan","free","ledger","kept_leaders","kept_limits","kept_free","now","turns_of_lays","sayings","first_turns","does","me","open_boxes"]:List Str).getD i "?"
def Fz (K:PySem.W.Frag) (H:L2.Hp) (a:Addr) (xs:List L2.V):Prop:=
 (∃o,H a=some (.frz o (.lst xs)))\/∃(o:Obj) (its:Array Value) (n:Nat),K.lookup a=some o/\o.cls=.type "list"/\o.dict=none/\o.data=.seq its n/\its.size<=sizeLine/\L2.Vals xs its.toList
theorem Fz.sq {K:PySem.W.Frag} {H:L2.Hp} {a:Addr} {xs:List L2.V} (h:Fz K H a xs):L2.SqL K H a xs:=by
 rcases h with ⟨o,h⟩ | h
 ·exact .inl (.inr ⟨o,h⟩)
 ·exact .inr h
def T3:PO->Bool
 | .ro _=>false
 | _=>true
structure Pairs {κ κ':Type} (f:κ->κ') (ρ:List Addr) (H:L2.Hp) (kvs:List (κ×PV)) (kv:List (κ'×L2.V)):Prop where
 keys:kv.map (·.1)=kvs.map λp=>f p.1
 vals:RVs ρ H (kvs.map (·.2)) (kv.map (·.2))
theorem Pairs.mono {κ κ':Type} {f:κ->κ'} {ρ ρ':List Addr} {H H':L2.Hp} {kvs:List (κ×PV)} {kv:List (κ'×L2.V)} (h:Pairs f ρ H kvs kv) (e:Ext ρ H ρ' H'):Pairs f ρ' H' kvs kv:=⟨h.keys,h.vals.mono e⟩
section
variable (K:PySem.W.Frag) (cm:Nat->Addr)
def RO (ρ:List Addr) (H:L2.Hp) (a:Addr):PO->Prop
 | .lst l=>∃xs,H a=some (.lst xs)/\RVs ρ H l xs
 | .ro l=>∃xs,Fz K H a xs/\RVs ρ H l xs
 | .dI kvs=>∃kv,H a=some (.dK kv)/\Pairs (Sum.inl:Int->L2.Key) ρ H kvs kv
 | .ins c fs=>(c<7/\∀p∈fs,p.1<19)/\∃dx kv,H a=some (.ins (cm c) dx kv)/\Pairs fnm ρ H fs kv
 | .dT kvs=>∃kv,H a=some (.dT kv)/\Pairs (List.map Sum.inl:List Int->List L2.Key) ρ H kvs kv
 | .exc c v=>∃o d v',H a=some (.frz o (.own a))/\o.cls=.ref (cm c)/\o.dict=some d/\(∃vs:Array Value,o.data=.fields vs/\vs[2]?=some .none)/\H d=some (.xd [("at",v')])/\RV ρ H v v'
structure Rel (ρ:List Addr) (A:PHp) (H:L2.Hp):Prop where
 len:ρ.length=A.length
 obj:∀(n:Nat) (o:PO) (a:Addr),A[n]?=some o->ρ[n]?=some a->RO K cm ρ H a o
 inj:∀(m n:Nat) (a:Addr) (o p:PO),ρ[m]?=some a->ρ[n]?=some a->A[m]?=some o->A[n]?=some p->T3 o=true->T3 p=true->m=n
end
section
variable {K:PySem.W.Frag} {cm:Nat->Addr} {ρ ρ':List Addr} {H H':L2.Hp} {A:PHp} {a p:Addr} {o:PO} {n:Nat}
theorem RO.keep (r:RO K cm ρ H a o) (e:Ext ρ H ρ' H') (hk:∀u,H a=some u->H' a=some u):RO K cm ρ' H' a o:=by
 cases o with
 | lst l=>obtain⟨xs,h,q⟩:=r;exact⟨xs,hk _ h,q.mono e⟩
 | ro l=>
   obtain⟨xs,h,q⟩:=r
   rcases h with ⟨u,h⟩ | h
   ·exact⟨xs,.inl ⟨u,hk _ h⟩,q.mono e⟩
   ·exact⟨xs,.inr h,q.mono e⟩
 | dI kvs=>obtain⟨kv,h,q⟩:=r;exact⟨kv,hk _ h,q.mono e⟩
 | ins c fs=>obtain⟨hs,dx,kv,h,q⟩:=r;exact⟨hs,dx,kv,hk _ h,q.mono e⟩
 | dT kvs=>obtain⟨kv,h,q⟩:=r;exact⟨kv,hk _ h,q.mono e⟩
 | exc c v=>obtain⟨o,d,v',h,h1,h2,h3,h4,q⟩:=r;exact⟨o,d,v',hk _ h,h1,h2,h3,e.xd _ _ h4,q.mono e⟩
theorem RO.some (r:RO K cm ρ H a o) (m:T3 o=true):∃u,H a=some u:=by
 cases o with
 | lst l=>obtain⟨xs,h,q⟩:=r;exact⟨_,h⟩
 | ro l=>simp [T3] at m
 | dI kvs=>obtain⟨kv,h,q⟩:=r;exact⟨_,h⟩
 | ins c fs=>obtain⟨_,dx,kv,h,q⟩:=r;exact⟨_,h⟩
 | dT kvs=>obtain⟨kv,h,q⟩:=r;exact⟨_,h⟩
 | exc c v=>obtain⟨o,d,v',h,q⟩:=r;exact⟨_,h⟩
theorem T4 {u:L2.HO} (hp:H p=none):∀b v,H b=some v->L2.upd H p u b=some v:=λb v h=>by
 rw [L2.D4 (L2.J9 h hp)];exact h
theorem Ext.same {u:L2.HO} (hp:H p=none):Ext ρ H ρ (L2.upd H p u):=⟨List.prefix_refl _,λa vs h=>T4 hp a _ h,λa vs h=>T4 hp a _ h⟩
theorem Ext.new {u:L2.HO} (hp:H p=none):Ext ρ H (ρ++[p]) (L2.upd H p u):=⟨List.prefix_append _ _,λa vs h=>T4 hp a _ h,λa vs h=>T4 hp a _ h⟩
theorem Rel.grow (r:Rel K cm ρ A H) (e:Ext ρ H ρ H') (hk:∀b v,H b=some v->H' b=some v):Rel K cm ρ A H':=
 ⟨r.len,λn o a h1 h2=>(r.obj n o a h1 h2).keep e (hk a),r.inj⟩
theorem Rel.tup {vs:List L2.V} (r:Rel K cm ρ A H) (hp:H p=none):Rel K cm ρ A (L2.upd H p (.tup vs)):=r.grow (Ext.same hp) (T4 hp)
theorem Rel.alloc {u:L2.HO} (r:Rel K cm ρ A H) (hp:H p=none) (hn:RO K cm (ρ++[p]) (L2.upd H p u) p o) (hm:T3 o=true):Rel K cm (ρ++[p]) (A++[o]) (L2.upd H p u):=by
 have e:Ext ρ H (ρ++[p]) (L2.upd H p u):=Ext.new hp
 have none_new:∀(n:Nat) (q:PO),ρ[n]?=some p->A[n]?=some q->T3 q=true->False:=λn q h1 h2 hq=>by
  obtain⟨v,hv⟩:=(r.obj n q p h2 h1).some hq
  rw [hp] at hv;cases hv
 have split:∀{α:Type} {l:List α} {x y:α} {n:Nat},(l++[x])[n]?=some y->l[n]?=some y\/(n=l.length/\y=x):=λ{α l x y n} h=>by
  by_cases hn:n<l.length
  ·rw [List.getElem?_append_left hn] at h;exact .inl h
  ·rw [List.getElem?_append_right (by omega)] at h
   have:n - l.length=0:=by
    by_cases z:n - l.length=0
    ·exact z
    ·rw [List.getElem?_eq_none (by simp;omega)] at h;cases h
   rw [this] at h
   simp at h
   exact .inr ⟨by omega,h.symm⟩
 refine⟨by simp [r.len],λn q a h1 h2=>?_,λm n a q q' h1 h2 h3 h4 m1 m2=>?_⟩
 ·rcases split h1 with h1 | ⟨rfl,rfl⟩
  ·rcases split h2 with h2 | ⟨rfl,rfl⟩
   ·exact (r.obj n q a h1 h2).keep e (T4 hp a)
   ·rw [r.len,List.getElem?_eq_none (Nat.le_refl _)] at h1;cases h1
  ·rcases split h2 with h2 | ⟨_,rfl⟩
   ·rw [←r.len,List.getElem?_eq_none (Nat.le_refl _)] at h2;cases h2
   ·exact hn
 ·rcases split h1 with g1 | ⟨rfl,ha1⟩ <;> rcases split h2 with g2 | ⟨rfl,ha2⟩
  ·have h3':A[m]?=some q:=by
    rcases split h3 with h3 | ⟨rfl,_⟩
    ·exact h3
    ·rw [←r.len,List.getElem?_eq_none (Nat.le_refl _)] at g1;cases g1
   have h4':A[n]?=some q':=by
    rcases split h4 with h4 | ⟨rfl,_⟩
    ·exact h4
    ·rw [←r.len,List.getElem?_eq_none (Nat.le_refl _)] at g2;cases g2
   exact r.inj m n a q q' g1 g2 h3' h4' m1 m2
  ·have h3':A[m]?=some q:=by
    rcases split h3 with h3 | ⟨rfl,_⟩
    ·exact h3
    ·rw [←r.len,List.getElem?_eq_none (Nat.le_refl _)] at g1;cases g1
   rw [ha2] at g1
   exact (none_new m q g1 h3' m1).elim
  ·have h4':A[n]?=some q':=by
    rcases split h4 with h4 | ⟨rfl,_⟩
    ·exact h4
    ·rw [←r.len,List.getElem?_eq_none (Nat.le_refl _)] at g2;cases g2
   rw [ha1] at g2
   exact (none_new n q' g2 h4' m2).elim
  ·rfl
theorem Ext.put {u:L2.HO} (r:Rel K cm ρ A H) (h1:ρ[n]?=some a) (h2:A[n]?=some o) (m:T3 o=true):Ext ρ H ρ (L2.upd H a u):=by
 have key:∀b w,H b=some w->((∃vs,w=.tup vs)\/∃fs,w=.xd fs)->L2.upd H a u b=some w:=λb w h hw=>by
  have ne:b≠a:=by
   rintro rfl
   have q:=r.obj n o b h2 h1
   cases o with
   | lst l=>obtain⟨xs,z,_⟩:=q;rw [h] at z;cases z;rcases hw with ⟨_,y⟩ | ⟨_,y⟩ <;> cases y
   | ro l=>simp [T3] at m
   | dI kvs=>obtain⟨xs,z,_⟩:=q;rw [h] at z;cases z;rcases hw with ⟨_,y⟩ | ⟨_,y⟩ <;> cases y
   | ins c fs=>obtain⟨_,dx,xs,z,_⟩:=q;rw [h] at z;cases z;rcases hw with ⟨_,y⟩ | ⟨_,y⟩ <;> cases y
   | dT kvs=>obtain⟨xs,z,_⟩:=q;rw [h] at z;cases z;rcases hw with ⟨_,y⟩ | ⟨_,y⟩ <;> cases y
   | exc c v=>obtain⟨o,d,v',z,_⟩:=q;rw [h] at z;cases z;rcases hw with ⟨_,y⟩ | ⟨_,y⟩ <;> cases y
  rw [L2.D4 ne];exact h
 exact⟨List.prefix_refl _,λb vs h=>key b _ h (.inl ⟨_,rfl⟩),λb vs h=>key b _ h (.inr ⟨_,rfl⟩)⟩
theorem Rel.put {u:L2.HO} {o':PO} (r:Rel K cm ρ A H) (h1:ρ[n]?=some a) (h2:A[n]?=some o) (m:T3 o=true) (m':T3 o'=true) (hn:RO K cm ρ (L2.upd H a u) a o'):Rel K cm ρ (A.set n o') (L2.upd H a u):=by
 have e:Ext ρ H ρ (L2.upd H a u):=Ext.put r h1 h2 m
 have hlt:=G1 h2
 refine⟨by simp [r.len],λk q b hk hb=>?_,λi j b q q' e1 e2 e3 e4 m1 m2=>?_⟩
 ·by_cases hkn:k=n
  ·subst hkn
   rw [get_set h2] at hk;cases hk
   rw [h1] at hb;cases hb
   exact hn
  ·rw [D6 hkn] at hk
   have q0:=r.obj k q b hk hb
   by_cases hba:b=a
   ·subst hba
    cases hq:T3 q with
    | true=>exact absurd (r.inj k n b q o hb h1 hk h2 hq m) hkn
    | false=>
      cases q with
      | ro l=>
        obtain⟨xs,z,w⟩:=q0
        rcases z with ⟨v,z⟩ | z
        ·obtain⟨v',z'⟩:=(r.obj n o b h2 h1).some m
         have:=r.obj n o b h2 h1
         rw [z] at z';cases z'
         cases o with
         | lst l=>obtain⟨xs,zz,_⟩:=this;rw [z] at zz;cases zz
         | ro l=>simp [T3] at m
         | dI kvs=>obtain⟨xs,zz,_⟩:=this;rw [z] at zz;cases zz
         | ins c fs=>obtain⟨_,dx,xs,zz,_⟩:=this;rw [z] at zz;cases zz
         | dT kvs=>obtain⟨xs,zz,_⟩:=this;rw [z] at zz;cases zz
         | exc c v=>obtain⟨o,d,v',zz,_⟩:=this;rw [z] at zz;cases zz
        ·exact⟨xs,.inr z,w.mono e⟩
      | _=>simp [T3] at hq
   ·exact q0.keep e λv hv=>by rw [L2.D4 hba];exact hv
 ·have f3:∀(k:Nat) (x:PO),(A.set n o')[k]?=some x->T3 x=true->∃y,A[k]?=some y/\T3 y=true:=λk x hk hx=>by
   by_cases hkn:k=n
   ·subst hkn;exact⟨o,h2,m⟩
   ·rw [D6 hkn] at hk;exact⟨x,hk,hx⟩
  obtain⟨y,y1,y2⟩:=f3 i q e3 m1
  obtain⟨z,z1,z2⟩:=f3 j q' e4 m2
  exact r.inj i j b y z e1 e2 y1 z1 y2 z2
end
structure RSt (ρ:List Addr) (H:L2.Hp) (σp:PSt) (σ:L2.St):Prop where
 len:σ.length=σp.length
 get:∀(i:Nat) (p:PV),σp[i]?=some (some p)->∃v,σ[i]?=some (some v)/\RV ρ H p v
theorem RSt.mono {ρ ρ':List Addr} {H H':L2.Hp} {σp:PSt} {σ:L2.St} (h:RSt ρ H σp σ) (e:Ext ρ H ρ' H'):RSt ρ' H' σp σ:=
 ⟨h.len,λi p hp=>let ⟨v,h1,h2⟩:=h.get i p hp;⟨v,h1,h2.mono e⟩⟩
theorem RSt.set {ρ:List Addr} {H:L2.Hp} {σp:PSt} {σ:L2.St} (h:RSt ρ H σp σ) (i:Nat) {x:PV} {v:L2.V} (r:RV ρ H x v):RSt ρ H (σp.set i (some x)) (σ.set i (some v)):=by
 refine⟨by simp [h.len],λj p hp=>?_⟩
 by_cases hij:i=j
 ·subst hij
  by_cases hl:i<σp.length
  ·rw [List.getElem?_set] at hp
   simp [hl] at hp
   subst hp
   exact⟨v,by rw [List.getElem?_set];simp [h.len,hl],r⟩
  ·rw [List.getElem?_eq_none (by simp;omega)] at hp;cases hp
 ·rw [List.getElem?_set_ne hij] at hp ⊢
  exact h.get j p hp
section
variable (K:PySem.W.Frag) (cm:Nat->Addr)
def EvE (d:ED):L2.TE:=λσ H Q=>∃(ρ:List Addr) (A:PHp) (σp:PSt) (v:PV) (A':PHp),Rel K cm ρ A H/\RSt ρ H σp σ/\d σp A=.ok v A'/\
 ∀ρ' H' v',Ext ρ H ρ' H'->Rel K cm ρ' A' H'->RV ρ' H' v v'->Q v' H'
def EvT (d:TD):L2.TT:=λσ H Q=>∃(ρ:List Addr) (A:PHp) (σp:PSt) (b:Bool) (A':PHp),Rel K cm ρ A H/\RSt ρ H σp σ/\d σp A=.ok b A'/\
 ∀ρ' H',Ext ρ H ρ' H'->Rel K cm ρ' A' H'->Q b H'
def EvA (d:AD):L2.TA:=λσ H Q=>∃(ρ:List Addr) (A:PHp) (σp:PSt) (vs:List PV) (A':PHp),Rel K cm ρ A H/\RSt ρ H σp σ/\d σp A=.ok vs A'/\
 ∀ρ' H' vs',Ext ρ H ρ' H'->Rel K cm ρ' A' H'->RVs ρ' H' vs vs'->Q vs' H'
def EvG (g:GD):L2.TG:=λv σ H Q=>∃(ρ:List Addr) (A:PHp) (σp:PSt) (x:PV) (σp':PSt) (A':PHp),Rel K cm ρ A H/\RSt ρ H σp σ/\RV ρ H x v/\g x σp A=.ok σp' A'/\
 ∀ρ' H' σ',Ext ρ H ρ' H'->Rel K cm ρ' A' H'->RSt ρ' H' σp' σ'->Q σ' H'
def a17 (g:GDs):L2.TGs:=λvs σ H Q=>∃(ρ:List Addr) (A:PHp) (σp:PSt) (xs:List PV) (σp':PSt) (A':PHp),Rel K cm ρ A H/\RSt ρ H σp σ/\RVs ρ H xs vs/\g xs σp A=.ok σp' A'/\
 ∀ρ' H' σ',Ext ρ H ρ' H'->Rel K cm ρ' A' H'->RSt ρ' H' σp' σ'->Q σ' H'
def bo4 (D:L2.az2) (ρ:List Addr) (H:L2.Hp):Fl->Prop
 | .nx σp=>∀σ,RSt ρ H σp σ->D.nx σ H
 | .bk σp=>∀σ,RSt ρ H σp σ->D.bk σ H
 | .ct σp=>∀σ,RSt ρ H σp σ->D.ct σ H
 | .rt v=>∀v',RV ρ H v v'->D.rt v' H
def EvS (s:SD):L2.TS:=λD σ H=>∃(ρ:List Addr) (A:PHp) (σp:PSt) (f:Fl) (A':PHp),Rel K cm ρ A H/\RSt ρ H σp σ/\s σp A=.ok f A'/\
 ∀ρ' H',Ext ρ H ρ' H'->Rel K cm ρ' A' H'->bo4 D ρ' H' f
end
section
variable {X:L2.Cx} {cm:Nat->Addr}
theorem D7 {e:Expr} {t t':L2.TE} (h:L2.PE X e t) (k:∀σ H Q,t' σ H Q->t σ H Q):L2.PE X e t':=λpins s σ H Q I q=>h pins s σ H Q I (k σ H Q q)
theorem u5 {e:Expr} {t t':L2.TT} (h:L2.PT X e t) (k:∀σ H Q,t' σ H Q->t σ H Q):L2.PT X e t':=λpins s σ H Q I q=>h pins s σ H Q I (k σ H Q q)
theorem aS0 {e:Expr} {t t':L2.TT} (h:L2.PW X e t) (k:∀σ H Q,t' σ H Q->t σ H Q):L2.PW X e t':=λw pins s σ H Q I q=>h w pins s σ H Q I (k σ H Q q)
theorem aS1 {es:List Expr} {t t':L2.TA} (h:L2.PA X es t) (k:∀σ H Q,t' σ H Q->t σ H Q):L2.PA X es t':=λpos pins s σ H Q I q=>h pos pins s σ H Q I (k σ H Q q)
theorem X4 {st:Stmt} {t t':L2.TS} (h:L2.PS X st t) (k:∀D σ H,t' D σ H->t D σ H):L2.PS X st t':=λpins s σ H D I q=>h pins s σ H D I (k D σ H q)
theorem aE8 {st:List Stmt} {t t':L2.TS} (h:L2.PSs X st t) (k:∀D σ H,t' D σ H->t D σ H):L2.PSs X st t':=λpins s σ H D I q=>h pins s σ H D I (k D σ H q)
theorem aS2 {e:Expr} {t t':L2.TG} (h:L2.PG X e t) (k:∀v σ H Q,t' v σ H Q->t v σ H Q):L2.PG X e t':=λpins s σ H v u Q I r q=>h pins s σ H v u Q I r (k v σ H Q q)
theorem aE9 {es:List Expr} {t t':L2.TGs} (h:L2.PGs X es t) (k:∀v σ H Q,t' v σ H Q->t v σ H Q):L2.PGs X es t':=λpins s σ H vs us Q I r q=>h pins s σ H vs us Q I r (k vs σ H Q q)
theorem bj4 {i:Nat} {e:Expr} (h:L2.PE X e (L2.a99 i)):L2.PE X e (EvE X.K cm (eVar i)):=D7 h λσ H Q ⟨ρ,A,σp,v,A',r,rs,ev,k⟩=>by
 have:∃p,σp[i]?=some (some p)/\v=p/\A'=A:=by
  unfold eVar at ev
  rcases hσ:σp[i]? with _ | (_ | p)
  ·rw [hσ] at ev;cases ev
  ·rw [hσ] at ev;cases ev
  ·rw [hσ] at ev;cases ev;exact⟨_,rfl,rfl,rfl⟩
 obtain⟨p,hp,rfl,rfl⟩:=this
 obtain⟨u,h1,h2⟩:=rs.get i _ hp
 exact⟨u,h1,k ρ H u (Ext.refl _ _) r h2⟩
theorem r_k {e:Expr} {x:PV} {u:L2.V} (h:L2.PE X e (L2.tC u)) (rv:∀ρ H,RV ρ H x u):L2.PE X e (EvE X.K cm (eK x)):=D7 h λσ H Q ⟨ρ,A,σp,v,A',r,rs,ev,k⟩=>by
 cases ev
 exact k ρ H u (Ext.refl _ _) r (rv ρ H)
theorem r_int {i:Int} {j pos}:L2.PE X (.Constant (.int i) j pos) (EvE X.K cm (eK (.int i))):=r_k L2.aO8 λ_ _=>.int i
theorem aa1 {b:Bool} {j pos}:L2.PE X (.Constant (.bool b) j pos) (EvE X.K cm (eK (.bl b))):=r_k L2.bg8 λ_ _=>.bl b
theorem bj5 {j pos}:L2.PE X (.Constant .none j pos) (EvE X.K cm (eK .non)):=r_k L2.ba1 λ_ _=>.non
def T5 (K:PySem.W.Frag) (cm:Nat->Addr) (f:OD) (r:L2.R2):Prop:=∀ρ A H x y z A' vx vy (Q:L2.VK),Rel K cm ρ A H->RV ρ H x vx->RV ρ H y vy->f x y A=.ok z A'->
 (∀ρ' H' v',Ext ρ H ρ' H'->Rel K cm ρ' A' H'->RV ρ' H' z v'->Q v' H')->r vx vy H Q
theorem aq7 {f:OD} {r:L2.R2} {a b:ED} (hf:T5 X.K cm f r) {σ:L2.St} {H:L2.Hp} {Q:L2.VK} (h:EvE X.K cm (D1 f a b) σ H Q):L2.tOp r (EvE X.K cm a) (EvE X.K cm b) σ H Q:=by
 obtain⟨ρ,A,σp,z,A',rl,rs,ev,k⟩:=h
 obtain⟨x,A1,e1,ev⟩:=B0 ev
 obtain⟨y,A2,e2,ev⟩:=B0 ev
 exact⟨ρ,A,σp,x,A1,rl,rs,e1,λρ1 H1 vx x1 rl1 rv1=>⟨ρ1,A1,σp,y,A2,rl1,rs.mono x1,e2,λρ2 H2 vy x2 rl2 rv2=>hf ρ2 A2 H2 x y z A' vx vy Q rl2 (rv1.mono x2) rv2 ev λρ3 H3 v3 x3 rl3 rv3=>k ρ3 H3 v3 ((x1.trans x2).trans x3) rl3 rv3⟩⟩
theorem r_bin {op:Operator} {f:OD} {r:L2.R2} {a b:Expr} {da db:ED} {pos:Pos} (ho:L2.OpR X (binaryOp op) r) (hf:T5 X.K cm f r) (ha:L2.PE X a (EvE X.K cm da)) (hb:L2.PE X b (EvE X.K cm db)):L2.PE X (.BinOp a op b pos) (EvE X.K cm (D1 f da db)):=
 D7 (L2.bh8 ho ha hb) λσ H Q h=>aq7 hf h
theorem S3 {op:CmpOp} {f:OD} {r:L2.R2} {a b:Expr} {da db:ED} {pos:Pos} (ho:L2.OpR X (compareOp op) r) (hf:T5 X.K cm f r) (ha:L2.PE X a (EvE X.K cm da)) (hb:L2.PE X b (EvE X.K cm db)) (hm:behindInMarks op b=false):L2.PE X (.Compare a [op] [b] pos) (EvE X.K cm (D1 f da db)):=
 D7 (L2.a01 ho ha hb hm) λσ H Q h=>aq7 hf h
theorem n4 {d:ED} {t:L2.TE} (h:∀σ H Q,EvE X.K cm d σ H Q->t σ H Q) {σ:L2.St} {H:L2.Hp} {Q:Bool->L2.Hp->Prop} (q:EvT X.K cm (G9 d) σ H Q):L2.a76 t σ H Q:=by
 obtain⟨ρ,A,σp,b,A',rl,rs,ev,k⟩:=q
 obtain⟨x,A1,e1,ev⟩:=B0 ev
 refine h σ H _ ⟨ρ,A,σp,x,A1,rl,rs,e1,λρ1 H1 v1 x1 rl1 rv1=>?_⟩
 cases x with
 | bl c=>
   cases ev
   cases rv1
   exact⟨_,rfl,k ρ1 H1 x1 rl1⟩
 | _=>cases ev
theorem J0 {op:CmpOp} {f:OD} {r:L2.R2} {a b:Expr} {da db:ED} {pos:Pos} (ho:L2.OpR X (compareOp op) r) (hf:T5 X.K cm f r) (ha:L2.PE X a (EvE X.K cm da)) (hb:L2.PE X b (EvE X.K cm db)) (hm:behindInMarks op b=false):L2.PT X (.Compare a [op] [b] pos) (EvT X.K cm (G9 (D1 f da db))):=
 u5 (L2.a02 ho ha hb hm) λσ H Q h=>n4 (λ_ _ _=>aq7 hf) h
theorem K9 {e:Expr} {d:ED} (h:L2.PE X e (EvE X.K cm d)) (he:∀whole,isTrue e X.env whole=(do let v ←whole;standAt e.pos;holding [v] (truthy v)):=by intro _;rfl):L2.PT X e (EvT X.K cm (G9 d)):=
 u5 (L2.ba3 h he) λσ H Q q=>n4 (λ_ _ _ z=>z) q
theorem okI {f:OD} {g:Int->Int->PV} {g':Int->Int->L2.V} {C:Int->Int->Prop} (h:∀x y A z A',f x y A=.ok z A'->∃i j,x=.int i/\y=.int j/\C i j/\z=g i j/\A'=A) (hg:∀ρ H i j,RV ρ H (g i j) (g' i j)) (K:PySem.W.Frag) (cm:Nat->Addr):T5 K cm f (L2.rI C g'):=
 λρ A H x y z A' vx vy Q rl rx ry ev k=>by
  obtain⟨i,j,rfl,rfl,hc,rfl,rfl⟩:=h _ _ _ _ _ ev
  cases rx;cases ry
  exact⟨i,j,rfl,rfl,hc,k ρ H _ (Ext.refl _ _) rl (hg _ _ _ _)⟩
theorem a18 {f:OD} {g:Int->Int->PV} {g':Int->Int->L2.V} (h:∀x y A z A',f x y A=.ok z A'->∃i j,x=.int i/\y=.int j/\z=g i j/\A'=A) (hg:∀ρ H i j,RV ρ H (g i j) (g' i j)) (K:PySem.W.Frag) (cm:Nat->Addr):T5 K cm f (L2.rI0 g'):=
 λρ A H x y z A' vx vy Q rl rx ry ev k=>by
  obtain⟨i,j,rfl,rfl,rfl,rfl⟩:=h _ _ _ _ _ ev
  cases rx;cases ry
  exact⟨i,j,rfl,rfl,k ρ H _ (Ext.refl _ _) rl (hg _ _ _ _)⟩
theorem ad6:T5 X.K cm oLt (L2.rI0 λi j=>.bl (decide (i<j))):=a18 (g:=λi j=>.bl (decide (i<j))) (λx y A z A' h=>by cases x <;> cases y <;> first | (cases h;exact⟨_,_,rfl,rfl,rfl,rfl⟩) | cases h) (λ_ _ _ _=>.bl _) _ _
theorem aS3:T5 X.K cm oLe (L2.rI0 λi j=>.bl (decide (i<=j))):=a18 (g:=λi j=>.bl (decide (i<=j))) (λx y A z A' h=>by cases x <;> cases y <;> first | (cases h;exact⟨_,_,rfl,rfl,rfl,rfl⟩) | cases h) (λ_ _ _ _=>.bl _) _ _
theorem bj6:T5 X.K cm oGt (L2.rI0 λi j=>.bl (decide (j<i))):=a18 (g:=λi j=>.bl (decide (j<i))) (λx y A z A' h=>by cases x <;> cases y <;> first | (cases h;exact⟨_,_,rfl,rfl,rfl,rfl⟩) | cases h) (λ_ _ _ _=>.bl _) _ _
theorem bj7:T5 X.K cm oGe (L2.rI0 λi j=>.bl (decide (j<=i))):=a18 (g:=λi j=>.bl (decide (j<=i))) (λx y A z A' h=>by cases x <;> cases y <;> first | (cases h;exact⟨_,_,rfl,rfl,rfl,rfl⟩) | cases h) (λ_ _ _ _=>.bl _) _ _
theorem ok_mod:T5 X.K cm ap5 (L2.rI (λ_ j=>0<j) λi j=>.int (i%j)):=okI (g:=λi j=>.int (i%j)) (λx y A z A' h=>by
 cases x <;> cases y <;> first | (obtain⟨c,h⟩:=C7 h;cases h;exact⟨_,_,rfl,rfl,c,rfl,rfl⟩) | cases h) (λ_ _ _ _=>.int _) _ _
theorem aq8:T5 X.K cm au5 (L2.rI L2.bi0 λi j=>.int (i / j)):=okI (g:=λi j=>.int (i / j)) (λx y A z A' h=>by
 cases x <;> cases y <;> first | (obtain⟨c,h⟩:=C7 h;cases h;exact⟨_,_,rfl,rfl,c,rfl,rfl⟩) | cases h) (λ_ _ _ _=>.int _) _ _
theorem aB5:T5 X.K cm aR5 (L2.rI L2.CMul λi j=>.int (i*j)):=okI (g:=λi j=>.int (i*j)) (λx y A z A' h=>by
 cases x <;> cases y <;> first | (obtain⟨c,h⟩:=C7 h;cases h;exact⟨_,_,rfl,rfl,c,rfl,rfl⟩) | cases h) (λ_ _ _ _=>.int _) _ _
end
section
variable {K:PySem.W.Frag} {ρ:List Addr} {H:L2.Hp} {A:PHp} {n:Nat} {v:L2.V} {l:List PV}
theorem L7 {cm:Nat->Addr} {A':PHp} (rl:Rel K cm ρ A H) (r:RV ρ H (.ref n) v) (h:E7 n A=.ok l A'):A'=A/\∃a xs,v=.ref a/\L2.SqL K H a xs/\RVs ρ H l xs:=by
 cases r with
 | ref hn=>
   unfold E7 at h
   rcases hA:A[n]? with _ | o
   ·rw [hA] at h;cases h
   ·have q:=rl.obj n o _ hA hn
    cases o with
    | lst m=>rw [hA] at h;cases h;obtain⟨xs,h1,h2⟩:=q;exact⟨rfl,_,xs,rfl,L2.SqL.of h1,h2⟩
    | ro m=>rw [hA] at h;cases h;obtain⟨xs,h1,h2⟩:=q;exact⟨rfl,_,xs,rfl,h1.sq,h2⟩
    | dI m=>rw [hA] at h;cases h
    | ins c m=>rw [hA] at h;cases h
    | dT m=>rw [hA] at h;cases h
    | exc c m=>rw [hA] at h;cases h
theorem R5 {cm:Nat->Addr} {A':PHp} (rl:Rel K cm ρ A H) (r:RV ρ H (.ref n) v) (h:S9 n A=.ok l A'):A'=A/\A[n]?=some (.lst l)/\∃a xs,v=.ref a/\ρ[n]?=some a/\H a=some (.lst xs)/\RVs ρ H l xs:=by
 cases r with
 | ref hn=>
   unfold S9 at h
   rcases hA:A[n]? with _ | o
   ·rw [hA] at h;cases h
   ·have q:=rl.obj n o _ hA hn
    cases o with
    | lst m=>rw [hA] at h;cases h;obtain⟨xs,h1,h2⟩:=q;exact⟨rfl,rfl,_,xs,rfl,hn,h1,h2⟩
    | ro m=>rw [hA] at h;cases h
    | dI m=>rw [hA] at h;cases h
    | ins c m=>rw [hA] at h;cases h
    | dT m=>rw [hA] at h;cases h
    | exc c m=>rw [hA] at h;cases h
theorem ad7 {cm:Nat->Addr} {c:Nat} {fs:List (Nat×PV)} {a:Addr} (rl:Rel K cm ρ A H) (hA:A[n]?=some (.ins c fs)) (hn:ρ[n]?=some a):c<7:=(rl.obj n _ _ hA hn).1.1
theorem ad8 {cm:Nat->Addr} {A':PHp} {o:Nat×List (Nat×PV)} (rl:Rel K cm ρ A H) (r:RV ρ H (.ref n) v) (h:Z1 n A=.ok o A'):A'=A/\A[n]?=some (.ins o.1 o.2)/\∃a dx kv,v=.ref a/\ρ[n]?=some a/\H a=some (.ins (cm o.1) dx kv)/\Pairs fnm ρ H o.2 kv/\∀p∈o.2,p.1<19:=by
 cases r with
 | ref hn=>
   unfold Z1 at h
   rcases hA:A[n]? with _ | o
   ·rw [hA] at h;cases h
   ·have q:=rl.obj n o _ hA hn
    cases o with
    | lst m=>rw [hA] at h;cases h
    | ro m=>rw [hA] at h;cases h
    | dI m=>rw [hA] at h;cases h
    | ins c m=>rw [hA] at h;cases h;obtain⟨hs,dx,kv,h1,h2⟩:=q;exact⟨rfl,rfl,_,dx,kv,rfl,hn,h1,h2,hs.2⟩
    | dT m=>rw [hA] at h;cases h
    | exc c m=>rw [hA] at h;cases h
theorem a6 {cm:Nat->Addr} {x:PV} {A':PHp} (rl:Rel K cm ρ A H) (r:RV ρ H x v) (h:N0 x A=.ok l A'):A'=A/\∃a xs,v=.ref a/\(L2.SqL K H a xs\/L2.SqT K H a xs)/\RVs ρ H l xs:=by
 cases x with
 | ref n=>
   obtain⟨e,a,xs,h1,h2,h3⟩:=L7 rl r h
   exact⟨e,a,xs,h1,.inl h2,h3⟩
 | tup m=>
   cases h
   cases r with
   | tup h1 h2=>exact⟨rfl,_,_,rfl,.inr (L2.SqT.of h1),h2⟩
 | _=>cases h
theorem bd8 {α:Type} (xs:List α) (i:Int):L2.atI xs i=atI xs i:=rfl
theorem RVs.at {xs:List L2.V} {i:Int} {x:PV} (r:RVs ρ H l xs) (h:atI l i=some x):∃u,L2.atI xs i=some u/\RV ρ H x u:=by
 rw [bd8]
 unfold atI at h ⊢
 rw [←r.length]
 rcases e:ixN l.length i with _ | j
 ·rw [e] at h;cases h
 ·rw [e] at h
  obtain⟨u,h1,h2⟩:=r.get (i:=j) h
  exact⟨u,h1,h2⟩
theorem n5 (n d:Nat) (o:Option Int):HT.sIx n d o=S0 n d o:=by
 cases o with
 | none=>rfl
 | some v=>
   have e:=HT.clip_eq v n d
   show HT.sIx n d (some v)=if v<0 then (max (v+n) 0).toNat else (min v n).toNat
   by_cases h:v<0
   ·rw [if_pos h] at e ⊢;omega
   ·rw [if_neg h] at e ⊢;omega
theorem RVs.slc {xs:List L2.V} (r:RVs ρ H l xs) (lo hi:Option Int):RVs ρ H (cut l lo hi) (L2.ap0 xs lo hi):=by
 unfold cut L2.ap0
 rw [n5,n5,←r.length]
 exact (r.drop _).take _
end
theorem V7 {n:Nat} (h:n<=LIM):n<=sizeLine:=Nat.le_trans h (by unfold LIM;rw [sizeLine_eq];decide)
theorem aq9 {n:Nat} (h:n<LIM):n<sizeLine:=Nat.lt_of_lt_of_le h (by unfold LIM;rw [sizeLine_eq];decide)
section
variable {X:L2.Cx} {cm:Nat->Addr}
def a84 (K:PySem.W.Frag):L2.R2:=λx y H Q=>(∃i j,x=.int i/\y=.int j/\Q (.int (i+j)) H)\/(L2.a80 K x y H Q\/L2.rCat x y H Q)
theorem op_add3:L2.OpR X (binaryOp .Add) (a84 X.K):=L2.op_add.or (L2.op_catT.or L2.bc6)
theorem ok_add:T5 X.K cm Z2 (a84 X.K):=λρ A H x y z A' vx vy Q rl rx ry ev k=>by
 cases x with
 | int i=>
   cases y with
   | int j=>cases ev;cases rx;cases ry;exact .inl ⟨i,j,rfl,rfl,k ρ H _ (Ext.refl _ _) rl (.int _)⟩
   | _=>cases ev
 | tup l=>
   cases y with
   | tup m=>
     obtain⟨c,ev⟩:=C7 ev
     cases ev
     cases rx with
     | tup h1 r1=>
       cases ry with
       | tup h2 r2=>
         refine .inr (.inl ⟨_,_,_,_,rfl,rfl,L2.SqT.of h1,L2.SqT.of h2,?_,?_,?_⟩)
         ·intro e;subst e;have:=r1.length;exact c.1 (List.length_eq_zero_iff.mp (by simpa using this))
         ·rw [←r1.length,←r2.length];exact V7 c.2
         ·refine⟨λz=>?_,λ_ p hp=>?_⟩
          ·subst z
           cases r2
           refine k ρ H _ (Ext.refl _ _) rl ?_
           rw [List.append_nil];exact .tup h1 r1
          ·refine k ρ _ _ (Ext.same hp) (rl.tup hp) (.tup L2.D2 ?_)
           exact (r1.mono (Ext.same hp)).append (r2.mono (Ext.same hp))
   | _=>cases ev
 | ref n=>
   cases y with
   | ref m=>
     obtain⟨l1,A1,e1,ev1⟩:=B0 ev
     obtain⟨rfl,_,a,xs,rfl,_,ha,r1⟩:=R5 rl rx e1
     obtain⟨l2,A2,e2,ev2⟩:=B0 ev1
     obtain⟨rfl,_,b,ys,rfl,_,hb,r2⟩:=R5 rl ry e2
     obtain⟨c,ev3⟩:=C7 ev2
     cases ev3
     refine .inr (.inr ⟨a,b,xs,ys,rfl,rfl,ha,hb,?_,λp hp=>?_⟩)
     ·rw [←r1.length,←r2.length];exact V7 c
     ·have e:Ext ρ H (ρ++[p]) (L2.upd H p (.lst (xs++ys))):=Ext.new hp
      exact k (ρ++[p]) _ _ e (rl.alloc hp ⟨_,L2.D2,(r1.mono e).append (r2.mono e)⟩ rfl) (.ref (by rw [←rl.len];simp))
   | _=>cases ev
 | _=>cases y <;> cases ev
def bj8 (K:PySem.W.Frag):L2.R2:=λx y H Q=>L2.bi6 K x y H Q\/L2.bi7 K x y H Q
theorem ix2:L2.IxR X (bj8 X.K):=L2.ix_list.or L2.bc3
theorem bj9:T5 X.K cm oIx (bj8 X.K):=λρ A H x y z A' vx vy Q rl rx ry ev k=>by
 cases y with
 | int i=>
   obtain⟨l,A1,e1,ev1⟩:=B0 ev
   obtain⟨rfl,a,xs,rfl,hs,rs⟩:=a6 rl rx e1
   rcases hi:atI l i with _ | u
   ·rw [hi] at ev1;cases ev1
   ·rw [hi] at ev1
    cases ev1
    cases ry
    obtain⟨w,hw,rw'⟩:=rs.at hi
    rcases hs with hs | hs
    ·exact .inl ⟨a,xs,i,w,rfl,rfl,hs,hw,k ρ H w (Ext.refl _ _) rl rw'⟩
    ·exact .inr ⟨a,xs,i,w,rfl,rfl,hs,hw,k ρ H w (Ext.refl _ _) rl rw'⟩
 | _=>cases ev
theorem O9 {a b:Expr} {da db:ED} {pos:Pos} (ha:L2.PE X a (EvE X.K cm da)) (hb:L2.PE X b (EvE X.K cm db)) (hs:L2.aE4 b):L2.PE X (.Subscript a b pos) (EvE X.K cm (D1 oIx da db)):=
 D7 (L2.bi5 ix2 ha hb hs) λσ H Q h=>aq7 bj9 h
theorem n8 {ρ:List Addr} {H:L2.Hp} {x:PV} {v:L2.V} (r:RV ρ H x v):decide (v=.non)=ac2 x:=by
 cases r <;> simp [ac2]
theorem bk0 {a:Expr} {da:ED} {j:Nat} {pos pos':Pos} (ha:L2.PE X a (EvE X.K cm da)):L2.PE X (.Compare a [.Is] [.Constant .none j pos'] pos) (EvE X.K cm (aK6 da)):=
 D7 (L2.az3 (L2.aO9 ha)) λσ H Q ⟨ρ,A,σp,v,A',rl,rs,ev,k⟩=>by
  obtain⟨x,A1,e1,ev⟩:=B0 ev
  cases ev
  exact⟨ρ,A,σp,x,A',rl,rs,e1,λρ1 H1 v1 x1 rl1 rv1=>k ρ1 H1 _ x1 rl1 (by rw [n8 rv1];exact .bl _)⟩
theorem bd9 {a:Expr} {da:ED} {j:Nat} {pos pos':Pos} (ha:L2.PE X a (EvE X.K cm da)):L2.PE X (.Compare a [.IsNot] [.Constant .none j pos'] pos) (EvE X.K cm (au6 da)):=
 D7 (L2.az3 (L2.aE2 ha)) λσ H Q ⟨ρ,A,σp,v,A',rl,rs,ev,k⟩=>by
  obtain⟨x,A1,e1,ev⟩:=B0 ev
  cases ev
  exact⟨ρ,A,σp,x,A',rl,rs,e1,λρ1 H1 v1 x1 rl1 rv1=>k ρ1 H1 _ x1 rl1 (by rw [n8 rv1];exact .bl _)⟩
theorem aS4 {a:Expr} {da:ED} {j:Nat} {pos pos':Pos} (ha:L2.PE X a (EvE X.K cm da)):L2.PT X (.Compare a [.Is] [.Constant .none j pos'] pos) (EvT X.K cm (G9 (aK6 da))):=
 u5 (L2.az4 (L2.aO9 ha)) λσ H Q q=>n4 (t:=L2.bg9 (EvE X.K cm da)) (λσ H Q ⟨ρ,A,σp,v,A',rl,rs,ev,k⟩=>by
  obtain⟨x,A1,e1,ev⟩:=B0 ev
  cases ev
  exact⟨ρ,A,σp,x,A',rl,rs,e1,λρ1 H1 v1 x1 rl1 rv1=>k ρ1 H1 _ x1 rl1 (by rw [n8 rv1];exact .bl _)⟩) q
theorem a19 {a:Expr} {da:ED} {j:Nat} {pos pos':Pos} (ha:L2.PE X a (EvE X.K cm da)):L2.PT X (.Compare a [.IsNot] [.Constant .none j pos'] pos) (EvT X.K cm (G9 (au6 da))):=
 u5 (L2.az4 (L2.aE2 ha)) λσ H Q q=>n4 (t:=L2.a75 (EvE X.K cm da)) (λσ H Q ⟨ρ,A,σp,v,A',rl,rs,ev,k⟩=>by
  obtain⟨x,A1,e1,ev⟩:=B0 ev
  cases ev
  exact⟨ρ,A,σp,x,A',rl,rs,e1,λρ1 H1 v1 x1 rl1 rv1=>k ρ1 H1 _ x1 rl1 (by rw [n8 rv1];exact .bl _)⟩) q
theorem aS5 {f g:OD} {r r':L2.R2} {a b c:ED} (hf:T5 X.K cm f r) (hg:T5 X.K cm g r') {σ:L2.St} {H:L2.Hp} {Q:L2.VK} (h:EvE X.K cm (ap7 f g a b c) σ H Q):L2.aP9 r r' (EvE X.K cm a) (EvE X.K cm b) (EvE X.K cm c) σ H Q:=by
 obtain⟨ρ,A,σp,z,A',rl,rs,ev,k⟩:=h
 obtain⟨x,A1,e1,ev⟩:=B0 ev
 obtain⟨y,A2,e2,ev⟩:=B0 ev
 obtain⟨m,A3,e3,ev⟩:=B0 ev
 refine⟨ρ,A,σp,x,A1,rl,rs,e1,λρ1 H1 vx x1 rl1 rv1=>⟨ρ1,A1,σp,y,A2,rl1,rs.mono x1,e2,λρ2 H2 vy x2 rl2 rv2=>hf ρ2 A2 H2 x y m A3 vx vy _ rl2 (rv1.mono x2) rv2 e3 λρ3 H3 v3 x3 rl3 rv3=>?_⟩⟩
 have x13:=(x1.trans x2).trans x3
 cases m with
 | bl t=>
   cases rv3
   refine⟨t,rfl,?_⟩
   cases t with
   | true=>
     rw [if_pos rfl]
     obtain⟨u,A4,e4,ev⟩:=B0 ev
     exact⟨ρ3,A3,σp,u,A4,rl3,rs.mono x13,e4,λρ4 H4 v4 x4 rl4 rv4=>hg ρ4 A4 H4 y u z A' vy v4 Q rl4 ((rv2.mono x3).mono x4) rv4 ev λρ5 H5 v5 x5 rl5 rv5=>k ρ5 H5 v5 ((x13.trans x4).trans x5) rl5 rv5⟩
   | false=>
     rw [if_neg (by simp)]
     cases ev
     exact k ρ3 H3 _ x13 rl3 (.bl false)
 | _=>cases ev
theorem aF0 {op op':CmpOp} {f g:OD} {r r':L2.R2} {a b c:Expr} {da db dc:ED} {pos:Pos} (ho:L2.OpR X (compareOp op) r) (hf:T5 X.K cm f r) (ho':L2.OpR X (compareOp op') r') (hg:T5 X.K cm g r')
 (ha:L2.PE X a (EvE X.K cm da)) (hb:L2.PE X b (EvE X.K cm db)) (hc:L2.PE X c (EvE X.K cm dc)) (hm:lastMarks [op,op'] [b,c]=false:=by with_unfolding_all rfl):L2.PE X (.Compare a [op,op'] [b,c] pos) (EvE X.K cm (ap7 f g da db dc)):=
 D7 (L2.aQ0 ho ho' ha hb hc hm) λσ H Q h=>aS5 hf hg h
theorem O2 {a:Expr} {t:TD} {pos:Pos} (h:L2.PT X a (EvT X.K cm t)):L2.PT X (.UnaryOp .Not a pos) (EvT X.K cm (tNot t)):=u5 (L2.ba6 h) λσ H Q ⟨ρ,A,σp,b,A',rl,rs,ev,k⟩=>by
 obtain⟨c,A1,e1,ev⟩:=B0 ev
 cases ev
 exact⟨ρ,A,σp,c,A',rl,rs,e1,λρ1 H1 x1 rl1=>k ρ1 H1 x1 rl1⟩
theorem aF1 {a:Expr} {t:TD} {pos:Pos} (h:L2.PT X a (EvT X.K cm t)):L2.PW X (.BoolOp .And [a] pos) (EvT X.K cm t):=L2.aZ4 h
theorem U9 {a:Expr} {t:TD} {pos:Pos} (h:L2.PT X a (EvT X.K cm t)):L2.PW X (.BoolOp .Or [a] pos) (EvT X.K cm t):=L2.ba4 h
theorem aS6 {a b:Expr} {rest:List Expr} {t u:TD} {pos:Pos} (ha:L2.PT X a (EvT X.K cm t)) (hb:L2.PW X (.BoolOp .And (b::rest) pos) (EvT X.K cm u)):L2.PW X (.BoolOp .And (a::b::rest) pos) (EvT X.K cm (tAnd t u)):=
 aS0 (L2.ba5 ha hb) λσ H Q ⟨ρ,A,σp,z,A',rl,rs,ev,k⟩=>by
  obtain⟨c,A1,e1,ev⟩:=B0 ev
  refine⟨ρ,A,σp,c,A1,rl,rs,e1,λρ1 H1 x1 rl1=>?_⟩
  cases c with
  | true=>rw [if_pos rfl] at ev ⊢;exact⟨ρ1,A1,σp,z,A',rl1,rs.mono x1,ev,λρ2 H2 x2 rl2=>k ρ2 H2 (x1.trans x2) rl2⟩
  | false=>rw [if_neg (by simp)] at ev ⊢;cases ev;exact k ρ1 H1 x1 rl1
theorem a7 {a b:Expr} {rest:List Expr} {t u:TD} {pos:Pos} (ha:L2.PT X a (EvT X.K cm t)) (hb:L2.PW X (.BoolOp .Or (b::rest) pos) (EvT X.K cm u)):L2.PW X (.BoolOp .Or (a::b::rest) pos) (EvT X.K cm (tOr t u)):=
 aS0 (L2.bh0 ha hb) λσ H Q ⟨ρ,A,σp,z,A',rl,rs,ev,k⟩=>by
  obtain⟨c,A1,e1,ev⟩:=B0 ev
  refine⟨ρ,A,σp,c,A1,rl,rs,e1,λρ1 H1 x1 rl1=>?_⟩
  cases c with
  | true=>rw [if_pos rfl] at ev ⊢;cases ev;exact k ρ1 H1 x1 rl1
  | false=>rw [if_neg (by simp)] at ev ⊢;exact⟨ρ1,A1,σp,z,A',rl1,rs.mono x1,ev,λρ2 H2 x2 rl2=>k ρ2 H2 (x1.trans x2) rl2⟩
theorem ar0 {x:PV} {A A':PHp} {c:Bool} (h:asB x A=.ok c A'):x=.bl c/\A'=A:=by
 cases x with
 | bl b=>cases h;exact⟨rfl,rfl⟩
 | _=>cases h
theorem Q4 {a:Expr} {d:ED} {pos:Pos} (h:L2.PE X a (EvE X.K cm d)):L2.PE X (.BoolOp .And [a] pos) (EvE X.K cm d):=L2.aP0 h
theorem bk1 {a:Expr} {d:ED} {pos:Pos} (h:L2.PE X a (EvE X.K cm d)):L2.PE X (.BoolOp .Or [a] pos) (EvE X.K cm d):=L2.aP0 h
theorem T6 {a b:Expr} {rest:List Expr} {d u:ED} {pos:Pos} (ha:L2.PE X a (EvE X.K cm d)) (hb:L2.PE X (.BoolOp .And (b::rest) pos) (EvE X.K cm u)):L2.PE X (.BoolOp .And (a::b::rest) pos) (EvE X.K cm (Z3 d u)):=
 D7 (L2.ba7 ha hb) λσ H Q ⟨ρ,A,σp,z,A',rl,rs,ev,k⟩=>by
  obtain⟨c,A1,e1,ev⟩:=B0 ev
  obtain⟨x,A0,e0,e1⟩:=B0 e1
  obtain⟨rfl,rfl⟩:=ar0 e1
  refine⟨ρ,A,σp,_,_,rl,rs,e0,λρ1 H1 v1 x1 rl1 rv1=>?_⟩
  cases rv1
  refine⟨c,rfl,?_⟩
  cases c with
  | true=>rw [if_pos rfl] at ev ⊢;exact⟨ρ1,_,σp,z,A',rl1,rs.mono x1,ev,λρ2 H2 v2 x2 rl2=>k ρ2 H2 v2 (x1.trans x2) rl2⟩
  | false=>rw [if_neg (by simp)] at ev ⊢;cases ev;exact k ρ1 H1 _ x1 rl1 (.bl false)
theorem bo5 {a b:Expr} {rest:List Expr} {d u:ED} {pos:Pos} (ha:L2.PE X a (EvE X.K cm d)) (hb:L2.PE X (.BoolOp .Or (b::rest) pos) (EvE X.K cm u)):L2.PE X (.BoolOp .Or (a::b::rest) pos) (EvE X.K cm (eOr d u)):=
 D7 (L2.bh3 ha hb) λσ H Q ⟨ρ,A,σp,z,A',rl,rs,ev,k⟩=>by
  obtain⟨c,A1,e1,ev⟩:=B0 ev
  obtain⟨x,A0,e0,e1⟩:=B0 e1
  obtain⟨rfl,rfl⟩:=ar0 e1
  refine⟨ρ,A,σp,_,_,rl,rs,e0,λρ1 H1 v1 x1 rl1 rv1=>?_⟩
  cases rv1
  refine⟨c,rfl,?_⟩
  cases c with
  | true=>rw [if_pos rfl] at ev ⊢;cases ev;exact k ρ1 H1 _ x1 rl1 (.bl true)
  | false=>rw [if_neg (by simp)] at ev ⊢;exact⟨ρ1,_,σp,z,A',rl1,rs.mono x1,ev,λρ2 H2 v2 x2 rl2=>k ρ2 H2 v2 (x1.trans x2) rl2⟩
theorem a85 {a:Expr} {d:ED} {pos:Pos} (ha:L2.PE X a (EvE X.K cm d)):L2.PE X (.UnaryOp .Not a pos) (EvE X.K cm (bd6 d)):=
 D7 (L2.ba8 ha) λσ H Q ⟨ρ,A,σp,z,A',rl,rs,ev,k⟩=>by
  obtain⟨c,A1,e1,ev⟩:=B0 ev
  obtain⟨x,A0,e0,e1⟩:=B0 e1
  obtain⟨rfl,rfl⟩:=ar0 e1
  cases ev
  refine⟨ρ,A,σp,_,_,rl,rs,e0,λρ1 H1 v1 x1 rl1 rv1=>?_⟩
  cases rv1
  exact⟨c,rfl,k ρ1 H1 _ x1 rl1 (.bl _)⟩
theorem bo6 {c a b:Expr} {t:TD} {d u:ED} {pos:Pos} (hc:L2.PT X c (EvT X.K cm t)) (ha:L2.PE X a (EvE X.K cm d)) (hb:L2.PE X b (EvE X.K cm u)):L2.PE X (.IfExp c a b pos) (EvE X.K cm (eIf t d u)):=
 D7 (L2.aP1 hc ha hb) λσ H Q ⟨ρ,A,σp,z,A',rl,rs,ev,k⟩=>by
  obtain⟨c,A1,e1,ev⟩:=B0 ev
  refine⟨ρ,A,σp,c,A1,rl,rs,e1,λρ1 H1 x1 rl1=>?_⟩
  cases c with
  | true=>rw [if_pos rfl] at ev ⊢;exact⟨ρ1,A1,σp,z,A',rl1,rs.mono x1,ev,λρ2 H2 v2 x2 rl2=>k ρ2 H2 v2 (x1.trans x2) rl2⟩
  | false=>rw [if_neg (by simp)] at ev ⊢;exact⟨ρ1,A1,σp,z,A',rl1,rs.mono x1,ev,λρ2 H2 v2 x2 rl2=>k ρ2 H2 v2 (x1.trans x2) rl2⟩
theorem r_nil:L2.PA X [] (EvA X.K cm aNil):=aS1 L2.aA3 λσ H Q ⟨ρ,A,σp,vs,A',rl,rs,ev,k⟩=>by
 cases ev
 exact k ρ H [] (Ext.refl _ _) rl .nil
theorem r_cons {e:Expr} {es:List Expr} {d:ED} {ds:AD} (h:L2.PE X e (EvE X.K cm d)) (hr:L2.PA X es (EvA X.K cm ds)) (hs:starEach (e::es) X.env=(false,eval e X.env)::starEach es X.env:=by exact G0 rfl):L2.PA X (e::es) (EvA X.K cm (aCons d ds)):=
 aS1 (L2.l5 h hr hs) λσ H Q ⟨ρ,A,σp,vs,A',rl,rs,ev,k⟩=>by
  obtain⟨x,A1,e1,ev⟩:=B0 ev
  obtain⟨xs,A2,e2,ev⟩:=B0 ev
  cases ev
  exact⟨ρ,A,σp,x,A1,rl,rs,e1,λρ1 H1 v1 x1 rl1 rv1=>⟨ρ1,A1,σp,xs,A',rl1,rs.mono x1,e2,λρ2 H2 vs2 x2 rl2 rv2=>k ρ2 H2 _ (x1.trans x2) rl2 (.cons (rv1.mono x2) rv2)⟩⟩
theorem V8 {es:List Expr} {ds:AD} {x1:Nat} {pos:Pos} (h:L2.PA X es (EvA X.K cm ds)):L2.PE X (.Tuple es x1 pos) (EvE X.K cm (f9 ds)):=
 D7 (L2.bb9 h) λσ H Q ⟨ρ,A,σp,v,A',rl,rs,ev,k⟩=>by
  obtain⟨xs,A1,e1,ev⟩:=B0 ev
  obtain⟨c,ev⟩:=C7 ev
  cases ev
  refine⟨ρ,A,σp,xs,A',rl,rs,e1,λρ1 H1 vs1 x1 rl1 rv1=>⟨by rw [←rv1.length];exact V7 c,λp hp=>?_⟩⟩
  have e:Ext ρ1 H1 ρ1 (L2.upd H1 p (.tup vs1)):=Ext.same hp
  exact k ρ1 _ _ (x1.trans e) (rl1.tup hp) (.tup L2.D2 (rv1.mono e))
theorem r_lst {es:List Expr} {ds:AD} {pos:Pos} (h:L2.PA X es (EvA X.K cm ds)):L2.PE X (.List es pos) (EvE X.K cm (g6 ds)):=
 D7 (L2.bc0 h) λσ H Q ⟨ρ,A,σp,v,A',rl,rs,ev,k⟩=>by
  obtain⟨xs,A1,e1,ev⟩:=B0 ev
  obtain⟨c,ev⟩:=C7 ev
  cases ev
  refine⟨ρ,A,σp,xs,A1,rl,rs,e1,λρ1 H1 vs1 x1 rl1 rv1=>⟨by rw [←rv1.length];exact V7 c,λp hp=>?_⟩⟩
  have e:Ext ρ1 H1 (ρ1++[p]) (L2.upd H1 p (.lst vs1)):=Ext.new hp
  exact k (ρ1++[p]) _ _ (x1.trans e) (rl1.alloc hp ⟨_,L2.D2,rv1.mono e⟩ rfl) (.ref (by rw [←rl1.len];simp))
def EvL (K:PySem.W.Frag) (cm:Nat->Addr) (d:LD):L2.TO:=λσ H Q=>∃(ρ:List Addr) (A:PHp) (σp:PSt) (v:Option Int) (A':PHp),Rel K cm ρ A H/\RSt ρ H σp σ/\d σp A=.ok v A'/\
 ∀ρ' H',Ext ρ H ρ' H'->Rel K cm ρ' A' H'->Q v H'
theorem aS7 {e:Option Expr} {t t':L2.TO} (h:L2.PO X e t) (k:∀σ H Q,t' σ H Q->t σ H Q):L2.PO X e t':=λpins s σ H Q I q=>h pins s σ H Q I (k σ H Q q)
theorem r_lno:L2.PO X none (EvL X.K cm lNo):=aS7 L2.a09 λσ H Q ⟨ρ,A,σp,v,A',rl,rs,ev,k⟩=>by
 cases ev;exact k ρ H (Ext.refl _ _) rl
theorem r_lat {e:Expr} {d:ED} (h:L2.PE X e (EvE X.K cm d)):L2.PO X (some e) (EvL X.K cm (lAt d)):=aS7 (L2.a10 h) λσ H Q ⟨ρ,A,σp,v,A',rl,rs,ev,k⟩=>by
 obtain⟨x,A1,e1,ev1⟩:=B0 ev
 refine⟨ρ,A,σp,x,A1,rl,rs,e1,λρ1 H1 v1 x1 rl1 rv1=>?_⟩
 cases x with
 | int i=>cases ev1;cases rv1;exact⟨i,rfl,k ρ1 H1 x1 rl1⟩
 | _=>cases ev1
theorem ad9 {e:Expr} {lo hi:Option Expr} {d:ED} {dl dh:LD} {p2 pos:Pos} (he:L2.PE X e (EvE X.K cm d)) (hl:L2.PO X lo (EvL X.K cm dl)) (hu:L2.PO X hi (EvL X.K cm dh)):L2.PE X (.Subscript e (.Slice lo hi none p2) pos) (EvE X.K cm (ap8 d dl dh)):=
 D7 (L2.aQ8 (L2.sl_list.or L2.bc2) he hl hu) λσ H Q ⟨ρ,A,σp,v,A',rl,rs,ev,k⟩=>by
  obtain⟨x,A1,e1,ev1⟩:=B0 ev
  obtain⟨l,A2,e2,ev2⟩:=B0 ev1
  obtain⟨h,A3,e3,ev3⟩:=B0 ev2
  refine⟨ρ,A,σp,x,A1,rl,rs,e1,λρ1 H1 v1 x1 rl1 rv1=>⟨ρ1,A1,σp,l,A2,rl1,rs.mono x1,e2,λρ2 H2 x2 rl2=>⟨ρ2,A2,σp,h,A3,rl2,(rs.mono x1).mono x2,e3,λρ3 H3 x3 rl3=>?_⟩⟩⟩
  have x13:=(x1.trans x2).trans x3
  have rv3:=rv1.mono (x2.trans x3)
  cases x with
  | ref n=>
    obtain⟨xs,A4,e4,ev4⟩:=B0 ev3
    obtain⟨rfl,a,vs,rfl,hs,r⟩:=L7 rl3 rv3 e4
    cases ev4
    refine .inl ⟨a,vs,rfl,hs,λp hp=>?_⟩
    have e:Ext ρ3 H3 (ρ3++[p]) (L2.upd H3 p (.lst (L2.ap0 vs l h))):=Ext.new hp
    exact k (ρ3++[p]) _ _ (x13.trans e) (rl3.alloc hp ⟨_,L2.D2,(r.slc l h).mono e⟩ rfl) (.ref (by rw [←rl3.len];simp))
  | tup xs=>
    obtain⟨c,ev4⟩:=C7 ev3
    cases ev4
    cases rv3 with
    | tup ha r=>
      refine .inr ⟨_,_,rfl,L2.SqT.of ha,by rw [n5,n5,←r.length];exact c,λp hp=>?_⟩
      exact k ρ3 _ _ (x13.trans (Ext.same hp)) (rl3.tup hp) (.tup L2.D2 ((r.slc l h).mono (Ext.same hp)))
  | _=>cases ev3
theorem a8 {d:ED} {f:PV->M PV} {r:List L2.V->L2.Hp->L2.VK->Prop} {e:ED} (he:∀σ,e σ=bnd (d σ) f)
 (hf:∀ρ A H x z A' v (Q:L2.VK),Rel X.K cm ρ A H->RV ρ H x v->f x A=.ok z A'->(∀ρ' H' v',Ext ρ H ρ' H'->Rel X.K cm ρ' A' H'->RV ρ' H' z v'->Q v' H')->r [v] H Q)
 {σ:L2.St} {H:L2.Hp} {Q:L2.VK} (h:EvE X.K cm e σ H Q):L2.tCB r (EvA X.K cm (aCons d aNil)) σ H Q:=by
 obtain⟨ρ,A,σp,z,A',rl,rs,ev,k⟩:=h
 rw [he] at ev
 obtain⟨x,A1,e1,ev1⟩:=B0 ev
 refine⟨ρ,A,σp,[x],A1,rl,rs,by show bnd (d σp) _ A=_;rw [bnd_ok e1];rfl,λρ1 H1 vs1 x1 rl1 rv1=>?_⟩
 cases rv1 with
 | cons hv hr=>
   cases hr
   exact hf ρ1 A1 H1 x z A' _ Q rl1 hv ev1 λρ2 H2 v2 x2 rl2 rv2=>k ρ2 H2 v2 (x1.trans x2) rl2 rv2
theorem U5 {e:Expr} {d:ED} {p pos:Pos} (he:L2.PE X e (EvE X.K cm d)) (hg:L2.Gl X "len") (hm:X.mg "len" = none) (hs:starEach [e] X.env=(false,eval e X.env)::starEach [] X.env:=by exact G0 rfl):L2.PE X (.Call (.Name "len" p) [e] [] pos) (EvE X.K cm (Z4 d)):=
 D7 (L2.V5 L2.ap2 hg hm PySem.boot_len (r_cons he r_nil hs) (he:=hs)) λσ H Q h=>a8 (f:=λx=>bnd (N0 x) λl=>ret (.int l.length)) (λ_=>rfl) (λρ A H x z A' v Q rl rx ev k=>by
  obtain⟨l,A1,e1,ev1⟩:=B0 ev
  obtain⟨rfl,a,xs,rfl,hq,r⟩:=a6 rl rx e1
  cases ev1
  exact⟨a,xs,rfl,hq,k ρ H _ (Ext.refl _ _) rl (by rw [←r.length];exact .int _)⟩) h
theorem ae0 {e:Expr} {d:ED} {p pos:Pos} (he:L2.PE X e (EvE X.K cm d)) (hg:L2.Gl X "list") (hm:X.mg "list" = none) (hv:bootBuiltins "list" = some (.type "list")) (hs:starEach [e] X.env=(false,eval e X.env)::starEach [] X.env:=by exact G0 rfl):L2.PE X (.Call (.Name "list" p) [e] [] pos) (EvE X.K cm (l9 d)):=
 D7 (L2.d5 L2.ap3 hg hm hv (r_cons he r_nil hs) (he:=hs)) λσ H Q h=>a8 (f:=λx=>bnd (N0 x) λl=>alloc (.lst l)) (λ_=>rfl) (λρ A H x z A' v Q rl rx ev k=>by
  obtain⟨l,A1,e1,ev1⟩:=B0 ev
  obtain⟨rfl,a,xs,rfl,hq,r⟩:=a6 rl rx e1
  cases ev1
  refine⟨a,xs,rfl,hq,λp hp=>?_⟩
  have e:Ext ρ H (ρ++[p]) (L2.upd H p (.lst xs)):=Ext.new hp
  exact k (ρ++[p]) _ _ e (rl.alloc hp ⟨_,L2.D2,r.mono e⟩ rfl) (.ref (by rw [←rl.len];simp))) h
theorem Pairs.look {f:Nat->Str} {ρ:List Addr} {H:L2.Hp} (hf:∀i j,f i=f j->i<19->j<19->i=j):∀{kvs:List (Nat×PV)} {kv:List (Str×L2.V)} {i:Nat} {x:PV},Pairs f ρ H kvs kv->(∀p∈kvs,p.1<19)->i<19->U7 i kvs=some x->∃v,kv.lookup (f i)=some v/\RV ρ H x v
 | [],kv,i,x,h,_,_,e=>by cases e
 | (g,u)::r,kv,i,x,h,hs,hi,e=>by
   cases kv with
   | nil=>have:=h.keys;simp at this
   | cons p q=>
     have k:=h.keys
     simp only [List.map_cons,List.cons.injEq] at k
     have hv:=h.vals
     simp only [List.map_cons] at hv
     cases hv with
     | cons h1 h2=>
       have hg:g<19:=hs _ List.mem_cons_self
       obtain⟨p1,p2⟩:=p
       by_cases hgi:g=i
       ·subst hgi
        simp [U7] at e
        subst e
        exact⟨p2,by rw [List.lookup_cons];simp [show p1=f g from k.1],h1⟩
       ·have hne:¬f i=p1:=λz=>hgi (hf g i (by rw [z];exact k.1.symm) hg hi)
        simp only [U7,hgi,if_false] at e
        obtain⟨v,a,b⟩:=Pairs.look hf (kvs:=r) (kv:=q) ⟨k.2,h2⟩ (λp hp=>hs p (List.mem_cons_of_mem _ hp)) hi e
        refine⟨v,?_,b⟩
        rw [List.lookup_cons,beq_eq_false_iff_ne.mpr hne]
        exact a
end
theorem aF2:∀i j,fnm i=fnm j->i<19->j<19->i=j:=by
 intro i j h hi hj
 have key:∀i:_root_.Fin 19,∀j:_root_.Fin 19,fnm i.1=fnm j.1->i=j:=by decide +kernel
 exact congrArg (·.1) (key ⟨i,hi⟩ ⟨j,hj⟩ h)
section
variable {X:L2.Cx} {cm:Nat->Addr}
theorem bk2 {o:Expr} {d:ED} {f:Str} {i:Nat} {pos:Pos} (he:L2.PE X o (EvE X.K cm d)) (hf:fnm i=f) (hi:i<19) (hc:∀c,c<7->L2.Cls X.K (cm c)) (hn:∀c,c<7->L2.NoAttr X.K (cm c) f)
 (hb:attributeBase o f X.env (eval o X.env)=eval o X.env:=by rfl):L2.PE X (.Attribute o f pos) (EvE X.K cm (L5 d i)):=
 D7 (L2.bb7 he hb) λσ H Q ⟨ρ,A,σp,v,A',rl,rs,ev,k⟩=>by
  obtain⟨x,A1,e1,ev1⟩:=B0 ev
  refine⟨ρ,A,σp,x,A1,rl,rs,e1,λρ1 H1 v1 x1 rl1 rv1=>?_⟩
  cases x with
  | ref n=>
    obtain⟨o,A2,e2,ev2⟩:=B0 ev1
    obtain⟨rfl,hA,a,dx,kv,rfl,hn',hH,hp,hs⟩:=ad8 rl1 rv1 e2
    rcases hg:U7 i o.2 with _ | u
    ·rw [hg] at ev2;cases ev2
    ·rw [hg] at ev2
     cases ev2
     obtain⟨w,hw,rw'⟩:=hp.look aF2 hs hi hg
     rw [hf] at hw
     exact⟨a,_,dx,kv,w,rfl,hH,hc _ (ad7 rl1 hA hn'),hn _ (ad7 rl1 hA hn'),hw,k ρ1 H1 w x1 rl1 rw'⟩
  | _=>cases ev1
theorem Pairs.put {ρ:List Addr} {H:L2.Hp} {i:Nat} {x:PV} {v:L2.V} (hi:i<19) (rv:RV ρ H x v):∀{kvs:List (Nat×PV)} {kv:List (Str×L2.V)},Pairs fnm ρ H kvs kv->(∀p∈kvs,p.1<19)->Pairs fnm ρ H (putFld i x kvs) (L2.U2 (fnm i) v kv)
 | [],kv,h,_=>by
   cases kv with
   | nil=>exact⟨rfl,.cons rv .nil⟩
   | cons p q=>have:=h.keys;simp at this
 | (g,u)::r,kv,h,hs=>by
   cases kv with
   | nil=>have:=h.keys;simp at this
   | cons p q=>
     have k:=h.keys
     simp only [List.map_cons,List.cons.injEq] at k
     have hv:=h.vals
     simp only [List.map_cons] at hv
     cases hv with
     | cons h1 h2=>
       obtain⟨p1,p2⟩:=p
       have hg:g<19:=hs _ List.mem_cons_self
       have k1:p1=fnm g:=k.1
       by_cases hgi:g=i
       ·subst hgi
        have e:L2.U2 (fnm g) v ((p1,p2)::q)=(p1,v)::q:=by
         show (if p1=fnm g then _ else _)=_
         rw [if_pos k1]
        rw [e]
        simp only [putFld,if_true]
        exact⟨by simp [k1,k.2],.cons rv h2⟩
       ·have hne:¬p1=fnm i:=λz=>hgi (aF2 g i (by rw [←z];exact k1.symm) hg hi)
        have e:L2.U2 (fnm i) v ((p1,p2)::q)=(p1,p2)::L2.U2 (fnm i) v q:=by
         show (if p1=fnm i then _ else _)=_
         rw [if_neg hne]
        rw [e]
        simp only [putFld,hgi,if_false]
        have ih:=Pairs.put hi rv (kvs:=r) (kv:=q) ⟨k.2,h2⟩ λp hp=>hs p (List.mem_cons_of_mem _ hp)
        exact⟨by simp only [List.map_cons];rw [ih.keys,k1],.cons h1 ih.vals⟩
theorem al8 {i:Nat} {x:PV} (hi:i<19):∀{kvs:List (Nat×PV)},(∀p∈kvs,p.1<19)->∀p∈putFld i x kvs,p.1<19
 | [],_,p,hp=>by simp [putFld] at hp;subst hp;exact hi
 | (g,u)::r,hs,p,hp=>by
   unfold putFld at hp
   split at hp
   ·rcases List.mem_cons.mp hp with rfl | hp
    ·exact hs (g,u) List.mem_cons_self
    ·exact hs p (List.mem_cons_of_mem _ hp)
   ·rcases List.mem_cons.mp hp with rfl | hp
    ·exact hs (g,u) List.mem_cons_self
    ·exact al8 hi (λq hq=>hs q (List.mem_cons_of_mem _ hq)) p hp
theorem bk3 {o value:Expr} {d e:ED} {f:Str} {i:Nat} {pos pos':Pos} (ho:L2.PE X o (EvE X.K cm d)) (hv:L2.PE X value (EvE X.K cm e)) (hf:fnm i=f) (hi:i<19) (hc:∀c,c<7->L2.Cls X.K (cm c)) (hn:∀c,c<7->L2.NoAttr X.K (cm c) f)
 (hs:swapsWith value (some (.Attribute o f pos')) pos.line X.env=pure false:=by rfl):L2.PS X (.Assign [.Attribute o f pos'] value pos) (EvS X.K cm (sFld d i e)):=
 X4 (L2.bb8 ho hv hs) λD σ H ⟨ρ,A,σp,fl,A',rl,rs,ev,k⟩=>by
  obtain⟨y,A1,e1,ev1⟩:=B0 ev
  obtain⟨x,A2,e2,ev2⟩:=B0 ev1
  refine⟨ρ,A,σp,y,A1,rl,rs,e1,λρ1 H1 v1 x1 rl1 rv1=>⟨ρ1,A1,σp,x,A2,rl1,rs.mono x1,e2,λρ2 H2 v2 x2 rl2 rv2=>?_⟩⟩
  cases x with
  | ref n=>
    obtain⟨o,A3,e3,ev3⟩:=B0 ev2
    obtain⟨rfl,hA,a,dx,kv,rfl,hn',hH,hp,hs'⟩:=ad8 rl2 rv2 e3
    obtain⟨c,ev4⟩:=C7 ev3
    cases ev4
    have hkl:kv.length=o.2.length:=by have:=congrArg List.length hp.keys;simpa using this
    refine⟨a,cm o.1,dx,kv,rfl,hH,hc _ (ad7 rl2 hA hn'),hn _ (ad7 rl2 hA hn'),by omega,?_⟩
    rw [←hf]
    have ex:Ext ρ2 H2 ρ2 (L2.upd H2 a (.ins (cm o.1) dx (L2.U2 (fnm i) v1 kv))):=Ext.put rl2 hn' hA rfl
    have rl3:Rel X.K cm ρ2 (A3.set n (.ins o.1 (putFld i y o.2))) (L2.upd H2 a (.ins (cm o.1) dx (L2.U2 (fnm i) v1 kv))):=
     rl2.put hn' hA rfl rfl ⟨⟨ad7 rl2 hA hn',al8 hi hs'⟩,dx,_,L2.D2,(hp.mono ex).put hi ((rv1.mono x2).mono ex) hs'⟩
    exact k ρ2 _ ((x1.trans x2).trans ex) rl3 σ (((rs.mono x1).mono x2).mono ex)
  | _=>cases ev2
theorem av1 {o e:Expr} {d u:ED} {apos cpos:Pos} (ho:L2.PE X o (EvE X.K cm d)) (he:L2.PE X e (EvE X.K cm u))
 (hb:attributeBase o "append" X.env (eval o X.env)=eval o X.env:=by rfl) (hs:starEach [e] X.env=(false,eval e X.env)::starEach [] X.env:=by exact G0 rfl)
 (hfew:((backTo cpos (starEach [e] X.env)).all (λx=>!x.1)&&(backToKw cpos (keywordEach [] X.env)).all (λx=>x.1.isSome)&&decide ([e].length+([]:List Keyword).length+(if ([]:List Keyword).isEmpty then 0 else 1)<30))=true:=by rfl)
 (hline:(apos.endLine == cpos.line)=true:=by rfl):L2.PE X (.Call (.Attribute o "append" apos) [e] [] cpos) (EvE X.K cm (m5 d u)):=
 D7 (L2.bi8 PySem.F.plainAttrs_list PySem.F.slot_list_append PySem.F.type_list_append L2.aK1 ho (r_cons he r_nil hs) (hbase:=hb) (hfew:=hfew) (hline:=hline) (hs:=hs)) λσ H Q ⟨ρ,A,σp,v,A',rl,rs,ev,k⟩=>by
  obtain⟨x,A1,e1,ev1⟩:=B0 ev
  refine⟨ρ,A,σp,x,A1,rl,rs,e1,λρ1 H1 v1 x1 rl1 rv1=>?_⟩
  cases x with
  | ref n=>
    obtain⟨l0,A2,e2,ev2⟩:=B0 ev1
    obtain⟨rfl,hA,a,xs,rfl,hn,hH,r0⟩:=R5 rl1 rv1 e2
    refine⟨.inl ⟨rfl,xs,L2.SqL.of hH⟩,?_⟩
    obtain⟨y,A3,e3,ev3⟩:=B0 ev2
    obtain⟨l,A4,e4,ev4⟩:=B0 ev3
    obtain⟨c,ev5⟩:=C7 ev4
    cases ev5
    refine⟨ρ1,_,σp,[y],A3,rl1,rs.mono x1,by show bnd (u σp) _ _=_;rw [bnd_ok e3];rfl,λρ2 H2 vs2 x2 rl2 rv2=>?_⟩
    cases rv2 with
    | cons hv hr=>
      cases hr
      obtain⟨rfl,hA2,a2,ys,e5,hn2,hH2,r2⟩:=R5 rl2 (rv1.mono x2) e4
      cases e5
      refine⟨a,ys,_,rfl,rfl,hH2,by rw [←r2.length];exact aq9 c,?_⟩
      refine k ρ2 _ _ ((x1.trans x2).trans (Ext.put rl2 hn2 hA2 rfl)) (rl2.put hn2 hA2 rfl rfl ⟨_,L2.D2,?_⟩) .non
      exact (r2.mono (Ext.put rl2 hn2 hA2 rfl)).append (.cons (hv.mono (Ext.put rl2 hn2 hA2 rfl)) .nil)
  | _=>cases ev1
theorem g_name {i:Nat} {e:Expr} (h:L2.PG X e (L2.gName i)):L2.PG X e (EvG X.K cm (gName i)):=aS2 h λv σ H Q ⟨ρ,A,σp,x,σp',A',rl,rs,rv,ev,k⟩=>by
 cases ev
 exact k ρ H _ (Ext.refl _ _) rl (rs.set i rv)
theorem g_nil:L2.PGs X [] (a17 X.K cm gNil):=aE9 L2.aZ8 λvs σ H Q ⟨ρ,A,σp,xs,σp',A',rl,rs,rv,ev,k⟩=>by
 cases xs with
 | nil=>cases ev;cases rv;exact⟨rfl,k ρ H _ (Ext.refl _ _) rl rs⟩
 | cons y ys=>cases ev
theorem g_cons {e:Expr} {es:List Expr} {g:GD} {r:GDs} (h1:L2.PG X e (EvG X.K cm g)) (h2:L2.PGs X es (a17 X.K cm r)) (hs:(assignEach (e::es) X.env).map (·.2)=assign e X.env::(assignEach es X.env).map (·.2):=by rfl):L2.PGs X (e::es) (a17 X.K cm (gCons g r)):=
 aE9 (L2.aP4 h1 h2 hs) λvs σ H Q ⟨ρ,A,σp,xs,σp',A',rl,rs,rv,ev,k⟩=>by
  cases xs with
  | nil=>cases ev
  | cons y ys=>
    obtain⟨σ1,A1,e1,ev1⟩:=B0 ev
    cases rv with
    | cons hv hr=>
      exact⟨_,_,rfl,ρ,A,σp,y,σ1,A1,rl,rs,hv,e1,λρ1 H1 σ' x1 rl1 rs1=>⟨ρ1,A1,σ1,ys,σp',A',rl1,rs1,hr.mono x1,ev1,λρ2 H2 σ2 x2 rl2 rs2=>k ρ2 H2 σ2 (x1.trans x2) rl2 rs2⟩⟩
theorem av2 {es:List Expr} {j n:Nat} {g:GDs} {pos:Pos} (hc:X.calm=true) (h:L2.PGs X es (a17 X.K cm g)) (hn:(assignEach es X.env).length=n:=by rfl) (hst:(assignEach es X.env).findIdx? (·.1)=none:=by rfl):L2.PG X (.Tuple es j pos) (EvG X.K cm (gTup n g)):=
 aS2 (L2.bb0 hc h hn hst) λv σ H Q ⟨ρ,A,σp,x,σp',A',rl,rs,rv,ev,k⟩=>by
  cases x with
  | tup l=>
    obtain⟨c,ev1⟩:=C7 ev
    cases rv with
    | tup ha r=>exact⟨_,_,rfl,L2.SqT.of ha,by rw [←r.length];exact c,ρ,A,σp,l,σp',A',rl,rs,r,ev1,k⟩
  | _=>cases ev
theorem S6 {st:Stmt}:L2.PS X st (EvS X.K cm sNever):=X4 L2.aP3 λD σ H ⟨ρ,A,σp,f,A',rl,rs,ev,k⟩=>by cases ev
theorem H8:L2.PSs X [] (EvS X.K cm sPass):=aE8 L2.aZ5 λD σ H ⟨ρ,A,σp,f,A',rl,rs,ev,k⟩=>by
 cases ev;exact k ρ H (Ext.refl _ _) rl σ rs
theorem C4 {st:Stmt} {s:SD} (h:L2.PS X st (EvS X.K cm s)):L2.PSs X [st] (EvS X.K cm s):=L2.aZ6 h
theorem C2 {st:Stmt} {rest:List Stmt} {s r:SD} (h1:L2.PS X st (EvS X.K cm s)) (h2:L2.PSs X rest (EvS X.K cm r)):L2.PSs X (st::rest) (EvS X.K cm (D5 s r)):=
 aE8 (L2.aP2 h1 h2) λD σ H ⟨ρ,A,σp,f,A',rl,rs,ev,k⟩=>by
  obtain⟨o,A1,e1,ev1⟩:=B0 ev
  refine⟨ρ,A,σp,o,A1,rl,rs,e1,λρ1 H1 x1 rl1=>?_⟩
  cases o with
  | nx σ1=>exact λσ' rs'=>⟨ρ1,A1,σ1,f,A',rl1,rs',ev1,λρ2 H2 x2 rl2=>k ρ2 H2 (x1.trans x2) rl2⟩
  | rt v=>cases ev1;exact λv' rv=>k ρ1 H1 x1 rl1 v' rv
  | bk σ1=>cases ev1;exact λσ' rs'=>k ρ1 H1 x1 rl1 σ' rs'
  | ct σ1=>cases ev1;exact λσ' rs'=>k ρ1 H1 x1 rl1 σ' rs'
theorem a9 {e:Expr} {d:ED} {pos:Pos} (h:L2.PE X e (EvE X.K cm d)) (hs:swapsWith e none pos.line X.env=pure false:=by rfl):L2.PS X (.Expr e pos) (EvS X.K cm (Y0 d)):=
 X4 (L2.aZ7 h hs) λD σ H ⟨ρ,A,σp,f,A',rl,rs,ev,k⟩=>by
  obtain⟨x,A1,e1,ev1⟩:=B0 ev
  cases ev1
  exact⟨ρ,A,σp,x,A',rl,rs,e1,λρ1 H1 v1 x1 rl1 rv1=>k ρ1 H1 x1 rl1 σ (rs.mono x1)⟩
theorem D8 {e:Expr} {d:ED} {pos:Pos} (h:L2.PE X e (EvE X.K cm d)):L2.PS X (.Return (some e) pos) (EvS X.K cm (J3 d)):=
 X4 (L2.ba9 h) λD σ H ⟨ρ,A,σp,f,A',rl,rs,ev,k⟩=>by
  obtain⟨x,A1,e1,ev1⟩:=B0 ev
  cases ev1
  exact⟨ρ,A,σp,x,A',rl,rs,e1,λρ1 H1 v1 x1 rl1 rv1=>k ρ1 H1 x1 rl1 v1 rv1⟩
theorem P3 {c:Expr} {a b:List Stmt} {t:TD} {s u:SD} {pos:Pos} (hc:L2.PT X c (EvT X.K cm t)) (ha:L2.PSs X a (EvS X.K cm s)) (hb:L2.PSs X b (EvS X.K cm u)):L2.PS X (.If c a b pos) (EvS X.K cm (sIf t s u)):=
 X4 (L2.bh5 hc ha hb) λD σ H ⟨ρ,A,σp,f,A',rl,rs,ev,k⟩=>by
  obtain⟨x,A1,e1,ev1⟩:=B0 ev
  refine⟨ρ,A,σp,x,A1,rl,rs,e1,λρ1 H1 x1 rl1=>?_⟩
  cases x with
  | true=>rw [if_pos rfl] at ev1 ⊢;exact⟨ρ1,A1,σp,f,A',rl1,rs.mono x1,ev1,λρ2 H2 x2 rl2=>k ρ2 H2 (x1.trans x2) rl2⟩
  | false=>rw [if_neg (by simp)] at ev1 ⊢;exact⟨ρ1,A1,σp,f,A',rl1,rs.mono x1,ev1,λρ2 H2 x2 rl2=>k ρ2 H2 (x1.trans x2) rl2⟩
theorem be0 {d:ED} {g:GD} {te:L2.TE} {tg:L2.TG} (he:∀σ H Q,EvE X.K cm d σ H Q->te σ H Q) (hg:∀v σ H Q,EvG X.K cm g v σ H Q->tg v σ H Q) {D:L2.az2} {σ:L2.St} {H:L2.Hp} (h:EvS X.K cm (N2 d g) D σ H):L2.bh6 te tg D σ H:=by
 obtain⟨ρ,A,σp,f,A',rl,rs,ev,k⟩:=h
 obtain⟨x,A1,e1,ev1⟩:=B0 ev
 obtain⟨σ1,A2,e2,ev2⟩:=B0 ev1
 cases ev2
 exact he _ _ _ ⟨ρ,A,σp,x,A1,rl,rs,e1,λρ1 H1 v1 x1 rl1 rv1=>hg _ _ _ _ ⟨ρ1,A1,σp,x,σ1,A',rl1,rs.mono x1,rv1,e2,λρ2 H2 σ2 x2 rl2 rs2=>k ρ2 H2 (x1.trans x2) rl2 σ2 rs2⟩⟩
theorem K1 {i:Nat} {x:Str} {e:Expr} {d:ED} {pos pos':Pos} (hN:X.N.Nodup) (hi:X.N[i]?=some x) (hx:L2.Loc X.env.scope x) (he:L2.PE X e (EvE X.K cm d)) (hs:swapsWith e (some (.Name x pos')) pos.line X.env=pure false:=by rfl)
 (hf:X.fn x=true\/X.env.scope.names.lookup x=some .local:=by first | exact .inl rfl | exact .inr rfl | assumption):L2.PS X (.Assign [.Name x pos'] e pos) (EvS X.K cm (N2 d (gName i))):=
 X4 (L2.bb1 hN hi hx he hs hf) λD σ H h=>be0 (λ_ _ _ z=>z) (λv σ H Q ⟨ρ,A,σp,x,σp',A',rl,rs,rv,ev,k⟩=>by
  cases ev
  exact k ρ H _ (Ext.refl _ _) rl (rs.set i rv)) h
end
def SpF (K:PySem.W.Frag) (cm:Nat->Addr) (f:Fun) (n:Nat):L2.Sp:=λvs H Q _=>∃(ρ:List Addr) (A:PHp) (ps:List PV) (v:PV) (A':PHp),Rel K cm ρ A H/\RVs ρ H ps vs/\ps.length=n/\f ps A=.ok v A'/\
 ∀ρ' H' v',Ext ρ H ρ' H'->Rel K cm ρ' A' H'->RV ρ' H' v v'->Q v' H'
theorem RSt.start0 {ρ:List Addr} {H:L2.Hp} {ps:List PV} {vs:List L2.V} {N:List Str} (r:RVs ρ H ps vs):RSt ρ H (Ws.start N.length ps) (L2.start N vs):=by
 have hl:=r.length
 refine⟨by unfold Ws.start L2.start;simp [hl],λi p hp=>?_⟩
 unfold Ws.start at hp
 by_cases hi:i<ps.length
 ·rw [List.getElem?_append_left (by simpa using hi),List.getElem?_map] at hp
  rcases e:ps[i]? with _ | q
  ·rw [e] at hp;cases hp
  ·rw [e] at hp;cases hp
   obtain⟨v,h1,h2⟩:=r.get e
   refine⟨v,?_,h2⟩
   unfold L2.start
   rw [List.getElem?_append_left (by simp;omega),List.getElem?_map,h1];rfl
 ·rw [List.getElem?_append_right (by simpa using hi),List.getElem?_replicate] at hp
  split at hp <;> cases hp
section
variable {P:Program} {w:World} {K:PySem.W.Frag} {mg:Str->Option Value} {base:Heap} {cm:Nat->Addr}
theorem bk4 {x qual:Str} {st:Stmt} {f:Addr} {fd:FuncData} {N ps:List Str} {k:Nat} {s:SD} (F:L2.Fun K x qual st f fd) (S:L2.C9 N ps (L2.B9 st))
 (hbody:∀(cdv:Value) (A:Around) (outer:List Env) (s0:Shared) (H:L2.Hp) (E:L2.XK),L2.Room k (A.deeper (PyProof.Rows.envOfC qual (L2.B9 st) s0.heap.objs.size f cdv))->
  L2.PSs (L2.aj6 L2.CX0 P w K mg base N qual (L2.B9 st) f cdv A outer s0 H E).nox (L2.C5 st) (EvS K cm s)) :
 L2.FnOk P w K mg base L2.CX0 (k+1) f fd ps (SpF K cm (fn N.length ps.length s) ps.length):=by
 refine F.ok S (λvs H Q E ⟨ρ,A,qs,v,A',rl,rv,hl,_,_⟩=>by rw [←rv.length];exact hl) λcdv A outer s0 H vs Q E hr h=>⟨_,hbody cdv A outer s0 H E hr,?_⟩
 obtain⟨ρ,B,qs,v,B',rl,rv,hl,ev,k⟩:=h
 obtain⟨_,ev1⟩:=C7 ev
 obtain⟨o,B1,e1,ev2⟩:=B0 ev1
 refine⟨ρ,B,Ws.start N.length qs,o,B1,rl,RSt.start0 rv,e1,λρ1 H1 x1 rl1=>?_⟩
 cases o with
 | nx σ1=>cases ev2;exact λσ' _=>k ρ1 H1 _ x1 rl1 .non
 | rt u=>cases ev2;exact λv' rv'=>k ρ1 H1 v' x1 rl1 rv'
 | bk σ1=>cases ev2
 | ct σ1=>cases ev2
end
section
variable {X:L2.Cx} {cm:Nat->Addr}
theorem a20 {f:Fun} {n:Nat} {ds:AD} (hn:∀vs A v A',f vs A=.ok v A'->vs.length=n) {σ:L2.St} {H:L2.Hp} {Q:L2.VK} (h:EvE X.K cm (J1 f ds) σ H Q):L2.a77 (SpF X.K cm f n) [] L2.E0 (EvA X.K cm ds) σ H Q:=by
 obtain⟨ρ,A,σp,v,A',rl,rs,ev,k⟩:=h
 obtain⟨xs,A1,e1,ev1⟩:=B0 ev
 refine⟨ρ,A,σp,xs,A1,rl,rs,e1,λρ1 H1 vs1 x1 rl1 rv1=>?_⟩
 show SpF X.K cm f n (vs1++[]) H1 Q _
 rw [List.append_nil]
 exact⟨ρ1,A1,xs,v,A',rl1,rv1,hn _ _ _ _ ev1,ev1,λρ2 H2 v2 x2 rl2 rv2=>k ρ2 H2 v2 (x1.trans x2) rl2 rv2⟩
theorem aB6 {n p:Nat} {s:SD} {vs:List PV} {A A':PHp} {v:PV} (h:fn n p s vs A=.ok v A'):vs.length=p:=(C7 h).1
theorem be1 {f:Fun} {n k:Nat} {fa:Addr} {fd:FuncData} {ps:List Str} {x:Str} {e:Expr} {es:List Expr} {ds:AD} {p pos:Pos} (F:L2.FnOk X.prog X.w X.K X.mg X.base L2.CX0 k fa fd ps (SpF X.K cm f n)) (hn:∀vs A v A',f vs A=.ok v A'->vs.length=n) (hr:L2.Room k X.A) (hg:L2.Gl X x) (hm:X.mg x=some (.ref fa)) (hk:PySem.W.keepIn X.K (.ref fa)=true) (hb:L2.Binds X.K fd ps [])
 (ha:L2.PA X (e::es) (EvA X.K cm ds)) (hdb:(x == ("__debug__" : Str))=false:=by decide) (he:starEach (e::es) X.env=(false,eval e X.env)::starEach es X.env:=by exact G0 rfl) (hpl:(backTo pos (starEach es X.env)).any (·.1)=false:=by rfl) :
 L2.PE X (.Call (.Name x p) (e::es) [] pos) (EvE X.K cm (J1 f ds)):=
 D7 (L2.a06 F hr hg hm hk hb .nil L2.aE6 ha hdb he hpl) λσ H Q h=>a20 hn h
theorem aF3 {c:Nat} {f:Fun} {n:Nat} {m:Str} {d:ED} {ds:AD} (hn:∀vs A v A',f vs A=.ok v A'->vs.length=n) (hm:∀i,i<19->fnm i≠m) {σ:L2.St} {H:L2.Hp} {Q:L2.VK} (h:EvE X.K cm (O3 c f d ds) σ H Q) :
 L2.aQ4 (cm c) m (SpF X.K cm f n) [] L2.E0 (EvE X.K cm d) (EvA X.K cm ds) σ H Q:=by
 obtain⟨ρ,A,σp,v,A',rl,rs,ev,k⟩:=h
 obtain⟨x,A1,e1,ev1⟩:=B0 ev
 refine⟨ρ,A,σp,x,A1,rl,rs,e1,λρ1 H1 v1 x1 rl1 rv1=>?_⟩
 cases x with
 | ref j=>
   obtain⟨o,A2,e2,ev2⟩:=B0 ev1
   obtain⟨rfl,hA,a,dx,kv,rfl,hn',hH,hp,hs⟩:=ad8 rl1 rv1 e2
   obtain⟨hc,ev3⟩:=C7 ev2
   obtain⟨xs,A3,e3,ev4⟩:=B0 ev3
   subst hc
   have hno:kv.lookup m=none:=by
    have key:∀(l:List (Str×L2.V)),(∀z∈l.map (·.1),z≠m)->l.lookup m=none:=λl=>by
     induction l with
     | nil=>intro _;rfl
     | cons p q ih=>
       intro hz
       rw [List.lookup_cons,beq_eq_false_iff_ne.mpr (λz=>hz p.1 (by simp) z.symm)]
       exact ih λz hz'=>hz z (by simp at hz' ⊢;exact .inr hz')
    refine key kv λz hz=>?_
    rw [hp.keys] at hz
    obtain⟨q,hq,rfl⟩:=List.mem_map.mp hz
    exact hm _ (hs q hq)
   refine⟨a,dx,kv,rfl,hH,hno,ρ1,_,σp,xs,A3,rl1,rs.mono x1,e3,λρ2 H2 vs2 x2 rl2 rv2=>?_⟩
   show SpF X.K cm f n (.ref a::(vs2++[])) H2 Q _
   rw [List.append_nil]
   exact⟨ρ2,A3,.ref j::xs,v,A',rl2,.cons (rv1.mono x2) rv2,hn _ _ _ _ ev4,ev4,λρ3 H3 v3 x3 rl3 rv3=>k ρ3 H3 v3 ((x1.trans x2).trans x3) rl3 rv3⟩
 | _=>cases ev1
theorem be2 {c:Nat} {f:Fun} {n k:Nat} {fa:Addr} {fd:FuncData} {ps:List Str} {m:Str} {o e:Expr} {es:List Expr} {d:ED} {ds:AD} {apos pos:Pos} {pl:Sem Bool} (ho:L2.PE X o (EvE X.K cm d)) (hc:L2.Cls X.K (cm c)) (hm:L2.aJ9 X.K (cm c) m fa)
 (F:L2.FnOk X.prog X.w X.K X.mg X.base L2.CX0 k fa fd ps (SpF X.K cm f n)) (hn:∀vs A v A',f vs A=.ok v A'->vs.length=n) (hnm:∀i,i<19->fnm i≠m) (hr:L2.Room k X.A) (hb:L2.Binds X.K fd ps []) (ha:L2.PA X (e::es) (EvA X.K cm ds))
 (hst:starEach (e::es) X.env=(false,eval e X.env)::starEach es X.env:=by exact G0 rfl) (hpl:(backTo pos (starEach es X.env)).any (·.1)=false:=by rfl)
 (ht:eval (.Call (.Attribute o m apos) (e::es) [] pos) X.env=(do
  let ov ←eval o X.env
  standAt apos.atName
  let (f,first) ←holding [ov] (getMethod ov m pl)
  callWith pos f first (backTo pos (starEach (e::es) X.env)) (backToKw pos (keywordEach [] X.env))):=by rfl) :
 L2.PE X (.Call (.Attribute o m apos) (e::es) [] pos) (EvE X.K cm (O3 c f d ds)):=
 D7 (L2.a07 (pl:=pl) ho hc hm F hr hb .nil L2.aE6 ha hst hpl ht) λσ H Q h=>aF3 hn hnm h
theorem a21 {c:Nat} {f:Fun} {n:Nat} {ds:AD} (h7:c<7) (hn:∀vs A v A',f vs A=.ok v A'->vs.length=n/\v=.non) {σ:L2.St} {H:L2.Hp} {Q:L2.VK} (h:EvE X.K cm (ac3 c f ds) σ H Q):L2.a78 (cm c) (SpF X.K cm f n) [] L2.E0 (EvA X.K cm ds) σ H Q:=by
 obtain⟨ρ,A,σp,v,A',rl,rs,ev,k⟩:=h
 obtain⟨xs,A1,e1,ev1⟩:=B0 ev
 obtain⟨x,A2,e2,ev2⟩:=B0 ev1
 cases e2
 obtain⟨u,A3,e3,ev3⟩:=B0 ev2
 cases ev3
 refine⟨ρ,A,σp,xs,A1,rl,rs,e1,λρ1 H1 vs1 x1 rl1 rv1 x dx hx hdx hne=>?_⟩
 rw [List.append_nil]
 have g1:Ext ρ1 H1 ρ1 (L2.upd H1 dx (.own x)):=Ext.same hdx
 have rl2:Rel X.K cm ρ1 A1 (L2.upd H1 dx (.own x)):=rl1.grow g1 (T4 hdx)
 have hx2:L2.upd H1 dx (.own x) x=none:=by rw [L2.D4 (Ne.symm hne)];exact hx
 have g2:Ext ρ1 (L2.upd H1 dx (.own x)) (ρ1++[x]) (L2.upd (L2.upd H1 dx (.own x)) x (.ins (cm c) dx [])):=Ext.new hx2
 have rl3:Rel X.K cm (ρ1++[x]) (A1++[.ins c []]) (L2.upd (L2.upd H1 dx (.own x)) x (.ins (cm c) dx [])):=rl2.alloc hx2 ⟨⟨h7,by simp⟩,dx,[],L2.D2,⟨rfl,.nil⟩⟩ rfl
 have hl:(ρ1++[x])[A1.length]?=some x:=by rw [←rl1.len];simp
 obtain⟨hn1,rfl⟩:=hn _ _ _ _ e3
 refine⟨ρ1++[x],_,.ref A1.length::xs,.non,A',rl3,.cons (.ref hl) ((rv1.mono g1).mono g2),hn1,e3,λρ4 H4 v4 x4 rl4 rv4=>?_⟩
 cases rv4
 exact⟨rfl,k ρ4 H4 _ (((x1.trans g1).trans g2).trans x4) rl4 (.ref (ad5 x4.pre hl))⟩
theorem be3 {c:Nat} (h7:c<7) {f:Fun} {n k:Nat} {fa:Addr} {fd:FuncData} {ps:List Str} {x:Str} {e:Expr} {es:List Expr} {ds:AD} {p pos:Pos} (Mk:L2.Mk X.K (cm c) fa) (F:L2.FnOk X.prog X.w X.K X.mg X.base L2.CX0 k fa fd ps (SpF X.K cm f n)) (hn:∀vs A v A',f vs A=.ok v A'->vs.length=n/\v=.non) (hr:L2.Room (k+1) X.A)
 (hg:L2.Gl X x) (hm:X.mg x=some (.ref (cm c))) (hb:L2.Binds X.K fd ps []) (ha:L2.PA X (e::es) (EvA X.K cm ds)) (hdb:(x == ("__debug__" : Str))=false:=by decide) (he:starEach (e::es) X.env=(false,eval e X.env)::starEach es X.env:=by exact G0 rfl) (hpl:(backTo pos (starEach es X.env)).any (·.1)=false:=by rfl) :
 L2.PE X (.Call (.Name x p) (e::es) [] pos) (EvE X.K cm (ac3 c f ds)):=
 D7 (L2.a08 Mk F hr hg hm hb .nil L2.aE6 ha hdb he hpl) λσ H Q h=>a21 h7 hn h
def Ite (K:PySem.W.Frag) (a:Addr):L2.It:=
 ⟨λi H=>∃xs x,L2.SqL K H a xs/\xs[i]?=some x,λi H x H'=>∃y p,(∀xs,L2.SqL K H a xs->xs[i]?=some y)/\H p=none/\x=.ref p/\H'=L2.upd H p (.tup [.int i,y]),λi H=>∃xs,L2.SqL K H a xs/\xs.length<=i⟩
def Itk (K:PySem.W.Frag) (k:Nat) (a:Addr):L2.It:=
 ⟨λi H=>∃xs x,L2.SqL K H a xs/\xs[i]?=some x,λi H x H'=>∃y p,(∀xs,L2.SqL K H a xs->xs[i]?=some y)/\H p=none/\x=.ref p/\H'=L2.upd H p (.tup [.int ((k+i:Nat):Int),y]),λi H=>∃xs,L2.SqL K H a xs/\xs.length<=i⟩
def Itf (vs:List L2.V):L2.It:=⟨λi _=>i<vs.length,λi H x H'=>H'=H/\vs[i]?=some x,λi _=>vs.length<=i⟩
def SqK (k:Bool) (K:PySem.W.Frag) (H:L2.Hp) (a:Addr) (xs:List L2.V):Prop:=match k with
 | true=>L2.SqT K H a xs
 | false=>L2.SqL K H a xs
def kindOf:PV->Bool
 | .tup _=>true
 | _=>false
def Itz (K:PySem.W.Frag) (k1 k2:Bool) (a b:Addr):L2.It:=
 ⟨λi H=>∃xs ys x y,SqK k1 K H a xs/\SqK k2 K H b ys/\xs[i]?=some x/\ys[i]?=some y,
  λi H v H'=>∃x y p,(∀xs,SqK k1 K H a xs->xs[i]?=some x)/\(∀ys,SqK k2 K H b ys->ys[i]?=some y)/\H p=none/\v=.ref p/\H'=L2.upd H p (.tup [x,y]),
  λi H=>∃xs ys,SqK k1 K H a xs/\SqK k2 K H b ys/\(xs.length<=i\/ys.length<=i)⟩
theorem V9 {K:PySem.W.Frag} {ρ:List Addr} {H:L2.Hp} {A:PHp} {l:List PV} {v:L2.V} {x:PV} {A':PHp} (rl:Rel K cm ρ A H) (r:RV ρ H x v) (h:N0 x A=.ok l A'):A'=A/\∃a xs,v=.ref a/\SqK (kindOf x) K H a xs/\RVs ρ H l xs:=by
 cases x with
 | ref n=>
   obtain⟨e,a,xs,h1,h2,h3⟩:=L7 rl r h
   exact⟨e,a,xs,h1,h2,h3⟩
 | tup m=>
   cases h
   cases r with
   | tup h1 h2=>exact⟨rfl,_,_,rfl,L2.SqT.of h1,h2⟩
 | _=>cases h
def RIt (K:PySem.W.Frag) (ρ:List Addr) (H:L2.Hp):It->L2.It->Prop
 | .rng lo n,j=>j=L2.Itr lo n
 | .lst m,j=>∃a,ρ[m]?=some a/\j=L2.Itl K a
 | .tup l,j=>∃a vs,H a=some (.tup vs)/\RVs ρ H l vs/\j=L2.Itt K a
 | .enm m,j=>∃a,ρ[m]?=some a/\j=Ite K a
 | .fix l,j=>∃vs,RVs ρ H l vs/\j=Itf vs
 | .zip x y,j=>∃a b,RV ρ H x (.ref a)/\RV ρ H y (.ref b)/\j=Itz K (kindOf x) (kindOf y) a b
 | .enk k m,j=>∃a,ρ[m]?=some a/\j=Itk K k a
theorem RIt.mono {K:PySem.W.Frag} {ρ ρ':List Addr} {H H':L2.Hp} {J:It} {j:L2.It} (h:RIt K ρ H J j) (e:Ext ρ H ρ' H'):RIt K ρ' H' J j:=by
 cases J with
 | rng lo n=>exact h
 | lst m=>obtain⟨a,h1,h2⟩:=h;exact⟨a,ad5 e.pre h1,h2⟩
 | tup l=>obtain⟨a,vs,h1,h2,h3⟩:=h;exact⟨a,vs,e.tup _ _ h1,h2.mono e,h3⟩
 | enm m=>obtain⟨a,h1,h2⟩:=h;exact⟨a,ad5 e.pre h1,h2⟩
 | fix l=>obtain⟨vs,h1,h2⟩:=h;exact⟨vs,h1.mono e,h2⟩
 | zip x y=>obtain⟨a,b,h1,h2,h3⟩:=h;exact⟨a,b,h1.mono e,h2.mono e,h3⟩
 | enk k m=>obtain⟨a,h1,h2⟩:=h;exact⟨a,ad5 e.pre h1,h2⟩
def EvI (K:PySem.W.Frag) (cm:Nat->Addr) (d:ID):L2.TI:=λσ H R=>∃(ρ:List Addr) (A:PHp) (σp:PSt) (J:It) (A':PHp),Rel K cm ρ A H/\RSt ρ H σp σ/\d σp A=.ok J A'/\
 ∀ρ' H' j,Ext ρ H ρ' H'->Rel K cm ρ' A' H'->RIt K ρ' H' J j->R j H'
def aB7 (K:PySem.W.Frag) (cm:Nat->Addr) (ρ:List Addr) (A:PHp) (H:L2.Hp) (j:L2.It) (i:Nat):Option PV->Prop
 | none=>j.stop i H
 | some v=>j.go i H/\∀y H',j.yld i H y H'->Ext ρ H ρ H'/\Rel K cm ρ A H'/\RV ρ H' v y
theorem aF4 {K:PySem.W.Frag} {ρ:List Addr} {H:L2.Hp} {A A':PHp} {J:It} {j:L2.It} {i:Nat} {x:Option PV} (rl:Rel K cm ρ A H) (rj:RIt K ρ H J j) (e:item J i A=.ok x A') :
 A'=A/\aB7 K cm ρ A H j i x:=by
 cases J with
 | rng lo n=>
   cases e
   cases rj
   refine⟨rfl,?_⟩
   by_cases h:i<n
   ·show aB7 K cm ρ A H _ i (if i<n then some (PV.int (lo+i)) else none)
    rw [if_pos h]
    refine⟨h,λy H' ⟨e1,e2⟩=>?_⟩
    subst e1;subst e2
    exact⟨Ext.refl _ _,rl,.int _⟩
   ·show aB7 K cm ρ A H _ i (if i<n then some (PV.int (lo+i)) else none)
    rw [if_neg h]
    exact Nat.le_of_not_lt h
 | fix l=>
   cases e
   obtain⟨vs,r,rfl⟩:=rj
   refine⟨rfl,?_⟩
   rcases hi:l[i]? with _ | v
   ·show vs.length<=i
    rw [←r.length];exact List.getElem?_eq_none_iff.mp hi
   ·obtain⟨u,hu,rv⟩:=r.get hi
    refine⟨(List.getElem?_eq_some_iff.mp hu).1,λy H' ⟨e3,e4⟩=>?_⟩
    subst e3
    rw [hu] at e4;cases e4
    exact⟨Ext.refl _ _,rl,rv⟩
 | zip x y=>
   obtain⟨a,b,ra,rb,rfl⟩:=rj
   obtain⟨l,A1,e1,e2⟩:=B0 e
   obtain⟨rfl,a',xs,h1,q1,r1⟩:=V9 rl ra e1
   cases h1
   obtain⟨m,A2,e3,e4⟩:=B0 e2
   obtain⟨rfl,b',ys,h2,q2,r2⟩:=V9 rl rb e3
   cases h2
   cases e4
   refine⟨rfl,?_⟩
   rcases hi:l[i]? with _ | u
   ·exact⟨xs,ys,q1,q2,.inl (by rw [←r1.length];exact List.getElem?_eq_none_iff.mp hi)⟩
   ·rcases hj:m[i]? with _ | v
    ·exact⟨xs,ys,q1,q2,.inr (by rw [←r2.length];exact List.getElem?_eq_none_iff.mp hj)⟩
    ·obtain⟨u',hu,ru⟩:=r1.get hi
     obtain⟨v',hv,rv⟩:=r2.get hj
     refine⟨⟨xs,ys,u',v',q1,q2,hu,hv⟩,λz H' ⟨x',y',p,g1,g2,g3,g4,g5⟩=>?_⟩
     have g1:=g1 xs q1
     have g2:=g2 ys q2
     rw [hu] at g1;cases g1
     rw [hv] at g2;cases g2
     subst g4;subst g5
     exact⟨Ext.same g3,rl.tup g3,.tup L2.D2 (.cons (ru.mono (Ext.same g3)) (.cons (rv.mono (Ext.same g3)) .nil))⟩
 | lst m=>
   obtain⟨a,ha,rfl⟩:=rj
   obtain⟨l,A1,e1,e2⟩:=B0 e
   obtain⟨rfl,b,xs,hb,hs,r⟩:=L7 rl (.ref ha) e1
   cases hb
   cases e2
   refine⟨rfl,?_⟩
   rcases hi:l[i]? with _ | v
   ·exact⟨xs,hs,by rw [←r.length];exact List.getElem?_eq_none_iff.mp hi⟩
   ·obtain⟨u,hu,rv⟩:=r.get hi
    refine⟨⟨xs,u,hs,hu⟩,λy H' ⟨e3,e4⟩=>?_⟩
    subst e3
    have:=e4 xs hs
    rw [hu] at this;cases this
    exact⟨Ext.refl _ _,rl,rv⟩
 | tup l=>
   obtain⟨a,vs,ha,r,rfl⟩:=rj
   cases e
   refine⟨rfl,?_⟩
   rcases hi:l[i]? with _ | v
   ·exact⟨vs,L2.SqT.of ha,by rw [←r.length];exact List.getElem?_eq_none_iff.mp hi⟩
   ·obtain⟨u,hu,rv⟩:=r.get hi
    refine⟨⟨vs,u,L2.SqT.of ha,hu⟩,λy H' ⟨e3,e4⟩=>?_⟩
    subst e3
    have:=e4 vs (L2.SqT.of ha)
    rw [hu] at this;cases this
    exact⟨Ext.refl _ _,rl,rv⟩
 | enm m=>
   obtain⟨a,ha,rfl⟩:=rj
   obtain⟨l,A1,e1,e2⟩:=B0 e
   obtain⟨rfl,b,xs,hb,hs,r⟩:=L7 rl (.ref ha) e1
   cases hb
   cases e2
   refine⟨rfl,?_⟩
   rcases hi:l[i]? with _ | v
   ·exact⟨xs,hs,by rw [←r.length];exact List.getElem?_eq_none_iff.mp hi⟩
   ·obtain⟨u,hu,rv⟩:=r.get hi
    refine⟨⟨xs,u,hs,hu⟩,λy H' ⟨y',p,h2,h3,h4,h5⟩=>?_⟩
    have h2:=h2 xs hs
    rw [hu] at h2;cases h2
    subst h4;subst h5
    exact⟨Ext.same h3,rl.tup h3,.tup L2.D2 (.cons (.int _) (.cons (rv.mono (Ext.same h3)) .nil))⟩
 | enk k m=>
   obtain⟨a,ha,rfl⟩:=rj
   obtain⟨l,A1,e1,e2⟩:=B0 e
   obtain⟨rfl,b,xs,hb,hs,r⟩:=L7 rl (.ref ha) e1
   cases hb
   cases e2
   refine⟨rfl,?_⟩
   rcases hi:l[i]? with _ | v
   ·exact⟨xs,hs,by rw [←r.length];exact List.getElem?_eq_none_iff.mp hi⟩
   ·obtain⟨u,hu,rv⟩:=r.get hi
    refine⟨⟨xs,u,hs,hu⟩,λy H' ⟨y',p,h2,h3,h4,h5⟩=>?_⟩
    have h2:=h2 xs hs
    rw [hu] at h2;cases h2
    subst h4;subst h5
    exact⟨Ext.same h3,rl.tup h3,.tup L2.D2 (.cons (.int _) (.cons (rv.mono (Ext.same h3)) .nil))⟩
theorem al9 {J:It} {A A':PHp} {n:Nat} (h:Z6 J A=.ok n A'):A'=A:=by
 have key:∀a,bnd (E7 a) (λl=>ret l.length) A=.ok n A'->A'=A:=λa h=>by
  obtain⟨l,A1,e1,e2⟩:=B0 h
  cases e2
  unfold E7 at e1
  rcases hA:A[a]? with _ | o
  ·rw [hA] at e1;cases e1
  ·cases o <;> rw [hA] at e1 <;> cases e1 <;> rfl
 cases J with
 | rng lo n=>cases h;rfl
 | lst m=>exact key m h
 | tup l=>cases h;rfl
 | fix l=>cases h;rfl
 | enm m=>exact key m h
 | enk k m=>exact key m h
 | zip x y=>
   cases x with
   | ref n=>
     exact key n h
   | tup l=>cases h;rfl
   | _=>cases h
theorem ae1 {tg iter:Expr} {body:List Stmt} {it:ID} {g:GD} {b:SD} {pos:Pos} (hp:PassesOwn (model X.prog X.w) X.A X.env X.xe) (hc:X.calm=true) (hi:L2.PI X tg iter (EvI X.K cm it)) (hg:L2.PG X tg (EvG X.K cm g)) (hb:L2.PSs X body (EvS X.K cm b))
 (hs:∀x,foldedSetIterable iter X.env x=pure x:=by intro _;rfl):L2.PS X (.For tg iter body [] pos) (EvS X.K cm (aa0 it g b)):=
 X4 (L2.bb4 hp hc hi hg hb hs) λD σ H ⟨ρ,A,σp,f,A',rl,rs,ev,k⟩=>by
  obtain⟨J,A1,e1,ev1⟩:=B0 ev
  obtain⟨n,A2,e2,ev2⟩:=B0 ev1
  obtain rfl:=al9 e2
  refine⟨ρ,A,σp,J,A2,rl,rs,e1,λρ1 H1 j x1 rl1 rj=>?_⟩
  refine⟨λi m σ' H'=>∃ρ' B σp',Ext ρ1 H1 ρ' H'/\Rel X.K cm ρ' B H'/\RSt ρ' H' σp' σ'/\V6 J g b (m+1) i σp' B=.ok f A',⟨n,ρ1,A2,σp,Ext.refl _ _,rl1,rs.mono x1,ev2⟩,?_⟩
  rintro i m σ' H' ⟨ρ',B,σp',x2,rl2,rs2,ev3⟩
  rw [Q3] at ev3
  obtain⟨x,B1,e3,ev4⟩:=B0 ev3
  obtain⟨rfl,hit⟩:=aF4 rl2 (rj.mono x2) e3
  cases x with
  | none=>
    cases ev4
    exact .inl ⟨hit,k ρ' H' (x1.trans x2) rl2 σ' rs2⟩
  | some v=>
    refine .inr ⟨hit.1,λσ3 H3=>∃ρ3 B3 σp3,Ext ρ1 H1 ρ3 H3/\Rel X.K cm ρ3 B3 H3/\RSt ρ3 H3 σp3 σ3/\V6 J g b m (i+1) σp3 B3=.ok f A',?_,λy H3 hy=>?_⟩
    ·rintro σ3 H3 ⟨ρ3,B3,σp3,x3,rl3,rs3,ev5⟩
     cases m with
     | zero=>rw [ac5] at ev5;cases ev5
     | succ m=>exact⟨m,Nat.lt_succ_self _,ρ3,B3,σp3,x3,rl3,rs3,ev5⟩
    ·obtain⟨x3,rl3,rv3⟩:=hit.2 y H3 hy
     obtain⟨σ4,B4,e4,ev5⟩:=B0 ev4
     obtain⟨o,B5,e5,ev6⟩:=B0 ev5
     refine⟨ρ',B1,σp',v,σ4,B4,rl3,rs2.mono x3,rv3,e4,λρ4 H4 σ5 x4 rl4 rs4=>⟨ρ4,B4,σ4,o,B5,rl4,rs4,e5,λρ5 H5 x5 rl5=>?_⟩⟩
     have x15:=(((x2.trans x3).trans x4).trans x5)
     cases o with
     | nx σ6=>exact λσ7 rs7=>⟨ρ5,B5,σ6,x15,rl5,rs7,ev6⟩
     | ct σ6=>exact λσ7 rs7=>⟨ρ5,B5,σ6,x15,rl5,rs7,ev6⟩
     | bk σ6=>cases ev6;exact λσ7 rs7=>k ρ5 H5 (x1.trans x15) rl5 σ7 rs7
     | rt u=>cases ev6;exact λv' rv'=>k ρ5 H5 (x1.trans x15) rl5 v' rv'
theorem aF5 {c:Expr} {body:List Stmt} {t:TD} {b:SD} {pos:Pos} (hp:PassesOwn (model X.prog X.w) X.A X.env X.xe) (hc:L2.PT X c (EvT X.K cm t)) (hb:L2.PSs X body (EvS X.K cm b)):L2.PS X (.While c body [] pos) (EvS X.K cm (aq0 t b)):=
 X4 (L2.aP5 hp hc hb) λD σ H ⟨ρ,A,σp,f,A',rl,rs,ev,k⟩=>by
  refine⟨λm σ' H'=>∃ρ' B σp',Ext ρ H ρ' H'/\Rel X.K cm ρ' B H'/\RSt ρ' H' σp' σ'/\Z7 t b m σp' B=.ok f A',⟨LIM,ρ,A,σp,Ext.refl _ _,rl,rs,ev⟩,?_⟩
  rintro m σ' H' ⟨ρ',B,σp',x1,rl1,rs1,ev1⟩
  cases m with
  | zero=>rw [au8] at ev1;cases ev1
  | succ m=>
    rw [y6] at ev1
    obtain⟨x,B1,e1,ev2⟩:=B0 ev1
    refine⟨ρ',B,σp',x,B1,rl1,rs1,e1,λρ2 H2 x2 rl2=>?_⟩
    cases x with
    | false=>
      rw [if_neg (by simp)] at ev2 ⊢
      cases ev2
      exact k ρ2 H2 (x1.trans x2) rl2 σ' (rs1.mono x2)
    | true=>
      rw [if_pos rfl] at ev2 ⊢
      obtain⟨o,B2,e2,ev3⟩:=B0 ev2
      refine⟨λσ3 H3=>∃ρ3 B3 σp3,Ext ρ H ρ3 H3/\Rel X.K cm ρ3 B3 H3/\RSt ρ3 H3 σp3 σ3/\Z7 t b m σp3 B3=.ok f A',λσ3 H3 h=>⟨m,Nat.lt_succ_self _,h⟩,ρ2,B1,σp',o,B2,rl2,rs1.mono x2,e2,λρ3 H3 x3 rl3=>?_⟩
      have x13:=(x1.trans x2).trans x3
      cases o with
      | nx σ6=>exact λσ7 rs7=>⟨ρ3,B2,σ6,x13,rl3,rs7,ev3⟩
      | ct σ6=>exact λσ7 rs7=>⟨ρ3,B2,σ6,x13,rl3,rs7,ev3⟩
      | bk σ6=>cases ev3;exact λσ7 rs7=>k ρ3 H3 x13 rl3 σ7 rs7
      | rt u=>cases ev3;exact λv' rv'=>k ρ3 H3 x13 rl3 v' rv'
theorem aS8 {tg iter:Expr} {t t':L2.TI} (h:L2.PI X tg iter t) (k:∀σ H R,t' σ H R->t σ H R):L2.PI X tg iter t':=λpins s σ H R I q=>h pins s σ H R I (k σ H R q)
theorem i_rng1 {tg a:Expr} {d:ED} {p pos:Pos} (hg:L2.Gl X "range") (hm:X.mg "range" = none) (ha:L2.PE X a (EvE X.K cm d)) (hs:starEach [a] X.env=[(false,eval a X.env)]:=by rfl):L2.PI X tg (.Call (.Name "range" p) [a] [] pos) (EvI X.K cm (iRng1 d)):=
 aS8 (L2.aJ5 hg hm (r_cons ha r_nil hs) hs) λσ H R ⟨ρ,A,σp,J,A',rl,rs,ev,k⟩=>by
  obtain⟨x,A1,e1,ev1⟩:=B0 ev
  refine⟨ρ,A,σp,[x],A1,rl,rs,by show bnd (d σp) _ A=_;rw [bnd_ok e1];rfl,λρ1 H1 vs1 x1 rl1 rv1=>?_⟩
  cases x with
  | int i=>
    obtain⟨c,ev2⟩:=C7 ev1
    cases ev2
    cases rv1 with
    | cons hv hr=>cases hr;cases hv;exact⟨i,rfl,c.1,c.2,k ρ1 H1 _ x1 rl1 rfl⟩
  | _=>cases ev1
def bk5 (K:PySem.W.Frag) (tl:L2.TE):L2.TI:=λσ H R=>tl σ H λx H1=>(∃a,x=.ref a/\(∃xs,L2.SqL K H1 a xs)/\R (L2.Itl K a) H1)\/(∃a,x=.ref a/\(∃xs,L2.SqT K H1 a xs)/\R (L2.Itt K a) H1)
theorem a22 {tg l:Expr} {tl:L2.TE} (hl:L2.PE X l tl):L2.PI X tg l (bk5 X.K tl):=by
 intro pins s σ H R I h
 have a1:=L2.aZ9 (tg:=tg) hl
 have a2:=L2.bb3 (tg:=tg) hl
 refine L2.thn (hl pins s σ H _ I h) λv s1 ⟨x,H1,I1,r1,q1⟩=>?_
 rcases q1 with ⟨a,e,⟨xs,hq⟩,q⟩ | ⟨a,e,⟨xs,hq⟩,q⟩
 ·subst e
  cases r1
  obtain⟨its,rv,p,hz⟩:=I1.list hq
  refine wpAny_pyIter_list p.isList ?_
  refine⟨s1.heap.objs.size,[s1.heap.objs.size],_,_,H1,rfl,I1.kept (t':=s1.toks) λb o e=>Heap.get?_push_of_some _ e,L2.ak8 a _,⟨_,Heap.get?_push_size _ rfl,rfl,rfl⟩,λb hb=>?_,q⟩
  have e:b=s1.heap.objs.size:=by simpa using hb
  subst e
  exact I1.fpOk (Nat.le_refl _) (I1.hok.fresh (Nat.le_refl _))
 ·subst e
  cases r1
  obtain⟨its,rv,p,hz⟩:=I1.tuple hq
  refine wpAny_pyIter_tuple (show s1.heap.IsTuple a its.toArray from p) ?_
  refine⟨s1.heap.objs.size,[s1.heap.objs.size],_,_,H1,rfl,I1.kept (t':=s1.toks) λb o e=>Heap.get?_push_of_some _ e,L2.ab2 a _,⟨_,Heap.get?_push_size _ rfl,rfl,rfl⟩,λb hb=>?_,q⟩
  have e:b=s1.heap.objs.size:=by simpa using hb
  subst e
  exact I1.fpOk (Nat.le_refl _) (I1.hok.fresh (Nat.le_refl _))
theorem i_seq {tg l:Expr} {d:ED} (hl:L2.PE X l (EvE X.K cm d)):L2.PI X tg l (EvI X.K cm (Y5 d)):=aS8 (a22 hl) λσ H R ⟨ρ,A,σp,J,A',rl,rs,ev,k⟩=>by
 obtain⟨x,A1,e1,ev1⟩:=B0 ev
 refine⟨ρ,A,σp,x,A1,rl,rs,e1,λρ1 H1 v1 x1 rl1 rv1=>?_⟩
 cases x with
 | ref n=>
   obtain⟨l,A2,e2,ev2⟩:=B0 ev1
   obtain⟨rfl,a,xs,rfl,hs,r⟩:=L7 rl1 rv1 e2
   cases ev2
   cases rv1 with
   | ref hn=>exact .inl ⟨a,rfl,⟨xs,hs⟩,k ρ1 H1 _ x1 rl1 ⟨a,hn,rfl⟩⟩
 | tup l=>
   cases ev1
   cases rv1 with
   | tup ha r=>exact .inr ⟨_,rfl,⟨_,L2.SqT.of ha⟩,k ρ1 H1 _ x1 rl1 ⟨_,_,ha,r,rfl⟩⟩
 | _=>cases ev1
end
section
variable {ρ:List Addr} {H:L2.Hp}
mutual
theorem RV.uniq:∀{x y:PV} {v:L2.V},RV ρ H x v->RV ρ H y v->X2 x=true->X2 y=true->x=y
 | _,_,_,.non,h,_,_=>by cases h;rfl
 | _,_,_,.bl b,_,n,_=>by simp [X2] at n
 | _,_,_,.int i,h,_,_=>by cases h;rfl
 | _,_,_,.str z,h,_,_=>by cases h;rfl
 | _,_,_,.tup h1 r1,h,n1,n2=>by
   cases h with
   | tup h2 r2=>
     rw [h1] at h2;cases h2
     rw [RVs.uniq r1 r2 (by simpa [X2] using n1) (by simpa [X2] using n2)]
   | ref h2=>simp [X2] at n2
 | _,_,_,.ref _,_,n,_=>by simp [X2] at n
theorem RVs.uniq:∀{l m:List PV} {vs:List L2.V},RVs ρ H l vs->RVs ρ H m vs->l8 l=true->l8 m=true->l=m
 | _,_,_,.nil,h,_,_=>by cases h;rfl
 | _,_,_,.cons h1 r1,h,n1,n2=>by
   cases h with
   | cons h2 r2=>
     simp only [l8,Bool.and_eq_true] at n1 n2
     rw [RV.uniq h1 h2 n1.1 n2.1,RVs.uniq r1 r2 n1.2 n2.2]
end
end
theorem n9:∀{l m:List PV},l.length≠m.length->R6 l m=false
 | [],[],h=>absurd rfl h
 | [],_::_,_=>rfl
 | _::_,[],_=>rfl
 | x::xs,y::ys,h=>by
   have:xs.length≠ys.length:=by simpa using h
   simp [R6,n9 this]
theorem o0:∀{l m:List PV},l.length=m.length->R6 l m=(List.range l.length).all λj=>eqv (l.getD j .non) (m.getD j .non)
 | [],[],_=>rfl
 | [],_::_,h=>by simp at h
 | _::_,[],h=>by simp at h
 | x::xs,y::ys,h=>by
   have e:xs.length=ys.length:=by simpa using h
   rw [List.length_cons,List.range_succ_eq_map,List.all_cons,List.all_map]
   simp only [R6,o0 e]
   rfl
theorem ae2 {l m:List PV}:R6 l m=((List.range (min l.length m.length)).all (λj=>eqv (l.getD j .non) (m.getD j .non))&&l.length == m.length):=by
 by_cases h:l.length=m.length
 ·rw [o0 h,h];simp
 ·rw [n9 h,beq_eq_false_iff_ne.mpr h,Bool.and_false]
section
variable {X:L2.Cx} {pins:List (Addr×Obj)} {σ:L2.St} {H:L2.Hp} {s:Shared} {ρ:List Addr} {A:Around}
open PySem.SeqAt
theorem aF6 {x y:PV} {vx vy:L2.V} {u v:Value} (rx:RV ρ H x vx) (ry:RV ρ H y vy) (hx:M3 x=true) (hy:M3 y=true) (ux:L2.RelV vx u) (uy:L2.RelV vy v):EqAt A s u v (eqv x y):=by
 have key:=L2.bc4 (A:=A) (s:=s) ux uy (by cases rx <;> simp_all [M3,L2.aE5]) (by cases ry <;> simp_all [M3,L2.aE5])
 have e:L2.eqV vx vy=eqv x y:=by
  cases rx <;> cases ry <;> simp_all [M3,L2.eqV,eqv] <;> (try (exact (Bool.beq_eq_decide_eq _ _)))
 rw [←e];exact key
theorem u6 {f:PV->Bool} {l m:List PV} {a b:Addr} {vs ws:List L2.V} (I:L2.Inv X pins σ H s) (ha:H a=some (.tup vs)) (hb:H b=some (.tup ws)) (r1:RVs ρ H l vs) (r2:RVs ρ H m ws) (hl:l.all f=true) (hm:m.all f=true) (hf:∀x,f x=true->X2 x=true) (hu:A.units<cLine)
 (ih:∀x y vx vy u v,RV ρ H x vx->RV ρ H y vy->f x=true->f y=true->L2.RelV vx u->L2.RelV vy v->EqAt A.in1 s u v (eqv x y)) :
 (a≠b->RcAt A s (.ref a) (.ref b) (R6 l m))/\RcAt A s (.ref a) (.ref b) (R6 l m)/\EqAt A s (.ref a) (.ref b) (R6 l m):=by
 obtain⟨_,its,ri,pi⟩:=I.hok a _ ha
 obtain⟨_,its2,ri2,pi2⟩:=I.hok b _ hb
 have rc:RcAt A s (.ref a) (.ref b) (R6 l m):=by
  have h:=RcAt.tuples (A:=A) (s:=s) (l:=a) (b:=b) (items:=its.toArray) (items2:=its2.toArray) (e:=λj=>eqv (l.getD j .non) (m.getD j .non)) pi pi2 hu (λj h1 h2=>by
   simp only [List.size_toArray] at h1 h2
   have l1:j<vs.length:=by rw [ri.length];exact h1
   have l2:j<ws.length:=by rw [ri2.length];exact h2
   obtain⟨x,ex,rx⟩:=r1.get' (i:=j) (v:=vs[j]) (by simp [l1])
   obtain⟨y,ey,ry⟩:=r2.get' (i:=j) (v:=ws[j]) (by simp [l2])
   obtain⟨u,eu,ru⟩:=ri.get (i:=j) (x:=vs[j]) (by simp [l1])
   obtain⟨v,ev,rv⟩:=ri2.get (i:=j) (x:=ws[j]) (by simp [l2])
   have d1:l.getD j .non=x:=by rw [List.getD_eq_getElem?_getD,ex];rfl
   have d2:m.getD j .non=y:=by rw [List.getD_eq_getElem?_getD,ey];rfl
   have q1:its.toArray[j]=u:=by
    rw [List.getElem?_eq_getElem h1] at eu
    simpa using Option.some.inj eu
   have q2:its2.toArray[j]=v:=by
    rw [List.getElem?_eq_getElem h2] at ev
    simpa using Option.some.inj ev
   rw [d1,d2,q1,q2]
   exact ih x y _ _ u v rx ry (List.all_eq_true.mp hl x (List.mem_of_getElem? ex)) (List.all_eq_true.mp hm y (List.mem_of_getElem? ey)) ru rv)
  rw [ae2]
  have z1:its.toArray.size=l.length:=by rw [List.size_toArray,←ri.length,r1.length]
  have z2:its2.toArray.size=m.length:=by rw [List.size_toArray,←ri2.length,r2.length]
  rw [z1,z2] at h
  exact h
 refine⟨λ_=>rc,rc,?_⟩
 by_cases hab:a=b
 ·subst hab
  rw [ha] at hb;cases hb
  have e:=RVs.uniq r1 r2 (R3 hf l hl) (R3 hf m hm)
  subst e
  rw [(d8 l l (R3 hf l hl)).mpr rfl]
  exact EqAt.same _
 ·exact EqAt.of_refs hab rc
theorem O4 {x y:PV} {vx vy:L2.V} {u v:Value} (I:L2.Inv X pins σ H s) (rx:RV ρ H x vx) (ry:RV ρ H y vy) (hu:A.units<cLine) (ux:L2.RelV vx u) (uy:L2.RelV vy v)
 (h:(∃l,x=.tup l/\M3 y=true)\/(∃m,y=.tup m/\M3 x=true)):EqAt A s u v (eqv x y)/\RcAt A s u v (eqv x y)/\RcNeAt A s u v (!eqv x y):=by
 rcases h with ⟨l,rfl,hy⟩ | ⟨m,rfl,hx⟩
 ·cases rx with
  | tup ha r=>
    obtain⟨_,its,ri,pi⟩:=I.hok _ _ ha
    cases ux
    cases ry with
    | non=>cases uy;exact⟨EqAt.tuple_none pi hu,RcAt.tuple_none pi hu,RcNeAt.tuple_none pi hu⟩
    | int i=>obtain⟨t,rfl⟩:=uy;exact⟨EqAt.tuple_int _ _ pi hu,RcAt.tuple_int _ _ pi hu,RcNeAt.tuple_int _ _ pi hu⟩
    | str i=>obtain⟨t,rfl⟩:=uy;exact⟨EqAt.tuple_str _ _ pi hu,RcAt.tuple_str _ _ pi hu,RcNeAt.tuple_str _ _ pi hu⟩
    | bl b=>simp [M3] at hy
    | tup h2 r2=>simp [M3] at hy
    | ref h2=>simp [M3] at hy
 ·cases ry with
  | tup ha r=>
    obtain⟨_,its,ri,pi⟩:=I.hok _ _ ha
    cases uy
    cases rx with
    | non=>cases ux;exact⟨EqAt.none_tuple pi hu,RcAt.none_tuple pi hu,RcNeAt.none_tuple pi hu⟩
    | int i=>obtain⟨t,rfl⟩:=ux;exact⟨EqAt.int_tuple _ _ pi hu,RcAt.int_tuple _ _ pi hu,RcNeAt.int_tuple _ _ pi hu⟩
    | str i=>obtain⟨t,rfl⟩:=ux;exact⟨EqAt.str_tuple _ _ pi hu,RcAt.str_tuple _ _ pi hu,RcNeAt.str_tuple _ _ pi hu⟩
    | bl b=>simp [M3] at hx
    | tup h2 r2=>simp [M3] at hx
    | ref h2=>simp [M3] at hx
theorem M5 (A:Around) (n:Nat) (h:A.units+(n+1)<cLine):A.in1.units+n<cLine:=by
 show A.units+1+n<cLine;omega
theorem bk6 (I:L2.Inv X pins σ H s) (A:Around) (hu:A.units+1<cLine) (x y:PV) (vx vy:L2.V) (u v:Value) (rx:RV ρ H x vx) (ry:RV ρ H y vy) (hx:ac0 x=true) (hy:ac0 y=true) (ux:L2.RelV vx u) (uy:L2.RelV vy v):EqAt A s u v (eqv x y):=by
 cases x with
 | tup l=>
   cases y with
   | tup m=>
     cases rx with
     | tup ha r1=>
       cases ry with
       | tup hb r2=>
         cases ux;cases uy
         exact (u6 I ha hb r1 r2 hx hy av0 (by omega) (λx y vx vy u v rx ry h1 h2 u1 u2=>aF6 rx ry h1 h2 u1 u2)).2.2
   | _=>exact (O4 I rx ry (by omega) ux uy (.inl ⟨_,rfl,hy⟩)).1
 | _=>
   cases y with
   | tup m=>exact (O4 I rx ry (by omega) ux uy (.inr ⟨_,rfl,hx⟩)).1
   | _=>exact aF6 rx ry hx hy ux uy
theorem a86 (I:L2.Inv X pins σ H s) (A:Around) (hu:A.units+2<cLine) (x y:PV) (vx vy:L2.V) (u v:Value) (rx:RV ρ H x vx) (ry:RV ρ H y vy) (hx:g8 x=true) (hy:g8 y=true) (ux:L2.RelV vx u) (uy:L2.RelV vy v):EqAt A s u v (eqv x y):=by
 cases x with
 | tup l=>
   cases y with
   | tup m=>
     cases rx with
     | tup ha r1=>
       cases ry with
       | tup hb r2=>
         cases ux;cases uy
         exact (u6 I ha hb r1 r2 hx hy a82 (by omega) (λx y vx vy u v rx ry h1 h2 u1 u2=>bk6 I A.in1 (M5 A 1 (by omega)) x y vx vy u v rx ry h1 h2 u1 u2)).2.2
   | _=>exact (O4 I rx ry (by omega) ux uy (.inl ⟨_,rfl,hy⟩)).1
 | _=>
   cases y with
   | tup m=>exact (O4 I rx ry (by omega) ux uy (.inr ⟨_,rfl,hx⟩)).1
   | _=>exact aF6 rx ry hx hy ux uy
theorem aS9 (I:L2.Inv X pins σ H s) (A:Around) (hu:A.units+3<cLine) (x y:PV) (vx vy:L2.V) (u v:Value) (rx:RV ρ H x vx) (ry:RV ρ H y vy) (hx:plain x=true) (hy:plain y=true) (ux:L2.RelV vx u) (uy:L2.RelV vy v):EqAt A s u v (eqv x y):=by
 cases x with
 | tup l=>
   cases y with
   | tup m=>
     cases rx with
     | tup ha r1=>
       cases ry with
       | tup hb r2=>
         cases ux;cases uy
         exact (u6 I ha hb r1 r2 hx hy a83 (by omega) (λx y vx vy u v rx ry h1 h2 u1 u2=>a86 I A.in1 (M5 A 2 (by omega)) x y vx vy u v rx ry h1 h2 u1 u2)).2.2
   | _=>exact (O4 I rx ry (by omega) ux uy (.inl ⟨_,rfl,hy⟩)).1
 | _=>
   cases y with
   | tup m=>exact (O4 I rx ry (by omega) ux uy (.inr ⟨_,rfl,hx⟩)).1
   | _=>exact aF6 rx ry hx hy ux uy
end
end Ws
namespace Ws
open PySem PySem.SeqAt
section
variable {X:L2.Cx} {cm:Nat->Addr} {pins:List (Addr×Obj)} {σ:L2.St} {H:L2.Hp} {s:Shared} {ρ:List Addr} {A:Around}
theorem rc0 {x y:PV} {vx vy:L2.V} {u v:Value} (rx:RV ρ H x vx) (ry:RV ρ H y vy) (hx:M3 x=true) (hy:M3 y=true) (ux:L2.RelV vx u) (uy:L2.RelV vy v):RcAt A s u v (eqv x y)/\RcNeAt A s u v (!eqv x y):=by
 have hb:∀(i j:Int),(i == j)=decide (i=j):=λi j=>by rw [Bool.beq_eq_decide_eq]
 have hs:∀(i j:Str),(i == j)=decide (i=j):=λi j=>by rw [Bool.beq_eq_decide_eq]
 cases rx with
 | non=>
   cases ux
   cases ry with
   | non=>cases uy;exact⟨RcAt.none_none,RcNeAt.none_none⟩
   | int i=>obtain⟨t,rfl⟩:=uy;exact⟨RcAt.none_int _ _,RcNeAt.none_int _ _⟩
   | str i=>obtain⟨t,rfl⟩:=uy;exact⟨RcAt.none_str _ _,RcNeAt.none_str _ _⟩
   | _=>simp [M3] at hy
 | int i=>
   obtain⟨t,rfl⟩:=ux
   cases ry with
   | non=>cases uy;exact⟨RcAt.int_none _ _,RcNeAt.int_none _ _⟩
   | int j=>obtain⟨t',rfl⟩:=uy;simp only [eqv,←hb];exact⟨RcAt.int_int _ _ _ _,RcNeAt.int_int _ _ _ _⟩
   | str j=>obtain⟨t',rfl⟩:=uy;exact⟨RcAt.int_str _ _ _ _,RcNeAt.int_str _ _ _ _⟩
   | _=>simp [M3] at hy
 | str i=>
   obtain⟨t,rfl⟩:=ux
   cases ry with
   | non=>cases uy;exact⟨RcAt.str_none _ _,RcNeAt.str_none _ _⟩
   | int j=>obtain⟨t',rfl⟩:=uy;exact⟨RcAt.str_int _ _ _ _,RcNeAt.str_int _ _ _ _⟩
   | str j=>obtain⟨t',rfl⟩:=uy;simp only [eqv,←hs];exact⟨RcAt.str_str _ _ _ _,RcNeAt.str_str _ _ _ _⟩
   | _=>simp [M3] at hy
 | _=>simp [M3] at hx
theorem ae3 {f:PV->Bool} {l m:List PV} {vs ws:List L2.V} {its its2:List Value} (r1:RVs ρ H l vs) (r2:RVs ρ H m ws) (ri:L2.Vals vs its) (ri2:L2.Vals ws its2) (hl:l.all f=true) (hm:m.all f=true)
 (ih:∀x y vx vy u v,RV ρ H x vx->RV ρ H y vy->f x=true->f y=true->L2.RelV vx u->L2.RelV vy v->EqAt A s u v (eqv x y)) :
 ∀j (h1:j<its.toArray.size) (h2:j<its2.toArray.size),EqAt A s its.toArray[j] its2.toArray[j] (eqv (l.getD j .non) (m.getD j .non)):=λj h1 h2=>by
 simp only [List.size_toArray] at h1 h2
 have l1:j<vs.length:=by rw [ri.length];exact h1
 have l2:j<ws.length:=by rw [ri2.length];exact h2
 obtain⟨x,ex,rx⟩:=r1.get' (i:=j) (v:=vs[j]) (by simp [l1])
 obtain⟨y,ey,ry⟩:=r2.get' (i:=j) (v:=ws[j]) (by simp [l2])
 obtain⟨u,eu,ru⟩:=ri.get (i:=j) (x:=vs[j]) (by simp [l1])
 obtain⟨v,ev,rv⟩:=ri2.get (i:=j) (x:=ws[j]) (by simp [l2])
 have d1:l.getD j .non=x:=by rw [List.getD_eq_getElem?_getD,ex];rfl
 have d2:m.getD j .non=y:=by rw [List.getD_eq_getElem?_getD,ey];rfl
 have q1:its.toArray[j]=u:=by
  rw [List.getElem?_eq_getElem h1] at eu
  simpa using Option.some.inj eu
 have q2:its2.toArray[j]=v:=by
  rw [List.getElem?_eq_getElem h2] at ev
  simpa using Option.some.inj ev
 rw [d1,d2,q1,q2]
 exact ih x y _ _ u v rx ry (List.all_eq_true.mp hl x (List.mem_of_getElem? ex)) (List.all_eq_true.mp hm y (List.mem_of_getElem? ey)) ru rv
def aB8 (K:PySem.W.Frag) (g:Bool->Bool):L2.R2:=λvx vy H Q=>∃(ρ:List Addr),
 (∃x y,RV ρ H x vx/\RV ρ H y vy/\plain x=true/\plain y=true/\Q (.bl (g (eqv x y))) H)\/(∃b c,vx=.bl b/\vy=.bl c/\Q (.bl (g (b == c))) H)\/
 (∃a b l m xs ys,vx=.ref a/\vy=.ref b/\L2.SqL K H a xs/\L2.SqL K H b ys/\RVs ρ H l xs/\RVs ρ H m ys/\J2 l=true/\J2 m=true/\Q (.bl (g (R6 l m))) H)
theorem aF7 (hr:X.A.units+64<cLine) {vx vy:L2.V} {u v:Value} {Q:L2.VK} {g:Bool->Bool} (I:L2.Inv X pins σ H s) (ux:L2.RelV vx u) (uy:L2.RelV vy v) (h:aB8 X.K g vx vy H Q):∃b,RcAt X.A s u v b/\RcNeAt X.A s u v (!b)/\Q (.bl (g b)) H:=by
 obtain⟨ρ,h⟩:=h
 rcases h with ⟨x,y,rx,ry,px,py,q⟩ | ⟨b,c,rfl,rfl,q⟩ | ⟨a,b,l,m,xs,ys,rfl,rfl,h1,h2,r1,r2,p1,p2,q⟩
 ·refine⟨eqv x y,?_,?_,q⟩ <;>
  (cases x with
  | tup l=>
    cases y with
    | tup m=>
      cases rx with
      | tup ha r1=>
        cases ry with
        | tup hb r2=>
          cases ux;cases uy
          obtain⟨_,its,ri,pi⟩:=I.hok _ _ ha
          obtain⟨_,its2,ri2,pi2⟩:=I.hok _ _ hb
          have z1:its.toArray.size=l.length:=by rw [List.size_toArray,←ri.length,r1.length]
          have z2:its2.toArray.size=m.length:=by rw [List.size_toArray,←ri2.length,r2.length]
          have hi:=ae3 (A:=X.A.in1) (s:=s) r1 r2 ri ri2 (show l.all g8=true from px) (show m.all g8=true from py) (λx y vx vy u v rx ry h1 h2 u1 u2=>a86 I X.A.in1 (M5 X.A 2 (by omega)) x y vx vy u v rx ry h1 h2 u1 u2)
          first
           | (have h:=RcAt.tuples (A:=X.A) (s:=s) (e:=λj=>eqv (l.getD j .non) (m.getD j .non)) pi pi2 (by omega) hi
              rw [z1,z2,←ae2] at h;exact h)
           | (have h:=RcNeAt.tuples (A:=X.A) (s:=s) (e:=λj=>eqv (l.getD j .non) (m.getD j .non)) pi pi2 (by omega) hi
              rw [z1,z2,←ae2] at h;exact h)
    | _=>first | exact (O4 I rx ry (by omega) ux uy (.inl ⟨_,rfl,py⟩)).2.1 | exact (O4 I rx ry (by omega) ux uy (.inl ⟨_,rfl,py⟩)).2.2
  | _=>
    cases y with
    | tup m=>first | exact (O4 I rx ry (by omega) ux uy (.inr ⟨_,rfl,px⟩)).2.1 | exact (O4 I rx ry (by omega) ux uy (.inr ⟨_,rfl,px⟩)).2.2
    | _=>first | exact (rc0 rx ry px py ux uy).1 | exact (rc0 rx ry px py ux uy).2)
 ·cases ux;cases uy
  exact⟨b == c,RcAt.bool_bool _ _,RcNeAt.bool_bool _ _,q⟩
 ·cases ux;cases uy
  obtain⟨its,ri,pi,_⟩:=I.list h1
  obtain⟨its2,ri2,pi2,_⟩:=I.list h2
  have z1:its.toArray.size=l.length:=by rw [List.size_toArray,←ri.length,r1.length]
  have z2:its2.toArray.size=m.length:=by rw [List.size_toArray,←ri2.length,r2.length]
  refine⟨R6 l m,?_,?_,q⟩
  ·by_cases hlm:l.length=m.length
   ·have hi:=ae3 (A:=X.A.in1) (s:=s) r1 r2 ri ri2 p1 p2 (λx y vx vy u v rx ry h1 h2 u1 u2=>aS9 I X.A.in1 (M5 X.A 3 (by omega)) x y vx vy u v rx ry h1 h2 u1 u2)
    have h:=RcAt.lists (A:=X.A) (s:=s) (e:=λj=>eqv (l.getD j .non) (m.getD j .non)) pi.isList pi2.isList (by rw [z1,z2,hlm]) (by omega) hi
    rw [z1,←o0 hlm] at h;exact h
   ·rw [n9 hlm]
    exact RcAt.lists_lengths pi.isList pi2.isList (by rw [z1,z2];exact bne_iff_ne.mpr hlm) (by omega)
  ·by_cases hlm:l.length=m.length
   ·have hi:=ae3 (A:=X.A.in1) (s:=s) r1 r2 ri ri2 p1 p2 (λx y vx vy u v rx ry h1 h2 u1 u2=>aS9 I X.A.in1 (M5 X.A 3 (by omega)) x y vx vy u v rx ry h1 h2 u1 u2)
    have h:=RcNeAt.lists (A:=X.A) (s:=s) (e:=λj=>eqv (l.getD j .non) (m.getD j .non)) pi.isList pi2.isList (by rw [z1,z2,hlm]) (by omega) hi
    rw [z1,←o0 hlm] at h;exact h
   ·rw [n9 hlm]
    exact RcNeAt.lists_lengths pi.isList pi2.isList (by rw [z1,z2];exact bne_iff_ne.mpr hlm) (by omega)
theorem Q5 (hr:X.A.units+64<cLine):L2.OpR X (compareOp .Eq) (aB8 X.K id):=by
 intro pins s σ H x y v u Q I rx ry q
 obtain⟨b,h1,_,h3⟩:=aF7 hr I rx ry q
 exact h1 _ _ _ _ ⟨.bl b,H,I,rfl,h3⟩
theorem R7 (hr:X.A.units+64<cLine):L2.OpR X (compareOp .NotEq) (aB8 X.K not):=by
 intro pins s σ H x y v u Q I rx ry q
 obtain⟨b,_,h2,h3⟩:=aF7 hr I rx ry q
 exact h2 _ _ _ _ ⟨.bl (!b),H,I,rfl,h3⟩
theorem ar1 {x y:PV} {B B':PHp} {b:Bool} {vx vy:L2.V} {Q:L2.VK} {g:Bool->Bool} (rl:Rel X.K cm ρ B H) (rx:RV ρ H x vx) (ry:RV ρ H y vy) (h:pEq x y B=.ok b B') (q:Q (.bl (g b)) H):B'=B/\aB8 X.K g vx vy H Q:=by
 have gen:∀x y,RV ρ H x vx->RV ρ H y vy->G5 (ap6 x y=true\/(plain x=true/\plain y=true)) (ret (eqv x y)) B=.ok b B'->B'=B/\aB8 X.K g vx vy H Q:=λx y rx ry h=>by
  obtain⟨c,h⟩:=C7 h
  cases h
  refine⟨rfl,ρ,?_⟩
  rcases c with c | c
  ·cases x with
   | bl b1=>
     cases y with
     | bl b2=>cases rx;cases ry;exact .inr (.inl ⟨b1,b2,rfl,rfl,q⟩)
     | _=>simp [ap6] at c
   | _=>simp [ap6] at c
  ·exact .inl ⟨x,y,rx,ry,c.1,c.2,q⟩
 cases x with
 | ref n=>
   cases y with
   | ref k=>
     obtain⟨l,B1,e1,h1⟩:=B0 h
     obtain⟨rfl,a,xs,rfl,hs,r⟩:=L7 rl rx e1
     obtain⟨m,B2,e2,h2⟩:=B0 h1
     obtain⟨rfl,a2,ys,rfl,hs2,r2⟩:=L7 rl ry e2
     obtain⟨c,h3⟩:=C7 h2
     cases h3
     exact⟨rfl,ρ,.inr (.inr ⟨a,a2,l,m,xs,ys,rfl,rfl,hs,hs2,r,r2,c.1,c.2,q⟩)⟩
   | _=>exact gen _ _ rx ry h
 | _=>cases y <;> exact gen _ _ rx ry h
theorem W2:T5 X.K cm oEq (aB8 X.K id):=λρ B H x y z B' vx vy Q rl rx ry ev k=>by
 obtain⟨b,B1,e1,ev1⟩:=B0 ev
 cases ev1
 have hB:B'=B:=(ar1 (g:=id) (Q:=λ_ _=>True) rl rx ry e1 trivial).1
 subst hB
 exact (ar1 (g:=id) rl rx ry e1 (k ρ H _ (Ext.refl _ _) rl (.bl b))).2
theorem Y1:T5 X.K cm oNe (aB8 X.K not):=λρ B H x y z B' vx vy Q rl rx ry ev k=>by
 obtain⟨b,B1,e1,ev1⟩:=B0 ev
 cases ev1
 have hB:B'=B:=(ar1 (g:=not) (Q:=λ_ _=>True) rl rx ry e1 trivial).1
 subst hB
 exact (ar1 (g:=not) rl rx ry e1 (k ρ H _ (Ext.refl _ _) rl (.bl _))).2
def a23 (K:PySem.W.Frag) (neg:Bool):L2.R2:=λvx vy H Q=>∃(ρ:List Addr) (x:PV) (a:Addr) (l:List PV) (xs:List L2.V),RV ρ H x vx/\vy=.ref a/\(L2.SqL K H a xs\/L2.SqT K H a xs)/\RVs ρ H l xs/\plain x=true/\J2 l=true/\Q (.bl (if neg then !pIn x l else pIn x l)) H
def av3 (ρ:List Addr) (H:L2.Hp) (x:PV) (u:Value):Bool:=@decide (∃y vy,L2.RelV vy u/\RV ρ H y vy/\plain y=true/\eqv y x=true) (Classical.propDecidable _)
theorem aF8 {x y:PV} {vy:L2.V} {u:Value} (ru:L2.RelV vy u) (ry:RV ρ H y vy) (py:plain y=true):av3 ρ H x u=eqv y x:=by
 unfold av3
 cases e:eqv y x with
 | true=>exact @decide_eq_true _ (Classical.propDecidable _) ⟨y,vy,ru,ry,py,e⟩
 | false=>
   refine @decide_eq_false _ (Classical.propDecidable _) λ⟨z,vz,rz,qz,pz,ez⟩=>?_
   have:=rz.inj ru
   subst this
   have:=RV.uniq qz ry (X3 _ pz) (X3 _ py)
   subst this
   rw [e] at ez;cases ez
theorem b0 {x:PV}:∀{l:List PV} {xs:List L2.V} {us:List Value},RVs ρ H l xs->L2.Vals xs us->J2 l=true->us.any (av3 ρ H x)=pIn x l
 | _,_,_,.nil,.nil,_=>rfl
 | _,_,_,.cons h r,.cons h' r',p=>by
   have p':=p
   unfold J2 at p'
   rw [List.all_cons,Bool.and_eq_true] at p'
   rw [List.any_cons,aF8 h' h p'.1,b0 r r' p'.2];rfl
theorem b4 {x:PV} {vx:L2.V} {v:Value} (I:L2.Inv X pins σ H s) (A:Around) (hu:A.units+3<cLine) (rx:RV ρ H x vx) (px:plain x=true) (ux:L2.RelV vx v):∀{l:List PV} {xs:List L2.V} {us:List Value},RVs ρ H l xs->L2.Vals xs us->J2 l=true->∀u∈us,EqAt A s u v (av3 ρ H x u)
 | _,_,_,.nil,.nil,_=>λu hu=>by cases hu
 | _,_,_,.cons h r,.cons h' r',p=>λu hm=>by
   have p':=p
   unfold J2 at p'
   rw [List.all_cons,Bool.and_eq_true] at p'
   rcases List.mem_cons.mp hm with rfl | hm
   ·rw [aF8 h' h p'.1];exact aS9 I A hu _ _ _ _ _ _ h rx p'.1 px h' ux
   ·exact b4 I A hu rx px ux r r' p'.2 u hm
theorem u7 (hr:X.A.units+64<cLine):L2.OpR X (compareOp .In) (a23 X.K false):=by
 intro pins s σ H x y v u Q I rx ry h
 obtain⟨ρ,z,a,l,xs,rz,rfl,hq,r,pz,pl,q⟩:=h
 cases ry
 rcases hq with hq | hq
 ·obtain⟨its,ri,pi,hz⟩:=I.list hq
  refine in_listAt (av3 ρ H z) pi.isList (λw hw=>b4 I X.A.in1 (M5 X.A 3 (by omega)) rz pz rx r ri pl w (by simpa using hw)) ⟨.bl _,H,I,rfl,?_⟩
  rw [List.any_toArray,b0 r ri pl];exact q
 ·obtain⟨its,ri,pi,hz⟩:=I.tuple hq
  refine in_tupleAt (av3 ρ H z) pi (λw hw=>b4 I X.A.in1 (M5 X.A 3 (by omega)) rz pz rx r ri pl w (by simpa using hw)) ⟨.bl _,H,I,rfl,?_⟩
  rw [List.any_toArray,b0 r ri pl];exact q
theorem am0 (hr:X.A.units+64<cLine):L2.OpR X (compareOp .NotIn) (a23 X.K true):=by
 intro pins s σ H x y v u Q I rx ry h
 obtain⟨ρ,z,a,l,xs,rz,rfl,hq,r,pz,pl,q⟩:=h
 cases ry
 rcases hq with hq | hq
 ·obtain⟨its,ri,pi,hz⟩:=I.list hq
  refine notIn_listAt (av3 ρ H z) pi.isList (λw hw=>b4 I X.A.in1 (M5 X.A 3 (by omega)) rz pz rx r ri pl w (by simpa using hw)) ⟨.bl _,H,I,rfl,?_⟩
  rw [List.any_toArray,b0 r ri pl];exact q
 ·obtain⟨its,ri,pi,hz⟩:=I.tuple hq
  refine notIn_tupleAt (av3 ρ H z) pi (λw hw=>b4 I X.A.in1 (M5 X.A 3 (by omega)) rz pz rx r ri pl w (by simpa using hw)) ⟨.bl _,H,I,rfl,?_⟩
  rw [List.any_toArray,b0 r ri pl];exact q
theorem am1:T5 X.K cm oIn (a23 X.K false):=λρ B H x y z B' vx vy Q rl rx ry ev k=>by
 obtain⟨l,B1,e1,ev1⟩:=B0 ev
 obtain⟨rfl,a,xs,rfl,hs,r⟩:=a6 rl ry e1
 obtain⟨c,ev2⟩:=C7 ev1
 cases ev2
 exact⟨ρ,x,a,l,xs,rx,rfl,hs,r,c.1,c.2,k ρ H _ (Ext.refl _ _) rl (.bl _)⟩
theorem av4:T5 X.K cm ac1 (a23 X.K true):=λρ B H x y z B' vx vy Q rl rx ry ev k=>by
 obtain⟨l,B1,e1,ev1⟩:=B0 ev
 obtain⟨rfl,a,xs,rfl,hs,r⟩:=a6 rl ry e1
 obtain⟨c,ev2⟩:=C7 ev1
 cases ev2
 exact⟨ρ,x,a,l,xs,rx,rfl,hs,r,c.1,c.2,k ρ H _ (Ext.refl _ _) rl (.bl _)⟩
def j5:Ty->String
 | .int=>"int"
 | .bool=>"bool"
 | .tuple=>"tuple"
 | .list=>"list"
structure Kit (K:PySem.W.Frag):Prop where
 t (a b:String) (ha:a∈["NoneType","bool","int","str","list","tuple"]) (hb:b∈["int","bool","tuple","list"]):PySem.W.kitOne K (.type a) (.type b)=some (a == b||(a == "bool"&&b == "int"))
def bo7 (K:PySem.W.Frag) (t:Ty):List L2.V->L2.Hp->L2.VK->Prop:=λvs H Q=>∃v ty,vs=[v,.ty (j5 t)]/\ty∈["NoneType","bool","int","str","list","tuple"]/\L2.l4 K H v (.type ty)/\Q (.bl (ty == j5 t||(ty == "bool"&&j5 t == "int"))) H
theorem aT0 (kit:Kit X.K) (t:Ty):L2.CallR X (.builtin "isinstance") (bo7 X.K t):=by
 intro pins s σ H xs us Q I r h
 obtain⟨v,ty,rfl,hm,hty,q⟩:=h
 obtain⟨u,w,rfl,ru,rw'⟩:=L2.aQ1 r
 cases rw'
 exact L2.ak9 I ru hty (kit.t ty (j5 t) hm (by cases t <;> simp [j5])) λtk=>⟨.bl _,H,I.tok tk,rfl,q⟩
theorem T7 {e:Expr} {d:ED} {t:Ty} {tn:Str} {p p2 pos:Pos} (kit:Kit X.K) (he:L2.PE X e (EvE X.K cm d)) (hg:L2.Gl X "isinstance") (hm:X.mg "isinstance" = none) (hgt:L2.Gl X tn) (hmt:X.mg tn=none) (hbt:bootBuiltins tn=some (.type (j5 t)))
 (hs:starEach [e,.Name tn p2] X.env=(false,eval e X.env)::starEach [.Name tn p2] X.env:=by exact G0 rfl) (hs2:starEach [Expr.Name tn p2] X.env=(false,eval (.Name tn p2) X.env)::starEach [] X.env:=by exact G0 rfl) (hpl:(backTo pos (starEach [Expr.Name tn p2] X.env)).any (·.1)=false:=by rfl)
 (hn:tn≠"__name__":=by decide) (hdb:(tn == ("__debug__" : Str))=false:=by decide) :
 L2.PE X (.Call (.Name "isinstance" p) [e,.Name tn p2] [] pos) (EvE X.K cm (Z5 d t)):=
 D7 (L2.V5 (aT0 kit t) hg hm PyProof.Rows.boot_isinstance (L2.l5 he (L2.l5 (L2.aE1 (v:=.ty (j5 t)) hgt hmt hbt rfl hn hdb) L2.aA3 hs2) hs) (he:=hs) (hpl:=hpl)) λσ H Q ⟨ρ,A,σp,v,A',rl,rs,ev,k⟩=>by
  obtain⟨x,A1,e1,ev1⟩:=B0 ev
  obtain⟨b,A2,e2,ev2⟩:=B0 ev1
  cases ev2
  refine⟨ρ,A,σp,x,A1,rl,rs,e1,λρ1 H1 v1 x1 rl1 rv1=>?_⟩
  cases x with
  | non=>cases rv1;cases t <;> cases e2 <;> exact⟨_,"NoneType",rfl,by simp,.non,k ρ1 H1 _ x1 rl1 (.bl _)⟩
  | bl c=>cases rv1;cases t <;> cases e2 <;> exact⟨_,"bool",rfl,by simp,.bl c,k ρ1 H1 _ x1 rl1 (.bl _)⟩
  | int i=>cases rv1;cases t <;> cases e2 <;> exact⟨_,"int",rfl,by simp,.int i,k ρ1 H1 _ x1 rl1 (.bl _)⟩
  | str z=>cases rv1;cases t <;> cases e2 <;> exact⟨_,"str",rfl,by simp,.str z,k ρ1 H1 _ x1 rl1 (.bl _)⟩
  | tup l=>
    cases rv1 with
    | tup ha r=>cases t <;> cases e2 <;> exact⟨_,"tuple",rfl,by simp,.tup ha,k ρ1 H1 _ x1 rl1 (.bl _)⟩
  | ref n=>
    cases t <;>
    (obtain⟨l,A3,e3,e4⟩:=B0 e2
     obtain⟨rfl,hA,a,xs,rfl,hn,hH,r⟩:=R5 rl1 rv1 e3
     cases e4
     exact⟨_,"list",rfl,by simp,.lst hH,k ρ1 H1 _ x1 rl1 (.bl _)⟩)
end
end Ws
namespace Ws
open PySem
theorem ae4 {X:L2.Cx} {pins:List (Addr×Obj)} {σ:L2.St} {H:L2.Hp} {s:Shared} {h':Heap} {t':Nat} {fp:List Addr} {T:Addr} {o:L2.HO} (I:L2.Inv X pins σ H s) (hf:∀b∈fp,L2.k9 X pins H b)
 (k:∀b u,b∉fp->s.heap.get? b=some u->h'.get? b=some u) (hT:s.heap.objs.size<=T) (new:L2.ObjOk X.prog X.w (L2.upd H T o) h' T o):L2.Inv X pins σ (L2.upd H T o) { s with heap:=h',toks:=t' }:=by
 have hn:H T=none:=I.hok.fresh hT
 have neT:∀b u,s.heap.get? b=some u->b≠T:=λb u e=>Nat.ne_of_lt (Nat.lt_of_lt_of_le (Heap.lt_size e) hT)
 have nfp:∀b u,H b=some u->b∉fp:=λb u e z=>by rw [(hf b z).1] at e;cases e
 refine I.step (g':=s.gens) (d':=s.drawn) (ch:=fp) (λb hb=>?_) (λb u _ _ hc e _=>k b u hc e) (λb u _ _ hc e _=>⟨u.slots,k b u hc e⟩) (λb u hc e n=>by rw [L2.D4 (neT b u e)];exact n) (λb u hc e=>⟨u,k b u hc e⟩)
  (λb xs e=>by rw [L2.D4 (L2.J9 e hn)];exact e) (λb u xs e=>by rw [L2.D4 (L2.J9 e hn)];exact e) (λb ps e=>⟨#[],by rw [L2.D4 (L2.J9 e hn),e];simp⟩) (λm hm=>?_) (λb u e=>?_) I.bare
 ·obtain⟨_,f1,_,f3,f4,f5⟩:=hf b hb
  exact⟨f3,f1,f4,f5⟩
 ·obtain⟨ob,es,ep,ho,r⟩:=hm
  exact⟨ob,es,ep,k _ ob (λz=>(hf _ z).2.1 rfl) ho,r⟩
 ·by_cases hb:b=T
  ·subst hb;rw [L2.D2] at e;cases e;exact new
  ·rw [L2.D4 hb] at e
   refine (I.hok b u e).stay (λc v hc q=>k c v ?_ q) (λc q=>by rw [L2.D4 (L2.J9 q hn)];exact q) λc xs q=>by rw [L2.D4 (L2.J9 q hn)];exact q
   rcases hc with rfl | hc
   ·exact nfp c u e
   ·exact nfp c _ hc
theorem am2 {X:L2.Cx} {pins:List (Addr×Obj)} {σ:L2.St} {H:L2.Hp} {s:Shared} {h':Heap} {t':Nat} {fp:List Addr} (I:L2.Inv X pins σ H s) (hf:∀b∈fp,L2.k9 X pins H b)
 (k:∀b u,b∉fp->s.heap.get? b=some u->h'.get? b=some u):L2.Inv X pins σ H { s with heap:=h',toks:=t' }:=by
 have nfp:∀b u,H b=some u->b∉fp:=λb u e z=>by rw [(hf b z).1] at e;cases e
 refine I.step (g':=s.gens) (d':=s.drawn) (ch:=fp) (λb hb=>?_) (λb u _ _ hc e _=>k b u hc e) (λb u _ _ hc e _=>⟨u.slots,k b u hc e⟩) (λb u hc e n=>n) (λb u hc e=>⟨u,k b u hc e⟩)
  (λb xs e=>e) (λb u xs e=>e) (λb ps e=>⟨#[],by rw [e];simp⟩) (λm hm=>?_) (λb u e=>?_) I.bare
 ·obtain⟨_,f1,_,f3,f4,f5⟩:=hf b hb
  exact⟨f3,f1,f4,f5⟩
 ·obtain⟨ob,es,ep,ho,r⟩:=hm
  exact⟨ob,es,ep,k _ ob (λz=>(hf _ z).2.1 rfl) ho,r⟩
 ·refine (I.hok b u e).stay (λc v hc q=>k c v ?_ q) (λc q=>q) λc xs q=>q
  rcases hc with rfl | hc
  ·exact nfp c u e
  ·exact nfp c _ hc
theorem aK8 {P:Program} {w:World} {K:PySem.W.Frag} {elts:List Expr} {x1:Nat} {pos:Pos} (a e it:Addr) (hei:e≠it):L2.az5 P w K (.Tuple elts x1 pos) (Ite K a) [e,it] e (λi h=>(∃old,IsEnum h e it i old)/\h.IsListIter it a i) where
 mem:=by simp
 obj:=λi h st b hb=>by
  obtain⟨⟨old,he⟩,o,e1,c,d⟩:=st
  rcases List.mem_cons.mp hb with rfl | hb
  ·exact⟨_,he,λv z=>by cases z⟩
  ·have e2:b=it:=by simpa using hb
   subst e2
   exact⟨o,e1,λv z=>by rw [d] at z;cases z⟩
 keep:=λi h h' st k=>by
  obtain⟨⟨old,he⟩,hit⟩:=st
  exact⟨⟨old,k e (by simp) _ he⟩,hit.at λo x=>k it (by simp) o x⟩
 item:=by
  intro X hP hw hK hc i pins s σ H E I hf st hg
  subst hP hw hK
  obtain⟨xs,x,hq,hx⟩:=hg
  obtain⟨its,rv,p,hz⟩:=I.list hq
  obtain⟨u,hu,ru⟩:=rv.get hx
  obtain⟨⟨old,he⟩,hit⟩:=st
  have el:=Heap.lt_size he
  refine wpAny_pyNext_enum_item he hit p.isList (x:=u) (by simpa using hu) hei λh' ho hit' hT hsz hk=>?_
  refine⟨.ref s.heap.objs.size,rfl,wpAny_letOwnedTupleGo_enum (s:={ s with heap:=h',toks:=s.toks+1 }) ho λh2 he2 hs2=>?_⟩
  have sb:∀b u,b≠e->h'.get? b=some u->h2.get? b=some u:=λb u hb q=>(hs2.2 b hb).trans q
  have hTe:s.heap.objs.size≠e:=Nat.ne_of_gt el
  have I2:L2.Inv X pins σ (L2.upd H s.heap.objs.size (.tup [.int i,x])) { s with heap:=h2,toks:=s.toks+1 }:=by
   refine ae4 (s:=s) (t':=s.toks+1) I hf (λb u hb q=>?_) (Nat.le_refl _) ?_
   ·have h1:b≠e:=λz=>hb (by simp [z])
    have h2:b≠it:=λz=>hb (by simp [z])
    exact sb b u h1 (hk b u h1 h2 q)
   ·exact⟨by show 2<=sizeLine;decide,[.int i s.toks,u],.cons ⟨_,rfl⟩ (.cons ru .nil),_,sb _ _ hTe hT,rfl,_,rfl⟩
  refine⟨.ref s.heap.objs.size,L2.upd H s.heap.objs.size (.tup [.int i,x]),I2,rfl,⟨x,s.heap.objs.size,λys hy=>by rw [I.list_inj hy hq];exact hx,I.hok.fresh (Nat.le_refl _),rfl,rfl⟩,⟨⟨u,by exact_mod_cast he2⟩,hit'.at λo y=>sb it o hei.symm y⟩,λb hb=>?_⟩
  ·rw [L2.D4]
   ·exact (hf b hb).1
   ·rcases List.mem_cons.mp hb with rfl | hb
    ·exact hTe.symm
    ·have e2:b=it:=by simpa using hb
     subst e2
     obtain⟨_,y,_⟩:=hit
     exact Nat.ne_of_lt (Heap.lt_size y)
 done:=by
  intro X hP hw hK hc i pins s σ H E I hf st hg
  subst hP hw hK
  obtain⟨xs,hq,hx⟩:=hg
  obtain⟨its,rv,p,hz⟩:=I.list hq
  obtain⟨⟨old,he⟩,hit⟩:=st
  have hl:=rv.length
  exact wpAny_pyNext_enum_end (I.ok.hd hc) he hit p.isList (by rw [Array.getElem?_eq_none];simp;omega) λh' eb=>⟨rfl,am2 (t':=s.toks) I hf λb u hb q=>eb b u (λz=>hb (by simp [z])) q⟩
 self:=λ_ _ _ _ _ st h=>by
  obtain⟨⟨old,he⟩,_⟩:=st
  exact wpAny_pyIter_enum he h
section
variable {X:L2.Cx} {cm:Nat->Addr}
theorem bk7 {l:Expr} {d:ED} {elts:List Expr} {x1:Nat} {tpos p pos:Pos} (hg:L2.Gl X "enumerate") (hm:X.mg "enumerate" = none) (hl:L2.PE X l (EvE X.K cm d)) (hs:starEach [l] X.env=(false,eval l X.env)::starEach [] X.env:=by exact G0 rfl):L2.PI X (.Tuple elts x1 tpos) (.Call (.Name "enumerate" p) [l] [] pos) (EvI X.K cm (bj3 d)):=by
 intro pins s σ H R I h
 obtain⟨ρ,A,σp,J,A',rl,rs,ev,k⟩:=h
 obtain⟨x,A1,e1,ev1⟩:=B0 ev
 refine PyProof.Rows.Call_ (L2.Q1 I hg hm PyProof.Rows.boot_enumerate (PyProof.Rows.callWith_type1 (L2.thn ((r_cons hl r_nil hs) pos pins s σ H (λvs H1=>∃a xs,vs=[.ref a]/\L2.SqL X.K H1 a xs/\R (Ite X.K a) H1) I ⟨ρ,A,σp,[x],A1,rl,rs,by show bnd (d σp) _ A=_;rw [bnd_ok e1];rfl,λρ1 H1 vs1 x1 rl1 rv1=>?_⟩) λus s1 ⟨vs,H1,I1,r1,q1⟩=>?_) hs rfl))
 ·cases x with
  | ref n=>
    obtain⟨m,A2,e2,ev2⟩:=B0 ev1
    cases rv1 with
    | cons hv hr=>
      cases hr
      obtain⟨rfl,a,xs,rfl,hq,r⟩:=L7 rl1 hv e2
      cases ev2
      cases hv with
      | ref hn=>exact⟨a,xs,rfl,hq,k ρ1 H1 _ x1 rl1 ⟨a,hn,rfl⟩⟩
  | _=>cases ev1
 ·obtain⟨a,xs,rfl,hq,q⟩:=q1
  obtain⟨u,rfl,rx⟩:=L2.g7 r1
  cases rx
  obtain⟨its,rv,pl,hz⟩:=I1.list hq
  refine call_enumerate_list pl.isList λh' he hit hsz kp=>?_
  refine wpAny_pyIter_enum he ?_
  have I2:L2.Inv X pins σ H1 { s1 with heap:=h' }:=I1.kept (t':=s1.toks) kp
  refine⟨s1.heap.objs.size+1,[s1.heap.objs.size+1,s1.heap.objs.size],_,_,H1,rfl,I2,aK8 a _ _ (Nat.succ_ne_self _),⟨⟨_,he⟩,hit⟩,λb hb=>?_,q⟩
  have hb2:s1.heap.objs.size<=b:=by
   rcases List.mem_cons.mp hb with rfl | hb
   ·exact Nat.le_succ _
   ·have:b=s1.heap.objs.size:=by simpa using hb
    exact Nat.le_of_eq this.symm
  exact I1.fpOk hb2 (I1.hok.fresh hb2)
end
structure Def (P:Program) (w:World) (K:PySem.W.Frag) (mg:Str->Option Value) (base:Heap) (cm:Nat->Addr) (x:Str) (k:Nat) (ps:List Str) (f:Fun) (n:Nat):Prop where
 ex:∃(fa:Addr) (fd:FuncData),L2.FnOk P w K mg base L2.CX0 k fa fd ps (SpF K cm f n)/\mg x=some (.ref fa)/\PySem.W.keepIn K (.ref fa)=true/\L2.Binds K fd ps []
 len:∀vs A v A',f vs A=.ok v A'->vs.length=n
structure Y6 (P:Program) (w:World) (K:PySem.W.Frag) (mg:Str->Option Value) (base:Heap) (cm:Nat->Addr) (c:Nat) (m:Str) (k:Nat) (ps:List Str) (f:Fun) (n:Nat):Prop where
 ex:∃(fa:Addr) (fd:FuncData),L2.FnOk P w K mg base L2.CX0 k fa fd ps (SpF K cm f n)/\L2.aJ9 K (cm c) m fa/\L2.Binds K fd ps []
 len:∀vs A v A',f vs A=.ok v A'->vs.length=n
structure aT1 (P:Program) (w:World) (K:PySem.W.Frag) (mg:Str->Option Value) (base:Heap) (cm:Nat->Addr) (c:Nat) (x:Str) (k:Nat) (ps:List Str) (f:Fun) (n:Nat):Prop where
 ex:∃(fa:Addr) (fd:FuncData),L2.FnOk P w K mg base L2.CX0 k fa fd ps (SpF K cm f n)/\L2.Mk K (cm c) fa/\mg x=some (.ref (cm c))/\L2.Binds K fd ps []
 len:∀vs A v A',f vs A=.ok v A'->vs.length=n/\v=.non
section
variable {X:L2.Cx} {cm:Nat->Addr}
theorem r_callD {f:Fun} {n k k':Nat} {ps:List Str} {x:Str} {e:Expr} {es:List Expr} {ds:AD} {p pos:Pos} (D:Def X.prog X.w X.K X.mg X.base cm x k ps f n) (hk:k<=k') (hr:L2.Room k' X.A) (hg:L2.Gl X x)
 (ha:L2.PA X (e::es) (EvA X.K cm ds)) (hdb:(x == ("__debug__" : Str))=false:=by decide) (he:starEach (e::es) X.env=(false,eval e X.env)::starEach es X.env:=by exact G0 rfl) (hpl:(backTo pos (starEach es X.env)).any (·.1)=false:=by rfl) :
 L2.PE X (.Call (.Name x p) (e::es) [] pos) (EvE X.K cm (J1 f ds)):=by
 obtain⟨fa,fd,F,hm,hkp,hb⟩:=D.ex
 exact be1 F D.len (hr.mono hk) hg hm hkp hb ha hdb he hpl
theorem P4 {c:Nat} {f:Fun} {n k k':Nat} {ps:List Str} {m:Str} {o e:Expr} {es:List Expr} {d:ED} {ds:AD} {apos pos:Pos} {pl:Sem Bool} (D:Y6 X.prog X.w X.K X.mg X.base cm c m k ps f n) (hk:k<=k') (hr:L2.Room k' X.A) (hc:L2.Cls X.K (cm c)) (ho:L2.PE X o (EvE X.K cm d)) (ha:L2.PA X (e::es) (EvA X.K cm ds)) (hnm:∀i,i<19->fnm i≠m)
 (hst:starEach (e::es) X.env=(false,eval e X.env)::starEach es X.env:=by exact G0 rfl) (hpl:(backTo pos (starEach es X.env)).any (·.1)=false:=by rfl)
 (ht:eval (.Call (.Attribute o m apos) (e::es) [] pos) X.env=(do
  let ov ←eval o X.env
  standAt apos.atName
  let (f,first) ←holding [ov] (getMethod ov m pl)
  callWith pos f first (backTo pos (starEach (e::es) X.env)) (backToKw pos (keywordEach [] X.env))):=by rfl) :
 L2.PE X (.Call (.Attribute o m apos) (e::es) [] pos) (EvE X.K cm (O3 c f d ds)):=by
 obtain⟨fa,fd,F,hm,hb⟩:=D.ex
 exact be2 (pl:=pl) ho hc hm F D.len hnm (hr.mono hk) hb ha hst hpl ht
theorem ar2 {c:Nat} {f:Fun} {n k k':Nat} {ps:List Str} {x:Str} {e:Expr} {es:List Expr} {ds:AD} {p pos:Pos} (D:aT1 X.prog X.w X.K X.mg X.base cm c x k ps f n) (hk:k+1<=k') (hr:L2.Room k' X.A)
 (hg:L2.Gl X x) (ha:L2.PA X (e::es) (EvA X.K cm ds)) (hdb:(x == ("__debug__" : Str))=false:=by decide) (he:starEach (e::es) X.env=(false,eval e X.env)::starEach es X.env:=by exact G0 rfl) (hpl:(backTo pos (starEach es X.env)).any (·.1)=false:=by rfl) (h7:c<7:=by decide) :
 L2.PE X (.Call (.Name x p) (e::es) [] pos) (EvE X.K cm (ac3 c f ds)):=by
 obtain⟨fa,fd,F,hM,hm,hb⟩:=D.ex
 exact be3 h7 hM F D.len (hr.mono hk) hg hm hb ha hdb he hpl
theorem aT2 {x:Str} {i:Int} {pos:Pos} (hg:L2.Gl X x) (hm:∃t,X.mg x=some (.int i t)) (hd:(x == ("__debug__" : Str))=false:=by decide):L2.PE X (.Name x pos) (EvE X.K cm (eK (.int i))):=by
 obtain⟨t,hm⟩:=hm
 exact r_k (L2.aE0 hg hm (show L2.RelV (.int i) (.int i t) from ⟨t,rfl⟩) hd) λ_ _=>.int i
end
structure L9 (K:PySem.W.Frag) (mg:Str->Option Value) (cm:Nat->Addr):Prop where
 kit:Kit K
 cls:∀c,c<7->L2.Cls K (cm c)
 na:∀c i,i<19->c<7->L2.NoAttr K (cm c) (fnm i)
 b_len:mg "len" = none
 b_range:mg "range" = none
 b_list:mg "list" = none
 b_sorted:mg "sorted" = none
 b_isinstance:mg "isinstance" = none
 b_int:mg "int" = none
 b_bool:mg "bool" = none
 b_tuple:mg "tuple" = none
 b_enumerate:mg "enumerate" = none
 b_reversed:mg "reversed" = none
 b_max:mg "max" = none
 b_min:mg "min" = none
 b_all:mg "all" = none
 b_any:mg "any" = none
 b_set:mg "set" = none
 b_zip:mg "zip" = none
 b_dict:mg "dict" = none
section
variable {prog:Program} {w:World} {A:Around} {R:Result->Shared->Prop} {s:Shared}
abbrev aF9 (ifs:List Expr) (env:Env):Sem Bool:=forIn ifs true λc r=>if r=true then do let ok ←isTrue c env (eval c env);pure (ForInStep.yield ok) else pure (ForInStep.yield r)
theorem aK9 {elt target iter:Expr} {ifs:List Expr} {scope:Scope} {pos:Pos} {it acc:Value} {env:Env} (I:Nat->Shared->Prop)
 (turn:∀n s,I n s->wpAny (model prog w) A (pyNext it) (λr s₁=>match r with
  | none=>R (.ok .next) s₁
  | some v=>wpAny (model prog w) A (letOwnedTupleGo target it v) (λ_ s₀=>wpAny (model prog w) A (assign target env v) (λ_ s₂=>
   wpAny (model prog w) A (aF9 ifs env) (λok s₃=>
    if ok=true then wpAny (model prog w) A (eval elt env) (λx s₄=>
     wpAny (model prog w) A (call (.builtin "list.append") [acc,x]) (λ_ s₅=>∃m,m<n/\I m s₅) (λ_ _=>False) s₄) (λ_ _=>False) s₃
    else ∃m,m<n/\I m s₃) (λ_ _=>False) s₂) (λ_ _=>False) s₀) (λ_ _=>False) s₁) (λ_ _=>False) s)
 (n:Nat) (h:I n s):codeAny (model prog w) A (.compLoop (.ListComp elt [⟨target,iter,ifs,0⟩] scope pos) 0 it acc env) R s:=by
 have fe:∀{E':Value->Shared->Prop} {e:Value} {s':Shared},False->E' e s':=λh=>h.elim
 refine codeAny_loop rfl I (λn s hI=>?_) n h
 show wpAny _ A ((compTurn (.ListComp elt [⟨target,iter,ifs,0⟩] scope pos) 0 it acc env).onRaise (λx=>do noteFrame x env;theTreesLotGoes x)) _ _ s
 refine wpAny_noted ?_
 rw [compTurn_list]
 refine wpAny_bind (wpAny_standAt (wpAny_bind (wpAny_mono (turn n s hI) (λr s₁ h₁=>?_) λ_ _ h'=>h'.elim)))
 cases r with
 | none=>exact wpAny_pure h₁
 | some v=>
   refine wpAny_bind (wpAny_mono h₁ (λ_ s₀ h₀=>?_) λ_ _ h'=>h'.elim)
   refine wpAny_bind (wpAny_mono h₀ (λ_ s₂ h₂=>wpAny_bind (wpAny_mono h₂ (λok s₃ h₃=>?_) λ_ _ h'=>h'.elim)) λ_ _ h'=>h'.elim)
   cases ok with
   | false=>exact wpAny_pure ⟨rfl,h₃⟩
   | true=>
     exact wpAny_bind (wpAny_bind (wpAny_mono h₃ (λx s₄ h₄=>wpAny_bind (wpAny_mono h₄ (λ_ s₅ h₅=>wpAny_pure (wpAny_pure ⟨rfl,h₅⟩)) λ_ _ h'=>h'.elim)) λ_ _ h'=>h'.elim))
end
def blk (X:L2.Cx) (N:List Str) (scope:Scope) (cl:List (Str×Addr)) (C:Addr) (s₀:Shared) (H₀:L2.Hp) (fp:List Addr):L2.Cx where
 prog:=X.prog
 w:=X.w
 K:=X.K
 mg:=X.mg
 base:=X.base
 A:=X.A
 N:=N
 s₀:=s₀
 H₀:=H₀
 env:=compEnvC scope cl C X.env
 outer:=X.stack
 stack:=X.stack
 ex:=fp
 fn:=λ_=>false
 calm:=X.calm
 pn:=[]
 xe:=λ_ _=>False
inductive FreeOk (X:L2.Cx) (scope:Scope) (cl:List (Str×Addr)):List Str->List (Option Nat)->Prop where
 | nil:FreeOk X scope cl [] []
 | own {x:Str} {N:List Str} {js:List (Option Nat)} (h:FreeOk X scope cl N js):FreeOk X scope cl (x::N) (none::js)
 | free {x:Str} {j:Nat} {N:List Str} {js:List (Option Nat)} (h1:X.N[j]?=some x) (h2:X.env.kindOf x=some .cell\/X.env.kindOf x=some .free) (h3:L2.Vis X.env.scope x) (h4:cl.lookup x=X.env.cells.lookup x) (h5:(relabel scope X.env).names.lookup x=some .cell\/(relabel scope X.env).names.lookup x=some .free) (h:FreeOk X scope cl N js):FreeOk X scope cl (x::N) (some j::js)
theorem FreeOk.len {X:L2.Cx} {scope:Scope} {cl:List (Str×Addr)}:∀{N:List Str} {js:List (Option Nat)},FreeOk X scope cl N js->js.length=N.length
 | _,_,.nil=>rfl
 | _,_,.own h=>by simp [h.len]
 | _,_,.free _ _ _ _ _ h=>by simp [h.len]
theorem FreeOk.get {X:L2.Cx} {scope:Scope} {cl:List (Str×Addr)}:∀{N:List Str} {js:List (Option Nat)} {i j:Nat} {x:Str},FreeOk X scope cl N js->N[i]?=some x->js[i]?=some (some j)->X.N[j]?=some x/\(X.env.kindOf x=some .cell\/X.env.kindOf x=some .free)/\L2.Vis X.env.scope x/\cl.lookup x=X.env.cells.lookup x/\((relabel scope X.env).names.lookup x=some .cell\/(relabel scope X.env).names.lookup x=some .free)
 | _,_,_,_,_,.nil,h,_=>by simp at h
 | _,_,0,_,_,.own _,_,h=>by simp at h
 | _,_,i+1,_,_,.own h,h1,h2=>FreeOk.get (i:=i) h (by simpa using h1) (by simpa using h2)
 | _,_,0,_,_,.free a b c d e _,h1,h2=>by simp at h1 h2;subst h1;subst h2;exact⟨a,b,c,d,e⟩
 | _,_,i+1,_,_,.free _ _ _ _ _ h,h1,h2=>FreeOk.get (i:=i) h (by simpa using h1) (by simpa using h2)
theorem aG0 {α:Type} {js:List (Option Nat)} {σ:List (Option α)} {i:Nat} {v:α} (h:(bst js σ)[i]?=some (some v)):∃j,js[i]?=some (some j)/\σ[j]?=some (some v):=by
 unfold bst at h
 rw [List.getElem?_map] at h
 rcases e:js[i]? with _ | (_ | j)
 ·rw [e] at h;cases h
 ·rw [e] at h;cases h
 ·rw [e] at h
  refine⟨j,rfl,?_⟩
  have h':σ.getD j none=some v:=Option.some.inj h
  rw [List.getD_eq_getElem?_getD] at h'
  rcases e2:σ[j]? with _ | o
  ·rw [e2] at h';cases h'
  ·rw [e2] at h';exact congrArg some h'
theorem RSt.bst {ρ:List Addr} {H:L2.Hp} {σp:PSt} {σ:L2.St} (h:RSt ρ H σp σ) (js:List (Option Nat)):RSt ρ H (Ws.bst js σp) (Ws.bst js σ):=by
 refine⟨by simp [Ws.bst],λi p hp=>?_⟩
 obtain⟨j,h1,h2⟩:=aG0 hp
 obtain⟨v,h3,h4⟩:=h.get j p h2
 refine⟨v,?_,h4⟩
 unfold Ws.bst
 rw [List.getElem?_map,h1]
 show some (σ.getD j none)=_
 rw [List.getD_eq_getElem?_getD,h3];rfl
structure a24 (X:L2.Cx) (scope:Scope) (cl:List (Str×Addr)):Prop where
 kind:scope.kind=.function
 clos:closureFor scope X.env=pure cl
 nocell:∀y∈scope.names,y.2≠.cell
 names:∀y∈scope.names,y.2=.local->scope.names.lookup y.1=some .local
 sub:∀p∈cl,X.env.cells.lookup p.1=some p.2
 has:∀y∈scope.names,y.2=.free->(cl.lookup y.1).isSome=true
theorem av5 {X:L2.Cx} {scope:Scope} {cl:List (Str×Addr)} (S:a24 X scope cl) {x:Str} (h:(relabel scope X.env).names.lookup x=some .cell\/(relabel scope X.env).names.lookup x=some .free):∃c,cl.lookup x=some c:=by
 have key:∀k,(x,k)∈(relabel scope X.env).names->k=.cell\/k=.free->∃c,cl.lookup x=some c:=λk hm hk=>by
  unfold relabel at hm
  obtain⟨⟨n,k'⟩,hy,e⟩:=List.mem_map.mp hm
  dsimp only at e
  have hfree:n=x/\k'=.free:=by
   split at e
   ·rename_i hc
    cases e
    simp only [Bool.and_eq_true,beq_iff_eq] at hc
    exact⟨rfl,hc.1.1⟩
   ·cases e
    rcases hk with rfl | rfl
    ·exact absurd rfl (S.nocell _ hy)
    ·exact⟨rfl,rfl⟩
  obtain⟨rfl,rfl⟩:=hfree
  exact Option.isSome_iff_exists.mp (S.has _ hy rfl)
 rcases h with h | h
 ·exact key _ (PySem.mem_of_lookup h) (.inl rfl)
 ·exact key _ (PySem.mem_of_lookup h) (.inr rfl)
section
variable {X:L2.Cx} {cm:Nat->Addr} {pins:List (Addr×Obj)} {σ:L2.St} {H:L2.Hp} {s:Shared}
theorem aL0 {N:List Str} {js:List (Option Nat)} {scope:Scope} {cl:List (Str×Addr)} {C:Addr} {fp:List Addr} {h':Heap} {t':Nat} {m:Str->Option Value} (S:a24 X scope cl) (Fr:FreeOk X scope cl N js) (I:L2.Inv X pins σ H s) (hf:∀b∈fp,L2.k9 X pins H b) (hfl:∀b∈fp,b<s.heap.objs.size)
 (hC:s.heap.objs.size<=C) (kp:∀b u,s.heap.get? b=some u->h'.get? b=some u) (hns:h'.Ns C m):L2.Inv (blk X N scope cl C s H fp) [] (Ws.bst js σ) H { s with heap:=h',toks:=t' }:=by
 have I1:L2.Inv X pins σ H { s with heap:=h',toks:=t' }:=I.kept kp
 have sub:∀x c,cl.lookup x=some c->X.env.cells.lookup x=some c:=λx c e=>S.sub (x,c) (PySem.mem_of_lookup e)
 refine⟨⟨I.ok.mod,S.kind,I.ok.glob,I.ok.blt,hC,λx y c h1 h2=>I.ok.inj x y c (sub x c h1) (sub y c h2),λx hx=>av5 S hx,λx c h=>(nomatch h),I.ok.hd,I.ok.frames,.inl rfl,λb hb=>⟨Nat.ne_of_lt (Nat.lt_of_lt_of_le (hfl b hb) hC),λx c e=>(hf b hb).2.2.2.2.1 x c (sub x c e)⟩,
  I.bs,Nat.le_trans I.ok.bsz I.sz,λb o e hb=>?_,λb hb hz=>?_,I.stack,I.stkFree⟩,rfl,I.bare,L2.Un.kept kp,⟨m,hns,λi x v h1 h2 h3=>?_⟩,λx c e=>I1.cell x c (sub x c e),I.hok.fresh hC,λx c e=>I.freeC x c (sub x c e),λp hp=>absurd (show p∈([]:List (Addr×Obj)) from hp) (by simp),I1.hok,by simp [Ws.bst,Fr.len,blk]⟩
 ·rcases (hf b hb).2.2.2.1 with z | z
  ·exact I.ok.noex b o e z
  ·exact absurd (Nat.lt_of_lt_of_le (Heap.lt_size e) (Nat.le_trans I.ok.bsz z)) (Nat.lt_irrefl _)
 ·rcases List.mem_cons.mp (I.stkSub b hz) with z | z
  ·exact (hf b hb).2.1 z
  ·exact (hf b hb).2.2.1 z
 ·obtain⟨j,j1,j2⟩:=aG0 h2
  obtain⟨a1,a2,a3,a4,a5⟩:=Fr.get h1 j1
  obtain⟨m0,_,hl⟩:=I1.loc
  obtain⟨u,ru,lk⟩:=hl j x v a1 j2 a3
  refine⟨u,ru,?_⟩
  rcases lk with ⟨q,_⟩ | ⟨_,c,e1,e2⟩
  ·rcases a2 with a2 | a2 <;> (rw [a2] at q;cases q)
  ·exact .inr ⟨a5,c,a4.trans e1,e2⟩
theorem bk8 {D:Addr} {o:L2.HO} {fp:List Addr} (I:L2.Inv X pins σ H s) (hD:L2.k9 X pins H D) (new:L2.ObjOk X.prog X.w (L2.upd H D o) s.heap D o):L2.Inv X pins σ (L2.upd H D o) s:=by
 have hn:=hD.1
 have ne:∀b u,H b=some u->b≠D:=λb u e z=>by rw [z,hn] at e;cases e
 obtain⟨hp,g,d,tk,os⟩:=s
 refine I.step (g':=g) (d':=d) (t':=tk) (h':=hp) (ch:=[D]) (λb hb=>?_) (λb u _ _ _ e _=>e) (λb u _ _ _ e _=>⟨u.slots,e⟩) (λb u hc e n=>by rw [L2.D4 (λz=>hc (by simp [z]))];exact n) (λb u _ e=>⟨u,e⟩)
  (λb xs e=>by rw [L2.D4 (ne b _ e)];exact e) (λb u xs e=>by rw [L2.D4 (ne b _ e)];exact e) (λb ps e=>⟨#[],by rw [L2.D4 (ne b _ e),e];simp⟩) (λm hm=>hm) (λb u e=>?_) I.bare
 ·have e:b=D:=by simpa using hb
  subst e
  exact⟨hD.2.2.2.1,hD.2.1,hD.2.2.2.2.1,hD.2.2.2.2.2⟩
 ·by_cases hb:b=D
  ·subst hb;rw [L2.D2] at e;cases e;exact new
  ·rw [L2.D4 hb] at e
   exact (I.hok b u e).stay (λc v _ q=>q) (λc q=>by rw [L2.D4 (ne c _ q)];exact q) λc xs q=>by rw [L2.D4 (ne c _ q)];exact q
end
section
variable {X:L2.Cx} {cm:Nat->Addr}
def PTs (X:L2.Cx) (ifs:List Expr) (t:L2.TT):Prop:=
 ∀(pins:List (Addr×Obj)) (s:Shared) (σ:L2.St) (H:L2.Hp) (Q:Bool->L2.Hp->Prop),L2.Inv X pins σ H s->t σ H Q->wpAny (model X.prog X.w) X.A (aF9 ifs X.env) (L2.TP X pins σ Q) X.xe s
theorem R8:PTs X [] (EvT X.K cm T1):=λpins s σ H Q I ⟨ρ,A,σp,b,A',rl,rs,ev,k⟩=>by
 cases ev
 exact wpAny_tests_nil ⟨H,I,k ρ H (Ext.refl _ _) rl⟩
theorem ae5 {c:Expr} {t:TD} (h:L2.PT X c (EvT X.K cm t)):PTs X [c] (EvT X.K cm t):=λpins s σ H Q I q=>wpAny_tests_one (h pins s σ H Q I q)
theorem aL1 {elt tg iter:Expr} {ifs:List Expr} {scope:Scope} {pos:Pos} {cl:List (Str×Addr)} {N:List Str} {js:List (Option Nat)} {g:GD} {t:TD} {e:ED} {pins:List (Addr×Obj)} {σ:L2.St} {H:L2.Hp} {s:Shared}
 {it:Addr} {fp:List Addr} {tn:Nat->Heap->Prop} {j:L2.It} {J:It} {ρ:List Addr} {A A':PHp} {σp:PSt} {n:Nat} {ys:List PV} {RR:Value->Addr->Result->Shared->Prop} {E:Value->Shared->Prop}
 (hc:X.calm=true) (S:a24 X scope cl) (Fr:FreeOk X scope cl N js)
 (hg:∀C s0 H0 fp,L2.PG (blk X N scope cl C s0 H0 fp) tg (EvG X.K cm g)) (ht:∀C s0 H0 fp,PTs (blk X N scope cl C s0 H0 fp) ifs (EvT X.K cm t)) (he:∀C s0 H0 fp,L2.PE (blk X N scope cl C s0 H0 fp) elt (EvE X.K cm e))
 (I:L2.Inv X pins σ H s) (T:L2.az5 X.prog X.w X.K tg j fp it tn) (st:tn 0 s.heap) (hf:∀b∈fp,L2.k9 X pins H b) (rj:RIt X.K ρ H J j) (rl:Rel X.K cm ρ A H) (rs:RSt ρ H σp σ)
 (ev:Z8 J g t e (n+1) 0 (Ws.bst js σp) A=.ok ys A') (hy:ys.length<=LIM)
 (hRR:∀D C s' m,s'.heap.Ns C m->C≠X.env.locals->(∀h'',Heap.SameBut C s'.heap h''->∃ρ' H',Ext ρ H ρ' H'/\Rel X.K cm ρ' (A'++[.lst ys]) H'/\ρ'[A'.length]?=some D/\L2.Inv X pins σ H' { s' with heap:=h'' }/\L2.k9 X pins H' C)->RR (.ref D) C (.ok .next) s') :
 wpAny (model X.prog X.w) X.A (newList []) (λacc s₃=>wpAny (model X.prog X.w) X.A (newFunctionEnv scope X.env.globals cl [] X.env.qual none .none (some X.env)) (λcenv s₄=>
  codeAny (model X.prog X.w) X.A (.compStart (.ListComp elt [⟨tg,iter,ifs,0⟩] scope pos) 0 (.ref it) acc { cenv with scope:=relabel scope X.env }) (RR acc cenv.locals) s₄) E s₃) E s:=by
 refine wpAny_newObj_type (wpAny_newFunctionEnv S.nocell (by intro y hy;simp at hy) (λh₁ hns₁ hsb₁=>?_) S.kind)
 dsimp only at hns₁ hsb₁ ⊢
 generalize hH2:s.heap.push { cls:=.type "list",dict:=none,data:=.seq ([]:List Value).toArray }=H2 at hns₁ hsb₁ ⊢
 have hCz:H2.objs.size=s.heap.objs.size+1:=by rw [←hH2,Heap.size_push]
 have hfl:∀b∈fp,b<s.heap.objs.size:=λb hb=>by
  obtain⟨o,ho,_⟩:=T.obj 0 _ st b hb
  exact Heap.lt_size ho
 have hDC:s.heap.objs.size≠H2.objs.size:=by rw [hCz];exact Nat.ne_of_lt (Nat.lt_succ_self _)
 have hCle:s.heap.objs.size<=H2.objs.size:=by rw [hCz];exact Nat.le_succ _
 have old:∀b o,s.heap.get? b=some o->h₁.get? b=some o:=λb o q=>hsb₁.extBut b o (by rw [hCz];exact Nat.ne_of_lt (Nat.lt_succ_of_lt (Heap.lt_size q))) (Heap.get?_push_of_some _ (hH2 ▸ Heap.get?_push_of_some _ q))
 have hacc:h₁.PlainList s.heap.objs.size #[]:=⟨_,hsb₁.extBut _ _ hDC (Heap.get?_push_of_some _ (hH2 ▸ Heap.get?_push_size _ rfl))⟩
 generalize hDe:s.heap.objs.size=D at *
 generalize hCe:H2.objs.size=C at *
 let Y:=blk X N scope cl C s H fp
 have hDfp:∀b∈fp,b≠D:=λb hb=>Nat.ne_of_lt (hfl b hb)
 have lt_of:∀b o,s.heap.get? b=some o->b<D:=λb o q=>by rw [←hDe];exact Heap.lt_size q
 have nD:D∉L2.frs X.stack:=λz=>by
  obtain⟨_,o,ho,_⟩:=I.stack.mem z
  exact Nat.lt_irrefl _ (lt_of _ _ ho)
 have cellD:∀x c,X.env.cells.lookup x=some c->c<D:=λx c q=>by
  obtain⟨v,o,ho,_⟩:=I.cell x c q
  exact lt_of _ _ ho
 have subc:∀x c,cl.lookup x=some c->X.env.cells.lookup x=some c:=λx c q=>S.sub (x,c) (PySem.mem_of_lookup q)
 have fpY:∀(ps:List (Addr×Obj)) (H':L2.Hp),(∀p∈ps,∀b∈fp,p.1≠b)->(∀b∈fp,H' b=none)->∀b∈fp,L2.k9 Y ps H' b:=λps H' hps hn b hb=>
  ⟨hn b hb,Nat.ne_of_lt (Nat.lt_of_lt_of_le (hfl b hb) hCle),λhz=>(List.mem_cons.mp (I.stkSub b hz)).elim (hf b hb).2.1 (hf b hb).2.2.1,.inl hb,λx c q=>(hf b hb).2.2.2.2.1 x c (subc x c q),λp hp=>hps p (by simpa [Y,blk] using hp) b hb⟩
 have I0:L2.Inv Y [] (Ws.bst js σ) H { s with heap:=h₁,toks:=s.toks+([]:List (Str×Value)).length }:=aL0 S Fr I hf (λb hb=>by rw [hDe];exact hfl b hb) (by rw [hDe];exact hCle) old hns₁
 have st1:tn 0 h₁:=T.keep 0 _ _ st λb hb o q=>old b o q
 have loop:∀s₃:Shared,s₃={ s with heap:=h₁,toks:=s.toks+([]:List (Str×Value)).length }->
  codeAny (model X.prog X.w) X.A (.compLoop (.ListComp elt [⟨tg,iter,ifs,0⟩] scope pos) 0 (.ref it) (.ref D) (compEnvC scope cl C X.env)) (RR (.ref D) C) s₃:=by
  rintro s₃ rfl
  refine aK9 (λm s'=>∃i σ' H' ρ' B σp' rest accp accv its,L2.Inv Y [] σ' H' s'/\tn i s'.heap/\(∀b∈fp,H' b=none)/\Ext ρ H ρ' H'/\Rel X.K cm ρ' B H'/\RSt ρ' H' σp' σ'/\Z8 J g t e (m+1) i σp' B=.ok rest A'/\
   s'.heap.PlainList D (List.toArray its)/\H' D=none/\L2.Vals accv its/\RVs ρ' H' accp accv/\accp++rest=ys) ?_ n ⟨0,_,H,ρ,A,Ws.bst js σp,ys,[],[],[],I0,st1,λb hb=>(hf b hb).1,Ext.refl _ _,rl,rs.bst js,ev,hacc,by rw [←hDe];exact I.hok.fresh (Nat.le_refl _),.nil,.nil,rfl⟩
  rintro m s' ⟨i,σ',H',ρ',B,σp',rest,accp,accv,its,I1,st',fn',x1,rl1,rs1,ev1,pl,hDn,va,ra,hys⟩
  obtain⟨nD0,hDo⟩:=id pl
  have dD:∀v,({ cls:=.type "list",data:=.seq its.toArray nD0 }:Obj).data≠.cell v:=λv z=>nomatch z
  have I2:L2.Inv Y [(D,{ cls:=.type "list",data:=.seq its.toArray nD0 })] σ' H' s':=I1.pins_of λp hp=>by
   have e:p=(D,{ cls:=.type "list",data:=.seq its.toArray nD0 }):=by simpa using hp
   subst e
   exact⟨hDo,hDn,hDC,nD,dD⟩
  have f2:=fpY [(D,{ cls:=.type "list",data:=.seq its.toArray nD0 })] H' (λp hp b hb=>by
   have e:p=(D,{ cls:=.type "list",data:=.seq its.toArray nD0 }):=by simpa using hp
   subst e
   exact (hDfp b hb).symm) fn'
  rw [y9] at ev1
  obtain⟨x,B1,e1,ev2⟩:=B0 ev1
  obtain⟨rfl,hit⟩:=aF4 rl1 (rj.mono x1) e1
  cases x with
  | none=>
    cases ev2
    rw [List.append_nil] at hys
    subst hys
    refine L2.thn (T.done Y rfl rfl rfl hc i _ s' σ' H' (λ_ _=>False) I2 f2 st' hit) λr s1 ⟨hr,I3⟩=>?_
    subst hr
    have hD3:=I3.pin (D,{ cls:=.type "list",data:=.seq its.toArray nD0 }) (by simp)
    obtain⟨mC,hnC,_⟩:=id I3.loc
    refine hRR D C s1 mC hnC (λz=>?_) λh2 sb=>?_
    ·have:=I.lt
     rw [←z,hDe] at this
     exact absurd (Nat.lt_of_lt_of_le this hCle) (Nat.lt_irrefl _)
    ·have ch:∀b∈fp,(b∈X.ex\/X.s₀.heap.objs.size<=b)/\b≠X.env.locals/\(∀x c,X.env.cells.lookup x=some c->c≠b)/\∀p∈X.pn++pins,p.1≠b:=λb hb=>⟨(hf b hb).2.2.2.1,(hf b hb).2.1,(hf b hb).2.2.2.2.1,(hf b hb).2.2.2.2.2⟩
     have IX:L2.Inv X pins σ H' s1:=I.call' I3.os I3.base I3.hok I3.bare ch
     have fpn:∀(H'':L2.Hp) b,D<=b->H'' b=none->L2.k9 X pins H'' b:=λH'' b hb hn=>by
      rw [←hDe] at hb
      exact I.fpOk (H':=H'') hb hn
     have IX2:L2.Inv X pins σ H' { s1 with heap:=h2 }:=IX.turned (t':=s1.toks) (λb o hb q=>(sb.2 b hb).trans q) I3.free (fpn H' C hCle I3.free).2.1 (fpn H' C hCle I3.free).2.2.2.1 (fpn H' C hCle I3.free).2.2.2.2.1 (fpn H' C hCle I3.free).2.2.2.2.2
     have hlen:accv.length<=sizeLine:=by rw [←ra.length];exact V7 hy
     have IX3:L2.Inv X pins σ (L2.upd H' D (.lst accv)) { s1 with heap:=h2 }:=bk8 (fp:=fp) IX2 (fpn H' D (Nat.le_refl _) hDn) ⟨hlen,its,nD0,va,(sb.2 D hDC).trans hD3.1⟩
     have ex:Ext ρ' H' (ρ'++[D]) (L2.upd H' D (.lst accv)):=Ext.new hDn
     refine⟨ρ'++[D],L2.upd H' D (.lst accv),x1.trans ex,rl1.alloc hDn ⟨accv,L2.D2,ra.mono ex⟩ rfl,by rw [←rl1.len];simp,IX3,fpn _ C hCle ?_⟩
     rw [L2.D4 (Ne.symm hDC)];exact I3.free
  | some v=>
    refine L2.thn (T.item Y rfl rfl rfl hc i _ s' σ' H' (λ_ _=>False) I2 f2 st' hit.1) λr s1 ⟨u,hr,h4⟩=>?_
    subst hr
    refine L2.thn h4 λ_ s2 ⟨xv,H3,I3,ru,hyl,st3,fn3⟩=>?_
    obtain⟨x2,rl3,rv3⟩:=hit.2 xv H3 hyl
    have f3:=fpY [(D,{ cls:=.type "list",data:=.seq its.toArray nD0 })] H3 (λp hp b hb=>by
     have e:p=(D,{ cls:=.type "list",data:=.seq its.toArray nD0 }):=by simpa using hp
     subst e
     exact (hDfp b hb).symm) fn3
    have I4:=I3.pinned f3 (T.obj _ _ st3)
    obtain⟨σ4,B4,e4,ev3⟩:=B0 ev2
    obtain⟨b5,B5,e5,ev4⟩:=B0 ev3
    refine L2.thn (hg C s H fp _ s2 σ' H3 xv u (λσ5 H5=>∃ρ5,Ext ρ' H3 ρ5 H5/\Rel X.K cm ρ5 B4 H5/\RSt ρ5 H5 σ4 σ5) I4 ru ⟨ρ',B1,σp',v,σ4,B4,rl3,rs1.mono x2,rv3,e4,λρ5 H5 σ5 x5 rl5 rs5=>⟨ρ5,x5,rl5,rs5⟩⟩) λ_ s5 ⟨σ5,H5,I5,ρ5,x5,rl5,rs5⟩=>?_
    refine L2.thn (ht C s H fp _ s5 σ5 H5 (λb H6=>b=b5/\∃ρ6,Ext ρ5 H5 ρ6 H6/\Rel X.K cm ρ6 B5 H6) I5 ⟨ρ5,B4,σ4,b5,B5,rl5,rs5,e5,λρ6 H6 x6 rl6=>⟨rfl,ρ6,x6,rl6⟩⟩) λok s6 ⟨H6,I6,hok,ρ6,x6,rl6⟩=>?_
    subst hok
    have x16:Ext ρ' H' ρ6 H6:=(x2.trans x5).trans x6
    have unpin:∀{σ7:L2.St} {H7:L2.Hp} {s7:Shared},L2.Inv Y ([(D,{ cls:=.type "list",data:=.seq its.toArray nD0 })]++L2.ab3 fp s2.heap) σ7 H7 s7->(s7.heap.get? D=some { cls:=.type "list",data:=.seq its.toArray nD0 }/\H7 D=none)/\(∀b∈fp,H7 b=none)/\(∀b∈fp,∀o,s2.heap.get? b=some o->s7.heap.get? b=some o):=λ{σ7 H7 s7} I7=>by
     have p1:=I7.pin (D,{ cls:=.type "list",data:=.seq its.toArray nD0 }) (List.mem_append_right _ (List.mem_append_left _ (by simp)))
     refine⟨⟨p1.1,p1.2.1⟩,λb hb=>?_,λb hb o q=>?_⟩
     ·obtain⟨o,q,_⟩:=T.obj _ _ st3 b hb
      exact (I7.pin (b,o) (List.mem_append_right _ (List.mem_append_right _ (L2.X1 hb q)))).2.1
     ·exact (I7.pin (b,o) (List.mem_append_right _ (List.mem_append_right _ (L2.X1 hb q)))).1
    have bare0:∀{ps:List (Addr×Obj)} {σ7:L2.St} {H7:L2.Hp} {s7:Shared},L2.Inv Y ps σ7 H7 s7->L2.Inv Y [] σ7 H7 s7:=λI7=>I7.pins_of λp hp=>absurd hp (by simp)
    cases ok with
    | false=>
      rw [if_neg (by simp)]
      rw [if_neg (by simp)] at ev4
      cases m with
      | zero=>rw [y7] at ev4;cases ev4
      | succ m=>
        obtain⟨⟨u1,u2⟩,u3,u4⟩:=unpin I6
        exact⟨m,Nat.lt_succ_self _,i+1,σ5,H6,ρ6,B5,σ4,rest,accp,accv,its,bare0 I6,T.keep _ _ _ st3 u4,u3,x1.trans x16,rl6,rs5.mono x6,ev4,⟨nD0,u1⟩,u2,va,ra.mono x16,hys⟩
    | true=>
      rw [if_pos rfl]
      rw [if_pos rfl] at ev4
      obtain⟨y,B7,e7,ev5⟩:=B0 ev4
      obtain⟨more,B8,e8,ev6⟩:=B0 ev5
      cases ev6
      refine L2.thn (he C s H fp _ s6 σ5 H6 (λyv H7=>∃ρ7,Ext ρ6 H6 ρ7 H7/\Rel X.K cm ρ7 B7 H7/\RV ρ7 H7 y yv) I6 ⟨ρ6,B5,σ4,y,B7,rl6,rs5.mono x6,e7,λρ7 H7 yv x7 rl7 rv7=>⟨ρ7,x7,rl7,rv7⟩⟩) λyu s7 ⟨yv,H7,I7,ry,ρ7,x7,rl7,rv7⟩=>?_
      obtain⟨⟨u1,u2⟩,u3,u4⟩:=unpin I7
      have hlen:its.length<=sizeLine:=by
       rw [←va.length,←ra.length]
       refine V7 (Nat.le_trans ?_ hy)
       rw [←hys,List.length_append];exact Nat.le_add_right _ _
      refine wpAny_list_append_plain (items:=its.toArray) ⟨nD0,u1⟩ (λh8 pl8 sb8=>?_) (by rw [List.size_toArray];exact hlen)
      have I8:L2.Inv Y [] σ5 H7 { s7 with heap:=h8 }:=(bare0 I7).turned (t':=s7.toks) (λb o hb q=>(sb8.2 b hb).trans q) u2 hDC (.inr (by show s.heap.objs.size<=D;rw [hDe];exact Nat.le_refl _)) (λx c q=>Nat.ne_of_lt (cellD x c (subc x c q))) (λp hp=>absurd (show p∈([]:List (Addr×Obj)) from hp) (by simp))
      cases m with
      | zero=>rw [y7] at e8;cases e8
      | succ m=>
        have x17:=x16.trans x7
        refine⟨m,Nat.lt_succ_self _,i+1,σ5,H7,ρ7,B7,σ4,more,accp++[y],accv++[yv],its++[yu],I8,T.keep _ _ _ st3 λb hb o q=>(sb8.2 b (hDfp b hb)).trans (u4 b hb o q),u3,x1.trans x17,rl7,(rs5.mono x6).mono x7,e8,by simpa using pl8,u2,va.append (.cons ry .nil),(ra.mono x17).append (.cons rv7 .nil),by rw [←hys];simp⟩
 exact codeAny_compStart_list (loop _ rfl) (T.self X.A 0 _ _ _ st1 (loop _ rfl))
theorem N5 {elt tg iter:Expr} {ifs:List Expr} {scope:Scope} {pos:Pos} {cl:List (Str×Addr)} {N:List Str} (js:List (Option Nat)) {it:ID} {g:GD} {t:TD} {e:ED} (hc:X.calm=true) (S:a24 X scope cl) (Fr:FreeOk X scope cl N js) (hi:L2.PI X tg iter (EvI X.K cm it))
 (hg:∀C s0 H0 fp,L2.PG (blk X N scope cl C s0 H0 fp) tg (EvG X.K cm g)) (ht:∀C s0 H0 fp,PTs (blk X N scope cl C s0 H0 fp) ifs (EvT X.K cm t)) (he:∀C s0 H0 fp,L2.PE (blk X N scope cl C s0 H0 fp) elt (EvE X.K cm e))
 (hs:∀x,foldedSetIterable iter X.env x=pure x:=by intro _;rfl):L2.PE X (.ListComp elt [⟨tg,iter,ifs,0⟩] scope pos) (EvE X.K cm (O0 it (Ws.bst js) g t e)):=by
 intro pins s σ H Q I ⟨ρ,A,σp,v,A',rl,rs,ev,k⟩
 obtain⟨J,A1,e1,ev1⟩:=B0 ev
 obtain⟨n,A2,e2,ev2⟩:=B0 ev1
 obtain rfl:=al9 e2
 obtain⟨ys,A3,e3,ev3⟩:=B0 ev2
 obtain⟨c,ev4⟩:=C7 ev3
 cases ev4
 rw [eval_ListComp]
 refine wpAny_comprehension_free (use:=none) rfl hs S.clos S.kind S.names (wpAny_mono (hi pins s σ H (λj H1=>∃ρ1,Ext ρ H ρ1 H1/\Rel X.K cm ρ1 A2 H1/\RIt X.K ρ1 H1 J j) I ⟨ρ,A,σp,J,A2,rl,rs,e1,λρ1 H1 j x1 rl1 rj=>⟨ρ1,x1,rl1,rj⟩⟩) (λxv s1 h1=>wpAny_mono h1 (λitv s2 h2=>?_) λ_ _ z=>z) λ_ _ z=>z)
 obtain⟨itA,fp,tn,j,H1,rfl,I1,T,st,hf,ρ1,x1,rl1,rj⟩:=h2
 refine aL1 (RR:=λacc C=>compPost (model X.prog X.w) X.A X.xe none (L2.EP X pins σ Q) acc C) hc S Fr hg ht he I1 T st hf rj rl1 (rs.mono x1) e3 c λD C s' m hn hCL hfin=>⟨m,hn,λh'' sb=>?_⟩
 obtain⟨ρ2,H2,x2,rl2,hD,I2,_⟩:=hfin h'' sb
 exact⟨.ref D,H2,I2,rfl,k ρ2 H2 _ (x1.trans x2) rl2 (.ref hD)⟩
end
theorem D9 {α:Type} {P:α->Prop}:∀x∈([]:List α),P x:=λ_ h=>nomatch h
theorem C3 {α:Type} {P:α->Prop} {a:α} {l:List α} (h:P a) (r:∀x∈l,P x):∀x∈a::l,P x:=λx hx=>(List.mem_cons.mp hx).elim (λe=>e ▸ h) (r x)
end Ws
namespace Ws
open PySem PySem.W PyProof.Rows
def wpk {α:Type} (n:Nat) (lt:Nat->Nat->Bool):KasT α->(α->Prop)->Prop
 | .ret a,Q=>Q a
 | .ask i j k,Q=>i<n/\j<n/\wpk n lt (k (lt i j)) Q
theorem W3 {α β:Type} {n:Nat} {lt:Nat->Nat->Bool} {f:α->KasT β} {Q:β->Prop}:∀{t:KasT α},wpk n lt t (λa=>wpk n lt (f a) Q)->wpk n lt (t.bind f) Q
 | .ret _,h=>h
 | .ask _ _ k,⟨h1,h2,h3⟩=>⟨h1,h2,W3 (t:=k _) h3⟩
theorem aG1 {α:Type} {n:Nat} {lt:Nat->Nat->Bool} {cmp:Nat->Nat->(Bool->Shared->Prop)->Shared->Prop} {G:α->Shared->Prop} {s:Shared} (hc:∀i j C,i<n->j<n->C (lt i j) s->cmp i j C s):∀{t:KasT α} {Q:α->Prop},wpk n lt t Q->(∀a,Q a->G a s)->t.kasWp cmp G s
 | .ret a,Q,h,hq=>hq a h
 | .ask i j k,Q,⟨h1,h2,h3⟩,hq=>hc i j _ h1 h2 (aG1 hc (t:=k _) h3 hq)
section
variable {n:Nat} {α:Type} {key:Nat->α} {lt:Nat->Nat->Bool}
structure Ord (key:Nat->α) (lt:Nat->Nat->Bool):Prop where
 asym:∀a b,lt a b=true->lt b a=false
 tr:∀a b c,lt b a=false->lt c b=false->lt c a=false
 tot:∀a b,lt a b=false->lt b a=false->key a=key b
 cong:∀a b c d,key a=key b->key c=key d->lt a c=lt b d
structure Pm (n:Nat) (p:Array Nat):Prop where
 size:p.size=n
 perm:p.Perm (List.toArray (List.range n))
theorem Pm.bd {p:Array Nat} (h:Pm n p) (hn:0<n) (i:Nat):p.getD i 0<n:=by
 by_cases hi:i<p.size
 ·have e:p.getD i 0=p[i]:=by simp [Array.getD,hi]
  rw [e]
  have hm:p[i]∈p.toList:=by simp
  have:=(Array.perm_iff_toList_perm.mp h.perm).mem_iff.mp hm
  simpa using this
 ·have e:p.getD i 0=0:=by simp [Array.getD,hi]
  rw [e];exact hn
theorem o1 {p q:Array Nat} {i j:Nat} (h:p[i]?=q[j]?):p.getD i 0=q.getD j 0:=by
 rw [Array.getD_eq_getD_getElem?,Array.getD_eq_getD_getElem?,h]
theorem Pm.rev {p:Array Nat} (h:Pm n p) (i j:Nat):Pm n (kas_rev p i j):=⟨by unfold kas_rev;rw [mirror_size];exact h.size,(mirror_perm _ _ _ _).trans h.perm⟩
theorem aB9 {p:Array Nat} {i j:Nat} (hj:j<=p.size) (k:Nat):(kas_rev p i j).getD k 0=if i<=k/\k<j then p.getD (i+j - 1 - k) 0 else p.getD k 0:=by
 have e:=getElem?_mirror_all (xs:=p) (i:=i) hj k
 unfold kas_rev
 by_cases h:i<=k/\k<j
 ·rw [if_pos h] at e ⊢;exact o1 e
 ·rw [if_neg h] at e ⊢;exact o1 e
theorem Pm.bub {p:Array Nat} (h:Pm n p) (i d:Nat):Pm n (bubble p i d):=⟨by rw [bubble_size];exact h.size,(bubble_perm _ _ _).trans h.perm⟩
theorem aT3 {p:Array Nat} {src d:Nat} (hs:src<p.size) (hd:d<=src) (k:Nat):(bubble p src d).getD k 0=if k=src - d then p.getD src 0 else if src - d<k/\k<=src then p.getD (k - 1) 0 else p.getD k 0:=by
 have e:=getElem?_bubble hs d hd k
 by_cases h1:k=src - d
 ·rw [if_pos h1] at e ⊢;exact o1 e
 ·rw [if_neg h1] at e ⊢
  by_cases h2:src - d<k/\k<=src
  ·rw [if_pos h2] at e ⊢;exact o1 e
  ·rw [if_neg h2] at e ⊢;exact o1 e
def Inc (lt:Nat->Nat->Bool) (p:Array Nat) (m:Nat):Prop:=∀i j,i<=j->j<m->lt (p.getD j 0) (p.getD i 0)=false
def Dec (lt:Nat->Nat->Bool) (p:Array Nat) (m:Nat):Prop:=∀i j,i<=j->j<m->lt (p.getD i 0) (p.getD j 0)=false
variable (O:Ord key lt) (hn:0<n)
include O hn
theorem Ord.irr (a:Nat):lt a a=false:=by
 cases h:lt a a with
 | false=>rfl
 | true=>have:=O.asym a a h;rw [h] at this;exact this
theorem aT4 {p:Array Nat} {m:Nat} (h:Inc lt p m) (h1:m=0\/lt (p.getD m 0) (p.getD (m - 1) 0)=false):Inc lt p (m+1):=λi j hij hj=>by
 by_cases e:j=m
 ·subst e
  by_cases e2:i=j
  ·subst e2;exact O.irr hn _
  ·rcases h1 with h1 | h1
   ·omega
   ·exact O.tr _ _ _ (h i (j - 1) (by omega) (by omega)) h1
 ·exact h i j hij (by omega)
theorem b6 {p:Array Nat} {m:Nat} (h:Dec lt p m) (h1:m=0\/lt (p.getD (m - 1) 0) (p.getD m 0)=false):Dec lt p (m+1):=λi j hij hj=>by
 by_cases e:j=m
 ·subst e
  by_cases e2:i=j
  ·subst e2;exact O.irr hn _
  ·rcases h1 with h1 | h1
   ·omega
   ·exact O.tr _ _ _ h1 (h i (j - 1) (by omega) (by omega))
 ·exact h i j hij (by omega)
theorem aT5 {p:Array Nat} (hp:Pm n p) {Q:Nat->Prop}:∀f m,1<=m->Inc lt p m->(∀m',m<=m'->m'<=m+f->Inc lt p m'->(m'<m+f->lt (p.getD m' 0) (p.getD (m' - 1) 0)=true)->Q m')->wpk n lt (kas_asc p f m) Q
 | 0,m,_,hi,h=>h m (Nat.le_refl _) (Nat.le_refl _) hi λz=>by omega
 | f+1,m,h1,hi,h=>by
   refine⟨hp.bd hn m,hp.bd hn (m - 1),?_⟩
   cases hc:lt (p.getD m 0) (p.getD (m - 1) 0) with
   | true=>exact h m (Nat.le_refl _) (by omega) hi λ_=>hc
   | false=>
     simp only [Bool.false_eq_true,if_false]
     exact aT5 hp f (m+1) (by omega) (aT4 O hn hi (.inr hc)) λm' a b c d=>h m' (by omega) (by omega) c λz=>d (by omega)
theorem ae6 {p:Array Nat} {i j:Nat} (hj:j<=p.size) (he:∀k,i<=k->k<j->key (p.getD k 0)=key (p.getD (j - 1) 0)) (k:Nat):key ((kas_rev p i j).getD k 0)=key (p.getD k 0):=by
 rw [aB9 hj]
 by_cases h:i<=k/\k<j
 ·rw [if_pos h,he (i+j - 1 - k) (by omega) (by omega),he k h.1 h.2]
 ·rw [if_neg h]
theorem ae7 {p q:Array Nat} {m:Nat} (h:∀k,key (p.getD k 0)=key (q.getD k 0)) (hd:Dec lt q m):Dec lt p m:=λi j hij hj=>by rw [O.cong _ _ _ _ (h i) (h j)];exact hd i j hij hj
def Eqs (key:Nat->α) (p:Array Nat) (m q:Nat):Prop:=q+1<=m/\∀k,m - (q+1)<=k->k<m->key (p.getD k 0)=key (p.getD (m - 1) 0)
omit O hn in
theorem be4 {p:Array Nat} {m:Nat} (h:1<=m):Eqs key p m 0:=⟨h,λk h1 h2=>by rw [show k=m - 1 by omega]⟩
theorem ar3 {Q:Array Nat×Nat×Nat->Prop}:∀f (p:Array Nat) m q,Pm n p->m+f<=n->Dec lt p m->Eqs key p m q->(∀p' m' q',Pm n p'->m<=m'->m'<=m+f->Dec lt p' m'->Eqs key p' m' q'->Q (p',m',q'))->wpk n lt (kas_desc f p m q) Q
 | 0,p,m,q,hp,hmf,hd,he,h=>h p m q hp (Nat.le_refl _) (Nat.le_refl _) hd he
 | f+1,p,m,q,hp,hmf,hd,he,h=>by
   refine⟨hp.bd hn m,hp.bd hn (m - 1),?_⟩
   have h1:=he.1
   cases hc:lt (p.getD m 0) (p.getD (m - 1) 0) with
   | true=>
     simp only [if_true]
     by_cases hq:q > 0
     ·rw [if_pos hq]
      have hs:=ae6 O hn (p:=p) (i:=m - (q+1)) (j:=m) (by rw [hp.size];omega) he.2
      refine ar3 f _ (m+1) 0 (hp.rev _ _) (by omega) ?_ (be4 (by omega)) λp' m' q' a b c d e=>h p' m' q' a (by omega) (by omega) d e
      exact ae7 O hn hs (b6 O hn hd (.inr (O.asym _ _ hc)))
     ·rw [if_neg hq]
      exact ar3 f p (m+1) 0 hp (by omega) (b6 O hn hd (.inr (O.asym _ _ hc))) (be4 (by omega)) λp' m' q' a b c d e=>h p' m' q' a (by omega) (by omega) d e
   | false=>
     simp only [Bool.false_eq_true,if_false]
     refine⟨hp.bd hn (m - 1),hp.bd hn m,?_⟩
     cases hc2:lt (p.getD (m - 1) 0) (p.getD m 0) with
     | true=>exact h p m q hp (Nat.le_refl _) (by omega) hd he
     | false=>
       simp only [Bool.false_eq_true,if_false]
       refine ar3 f p (m+1) (q+1) hp (by omega) (b6 O hn hd (.inr hc2)) ⟨by omega,λk k1 k2=>?_⟩ λp' m' q' a b c d e=>h p' m' q' a (by omega) (by omega) d e
       rw [Nat.add_sub_cancel]
       by_cases e:k=m
       ·rw [e]
       ·rw [he.2 k (by omega) (by omega)];exact O.tot _ _ hc2 hc
theorem aT6 {p:Array Nat} {m:Nat} (hp:Pm n p) (h1:1<=m) (hmn:m<=n) (hd:Dec lt p m) {Q:Nat×Array Nat->Prop} (h:∀m' p',Pm n p'->1<=m'->m'<=n->Inc lt p' m'->Q (m',p')):wpk n lt (kas_tail3 m n p) Q:=by
 refine W3 ?_
 have hi:Inc lt (kas_rev p 0 m) m:=λi j hij hj=>by
  rw [aB9 (by rw [hp.size];exact hmn),aB9 (by rw [hp.size];exact hmn),if_pos ⟨by omega,hj⟩,if_pos ⟨by omega,by omega⟩]
  exact hd _ _ (by omega) (by omega)
 exact aT5 O hn (hp.rev 0 m) (n - m) m h1 hi λm' a b c _=>h m' _ (hp.rev 0 m) (by omega) (by omega) c
theorem ae8 {p:Array Nat} {m:Nat} (hp:Pm n p) (h1:1<=m) (hmn:m<n) (hd:Dec lt p (m+1)) {Q:Nat×Array Nat->Prop} (h:∀m' p',Pm n p'->1<=m'->m'<=n->Inc lt p' m'->Q (m',p')):wpk n lt (kas_descPart m n p) Q:=by
 refine W3 (ar3 O hn (n - (m+1)) p (m+1) 0 hp (by omega) hd (be4 (by omega)) λp' m' q' a b c d e=>?_)
 have e1:=e.1
 dsimp only
 by_cases hq:q' > 0
 ·rw [if_pos hq]
  have hs:=ae6 O hn (p:=p') (i:=m' - (q'+1)) (j:=m') (by rw [a.size];omega) e.2
  exact aT6 O hn (a.rev _ _) (by omega) (by omega) (ae7 O hn hs d) h
 ·rw [if_neg hq]
  exact aT6 O hn a (by omega) (by omega) d h
theorem a25 {p:Array Nat} (hp:Pm n p) (h2:2<=n) {Q:Nat×Array Nat->Prop} (h:∀m' p',Pm n p'->1<=m'->m'<=n->Inc lt p' m'->Q (m',p')):wpk n lt (kas_count n p) Q:=by
 refine W3 (aT5 O hn hp (n - 1) 1 (Nat.le_refl _) (λi j hij hj=>by rw [show i=j by omega];exact O.irr hn _) λm a b c d=>?_)
 by_cases hm:(m == n)=true
 ·rw [if_pos hm];exact h m p hp a (by omega) c
 ·rw [if_neg hm]
  have hmn:m<n:=by have:m≠n:=λz=>hm (by simp [z]);omega
  have hstop:=d (by omega)
  by_cases h1:m > 1
  ·rw [if_pos h1]
   refine⟨hp.bd hn 0,hp.bd hn (m - 1),?_⟩
   cases hc:lt (p.getD 0 0) (p.getD (m - 1) 0) with
   | true=>exact h m p hp a (by omega) c
   | false=>
     simp only [Bool.false_eq_true,if_false]
     have eq1:∀k,0<=k->k<m->key (p.getD k 0)=key (p.getD (m - 1) 0):=λk _ hk=>by
      refine O.tot _ _ ?_ (c k (m - 1) (by omega) (by omega))
      exact O.tr _ _ _ hc (c 0 k (by omega) hk)
     have hs:=ae6 O hn (p:=p) (i:=0) (j:=m) (by rw [hp.size];omega) eq1
     refine ae8 O hn (hp.rev 0 m) a hmn (ae7 O hn hs (b6 O hn (λi j hij hj=>?_) (.inr (O.asym _ _ hstop)))) h
     rw [O.cong _ _ _ _ (eq1 i (by omega) (by omega)) (eq1 j (by omega) hj)];exact O.irr hn _
  ·rw [if_neg h1]
   have:m=1:=by omega
   subst this
   refine ae8 O hn hp a hmn (b6 O hn (λi j hij hj=>by rw [show i=j by omega];exact O.irr hn _) (.inr (O.asym _ _ hstop))) h
theorem ar4 {p:Array Nat} (hp:Pm n p) {k:Nat} (hi:Inc lt p k) {Q:Nat->Prop}:∀f l r,l<=r->r<=k->r - l<=f->(∀i,i<l->lt (p.getD k 0) (p.getD i 0)=false)->(∀i,r<=i->i<k->lt (p.getD k 0) (p.getD i 0)=true)->
 (∀l',l'<=k->(∀i,i<l'->lt (p.getD k 0) (p.getD i 0)=false)->(∀i,l'<=i->i<k->lt (p.getD k 0) (p.getD i 0)=true)->Q l')->wpk n lt (kas_place p k f l r) Q
 | 0,l,r,hlr,hrk,hf,h1,h2,h=>h l (by omega) h1 λi a b=>h2 i (by omega) b
 | f+1,l,r,hlr,hrk,hf,h1,h2,h=>by
   unfold kas_place
   by_cases hc:l≥r
   ·rw [if_pos hc];exact h l (by omega) h1 λi a b=>h2 i (by omega) b
   ·rw [if_neg hc]
    refine⟨hp.bd hn k,hp.bd hn _,?_⟩
    cases hm:lt (p.getD k 0) (p.getD ((l+r) / 2) 0) with
    | true=>
      simp only [if_true]
      refine ar4 hp hi f l ((l+r) / 2) (by omega) (by omega) (by omega) h1 (λi a b=>?_) h
      cases e:lt (p.getD k 0) (p.getD i 0) with
      | true=>rfl
      | false=>
        have:=O.tr _ _ _ (hi ((l+r) / 2) i a b) e
        rw [hm] at this;exact this.symm
    | false=>
      simp only [Bool.false_eq_true,if_false]
      refine ar4 hp hi f ((l+r) / 2+1) r (by omega) hrk (by omega) (λi a=>?_) h2 h
      exact O.tr _ _ _ (hi i ((l+r) / 2) (by omega) (by omega)) hm
theorem a87 {Q:Array Nat->Prop}:∀f (p:Array Nat) k,Pm n p->k+f=n->Inc lt p k->(∀p',Pm n p'->Inc lt p' n->Q p')->wpk n lt (kas_bin f p k) Q
 | 0,p,k,hp,hk,hi,h=>h p hp (by rw [←hk];exact hi)
 | f+1,p,k,hp,hk,hi,h=>by
   refine W3 (ar4 O hn hp hi k 0 k (by omega) (by omega) (by omega) (λi a=>by omega) (λi a b=>by omega) λl hl h1 h2=>?_)
   refine a87 f _ (k+1) (hp.bub _ _) (by omega) (λi j hij hj=>?_) h
   have hsz:k<p.size:=by rw [hp.size];omega
   have hkl:k - (k - l)=l:=by omega
   rw [aT3 hsz (by omega),aT3 hsz (by omega),hkl]
   by_cases hj1:j=l
   ·rw [if_pos hj1]
    by_cases hi1:i=l
    ·rw [if_pos hi1];exact O.irr hn _
    ·rw [if_neg hi1,if_neg (by omega)];exact h1 i (by omega)
   ·rw [if_neg hj1]
    by_cases hj2:l<j/\j<=k
    ·rw [if_pos hj2]
     by_cases hi1:i=l
     ·rw [if_pos hi1];exact O.asym _ _ (h2 (j - 1) (by omega) (by omega))
     ·rw [if_neg hi1]
      by_cases hi2:l<i/\i<=k
      ·rw [if_pos hi2];exact hi (i - 1) (j - 1) (by omega) (by omega)
      ·rw [if_neg hi2];exact hi i (j - 1) (by omega) (by omega)
    ·rw [if_neg hj2]
     have hjl:j<l:=by omega
     rw [if_neg (by omega),if_neg (by omega)]
     exact hi i j hij (by omega)
theorem be5 (h2:2<=n) {Q:Array Nat->Prop} (h:∀p',Pm n p'->Inc lt p' n->Q p'):wpk n lt (kas_sort n) Q:=by
 refine W3 (a25 O hn (p:=List.toArray (List.range n)) ⟨by simp,.refl _⟩ h2 λm p a b c d=>?_)
 dsimp only
 by_cases hm:m<n
 ·rw [if_pos hm,Nat.max_eq_left b]
  exact a87 O hn (n - m) p m a (by omega) d h
 ·rw [if_neg hm]
  have:m=n:=by omega
  subst this
  exact h p a d
end
def aj8 (fin:Bool):List Int->List Int->Bool
 | x::xs,y::ys=>if x=y then aj8 fin xs ys else decide (x<y)
 | _,_=>fin
theorem aG2:∀xs ys:List Int,aj8 (decide (xs.length<ys.length)) xs ys=G3 xs ys
 | [],[]=>rfl
 | [],_::_=>by simp [aj8,G3]
 | _::_,[]=>by simp [aj8,G3]
 | x::xs,y::ys=>by
   simp only [aj8,G3,List.length_cons,Nat.add_lt_add_iff_right]
   rw [aG2 xs ys]
section
variable {prog:Program} {w:World} {A:Around} {E:Value->Shared->Prop} {s:Shared}
theorem z5 {fin:Bool} {Q:Bool->Shared->Prop}:∀{vs us:List Value} {ns ms:List Int} (i:Nat),IntsAre vs ns->IntsAre us ms->Q (aj8 fin ns ms) s->KatLex prog w A true fin Q (vs.zip us) i s
 | _,_,_,_,i,.nil,_,h=>by simpa [aj8] using kat_nil h
 | _,_,_,_,i,.cons _ _ _,.nil,h=>by simpa [aj8] using kat_nil h
 | _,_,_,_,i,.cons a t hv,.cons c u hw,h=>by
   rw [List.zip_cons_cons]
   refine kat_cons (wpAny_eqBool_int ?_)
   by_cases e:a=c
   ·subst e
    simp only [aj8,if_true] at h
    rw [beq_self_eq_true]
    exact kat_yes (z5 (i+1) hv hw h)
   ·rw [beq_eq_false_iff_ne.mpr e]
    simp only [aj8,e,if_false] at h
    refine kat_no ?_
    cases hb:(true&&i == 0) with
    | true=>exact oneLt_int h
    | false=>exact kat_one _ _ (lt_int h)
def o2 (h:Heap) (v:Value) (t:List Int):Prop:=∃a o its n,v=.ref a/\h.get? a=some o/\o.cls=.type "tuple"/\o.data=.seq its n/\IntsAre its.toList t/\t≠[]
theorem ae9 {h:Heap}:∀{vs:List Value} {ts:List (List Int)} {i:Nat},Paired (o2 h) vs ts->i<vs.length->o2 h (vs.getD i .none) (ts.getD i [])
 | _,_,_,.nil,hi=>by simp at hi
 | _,_,0,.cons r _,_=>r
 | _,_,i+1,.cons _ t,hi=>by
   have:=ae9 (i:=i) t (by simpa using hi)
   simpa using this
theorem av6 {h:Heap}:∀{vs:List Value} {ts:List (List Int)},Paired (o2 h) vs ts->∃fs,KatTups h vs fs/\fs.length=vs.length/\∀f∈fs,∃i t,f=Value.int i t
 | _,_,.nil=>⟨[],KatTups.nil,rfl,by simp⟩
 | _,_,.cons r t=>by
   obtain⟨a,o,its,n,rfl,ho,hc,hd,hi,hne⟩:=r
   obtain⟨fs,k,hl,hf⟩:=av6 t
   cases hh:its.toList with
   | nil=>rw [hh] at hi;cases hi;exact absurd rfl hne
   | cons v r=>
     rw [hh] at hi
     cases hi with
     | cons i tk hr=>
       refine⟨.int i tk::fs,KatTups.cons ho hc hd (by rw [←Array.getElem?_toList,hh];rfl) k,by simp [hl],λf hm=>?_⟩
       rcases List.mem_cons.mp hm with rfl | hm
       ·exact⟨_,_,rfl⟩
       ·exact hf f hm
theorem a26 (ts:List (List Int)):Ord (λi=>ts.getD i []) (λi j=>G3 (ts.getD i []) (ts.getD j [])):=
 ⟨λ_ _ h=>ac8 _ _ h,λ_ _ _ h h'=>aA9 _ _ _ h h',λ_ _ h h'=>aa6 _ _ h h',λ_ _ _ _ h h'=>congr (congrArg G3 h) h'⟩
def R0 (ts:List (List Int)) (n:Nat) (p:List Nat):Prop:=p.Perm (List.range n)/\(p.map λi=>ts.getD i []).Pairwise (λx y=>G3 y x=false)
theorem b7 {a:Addr} {vs:List Value} {ts:List (List Int)} {n:Nat} {P:PySem.Fin->Shared->Prop} (ho:s.heap.get? a=some (seqObj "list" vs.toArray n)) (ht:Paired (o2 s.heap) vs ts) (h64:vs.length<64)
 (h:∀p,R0 ts vs.length p->P (.done (.ret .none)) { s with heap:=sortedHeap s.heap a vs (List.toArray (p.map λi=>vs.getD i Value.none)) }) :
 wpAny (model prog w) A (Builtin.«list.sort» ⟨[.ref a],[]⟩) P E s:=by
 rw [list_sort_plain]
 have ha:a<s.heap.objs.size:=Heap.lt_size ho
 refine wpAny_bind (listItems_at ho rfl ?_)
 refine wpAny_bind (listUpdate_at ho rfl ?_)
 obtain⟨e1,ho1⟩:∃e1,(s.heap.update a (Obj.mapSeq λ_=>#[])).get? a=some (seqObj "list" #[] e1):=⟨_,get?_update_seq ho (λ_=>#[])⟩
 refine wpAny_bind (seqEpoch_at ho1 rfl ?_)
 refine wpAny_bind (wpAny_newTuple ?_)
 refine wpAny_bind (wpAny_newList ?_)
 refine wpAny_holding ?_
 have ho6:(((s.heap.update a (Obj.mapSeq λ_=>#[])).push (seqObj "tuple" vs.toArray 0)).push (seqObj "list" #[] 0)).get? a=some (seqObj "list" #[] e1):=by
  rw [Heap.get?_push_ne _ _ _ (by rw [size_push',Heap.size_update];exact Nat.ne_of_lt (Nat.lt_succ_of_lt ha)),Heap.get?_push_ne _ _ _ (by rw [Heap.size_update];exact Nat.ne_of_lt ha)]
  exact ho1
 show wpAny (model prog w) A _ P E { s with heap:=((s.heap.update a (Obj.mapSeq λ_=>#[])).push (seqObj "tuple" vs.toArray 0)).push (seqObj "list" #[] 0) }
 dsimp only
 have hsz:vs.toArray.size=vs.length:=by simp
 have tst:∀v t,o2 s.heap v t->o2 (((s.heap.update a (Obj.mapSeq λ_=>#[])).push (seqObj "tuple" vs.toArray 0)).push (seqObj "list" #[] 0)) v t:=λv t ⟨b,o,its,k,e,q,c,d,r⟩=>by
  have hb:b≠a:=by
   rintro rfl
   rw [ho] at q;cases q
   exact absurd (Value.type.inj (show Value.type "list" = Value.type "tuple" from c)) (by decide)
  exact⟨b,o,its,k,e,Heap.get?_push_of_some _ (Heap.get?_push_of_some _ (by rw [Heap.get?_update_ne _ _ _ _ hb];exact q)),c,d,r⟩
 have ht6:Paired (o2 (((s.heap.update a (Obj.mapSeq λ_=>#[])).push (seqObj "tuple" vs.toArray 0)).push (seqObj "list" #[] 0))) vs ts:=L2.Paired.mapP ht tst
 by_cases h2:vs.toArray.size<2
 ·rw [if_pos h2,if_pos h2]
  refine wpAny_bind (wpAny_pure ?_)
  rw [StateT.run_pure]
  refine wpAny_bind (wpAny_pure ?_)
  dsimp only
  refine wpAny_bind (seqEpoch_at ho6 rfl ?_)
  refine wpAny_bind (listUpdate_at ho6 rfl ?_ (hsz2:=by rw [Array.size_map];show (pairsOf vs).size<=_;rw [pairsOf_size,sizeLine_eq];omega))
  simp only [bne_self_eq_false,Bool.false_eq_true,if_false]
  have hp:R0 ts vs.length (List.range vs.length):=by
   refine⟨.refl _,?_⟩
   rw [hsz] at h2
   match hl:vs.length,h2 with
   | 0,_=>simp
   | 1,_=>simp [List.range_succ]
  have hout:(arrOf (SortSt.mk' general' (vs.toArray.zip vs.toArray) #[] 7 none)).map (·.2)=List.toArray ((List.range vs.length).map λi=>vs.getD i Value.none):=by
   apply Array.toList_inj.mp
   show ((vs.toArray.zip vs.toArray).map (·.2)).toList=_
   apply List.ext_getElem
   ·simp
   ·intro i h1 h2
    have hi:i<vs.length:=by simpa using h1
    simp [hi]
  have:=h _ hp
  rw [←hout] at this
  exact wpAny_pure this
 ·rw [if_neg h2,if_neg h2]
  have hl2:2<=vs.length:=by omega
  obtain⟨fs,hk,hfl,hfi⟩:=av6 ht6
  refine wpAny_bind (kat_kind (T:=.type "int") hk (by omega) (λv hv=>by
   obtain⟨i,t,rfl⟩:=hfi v hv
   exact Looks.of_pure rfl) (by rfl) ?_)
  have ev:(kas_sort vs.length).kasWp (kas_ask prog w A (tuples' (Value.type "int" != Value.type "tuple")) vs) (λp s'=>R0 ts vs.length p.toList/\s'={ s with heap:=((s.heap.update a (Obj.mapSeq λ_=>#[])).push (seqObj "tuple" vs.toArray 0)).push (seqObj "list" #[] 0) }) { s with heap:=((s.heap.update a (Obj.mapSeq λ_=>#[])).push (seqObj "tuple" vs.toArray 0)).push (seqObj "list" #[] 0) }:=by
   refine aG1 (n:=vs.length) (lt:=λi j=>G3 (ts.getD i []) (ts.getD j [])) (λi j C hi hj hC=>?_) (be5 (a26 ts) (by omega) hl2 (Q:=λp=>R0 ts vs.length p.toList) λp hp hinc=>?_) λp hp=>⟨hp,rfl⟩
   ·obtain⟨b,o,its,k,e,q,c,d,r,_⟩:=ae9 ht6 hi
    obtain⟨b',o',its',k',e',q',c',d',r',_⟩:=ae9 ht6 hj
    unfold kas_ask
    rw [e,e']
    refine kat_lt (b:=true) q d q' d' (z5 0 r r' ?_)
    have z1:its.size=(ts.getD i []).length:=by rw [←r.length];simp
    have z2:its'.size=(ts.getD j []).length:=by rw [←r'.length];simp
    rw [z1,z2,aG2];exact hC
   ·refine⟨by simpa using Array.perm_iff_toList_perm.mp hp.perm,?_⟩
    rw [List.pairwise_map,List.pairwise_iff_getElem]
    intro i j hi hj hij
    have:=hinc i j (by omega) (by rw [←hp.size];simpa using hj)
    have hi':i<p.size:=by simpa using hi
    have hj':j<p.size:=by simpa using hj
    simpa [Array.getD,hi',hj'] using this
  refine wpAny_bind (wpAny_mono (kat_run (Q:=λst' s'=>∃p:Array Nat,p.size=vs.length/\arrOf st'=p.map (kas_item (vs.toArray.zip vs.toArray))/\failedOf st'=none/\R0 ts vs.length p.toList/\s'={ s with heap:=((s.heap.update a (Obj.mapSeq λ_=>#[])).push (seqObj "tuple" vs.toArray 0)).push (seqObj "list" #[] 0) })
   rfl hl2 h64 (λp' st' s' a1 a2 a3 a4=>⟨p',a1,a2,a3,a4.1,a4.2⟩) ev) ?_ λ_ _ e=>e)
  rintro⟨⟨⟩,st'⟩ s' ⟨p,hp,har,hf,hres,rfl⟩
  dsimp only
  have hout:=kat_snds rfl har
  have hsz3:(List.toArray (p.toList.map λi=>vs.getD i Value.none)).size=vs.length:=by rw [List.size_toArray,List.length_map,Array.length_toList,hp]
  refine wpAny_bind (seqEpoch_at ho6 rfl ?_)
  rw [hout]
  refine wpAny_bind (listUpdate_at ho6 rfl ?_ (hsz2:=by rw [hsz3,sizeLine_eq];omega))
  rw [hf]
  simp only [bne_self_eq_false,Bool.false_eq_true,if_false]
  exact wpAny_pure (h p.toList hres)
theorem av7 {l:Addr} {vs:List Value} {ts:List (List Int)} {Q:Value->Shared->Prop} (hl:s.heap.IsList l vs.toArray) (ht:Paired (o2 s.heap) vs ts) (h64:vs.length<64)
 (h:∀p,R0 ts vs.length p->Q (.ref (s.heap.objs.size+1)) { s with heap:=sortedAll s.heap vs (List.toArray (p.map λi=>vs.getD i Value.none)) }) :
 wpAny (model prog w) A (call (.builtin "sorted") [.ref l]) Q E s:=by
 refine Calls.call_function_entry kind_sorted plain_sorted entry_sorted (args_sorted1 _) ?_
 unfold Builtin.«sorted»
 refine wpAny_bind (m:=checkCount "sorted" 1 1 _) (wpAny_pure ?_)
 refine wpAny_bind (collect_list hl ?_)
 refine wpAny_bind (wpAny_newList ?_)
 have hsz:((s.heap.push (seqObj "list" #[] 0)).update s.heap.objs.size (Obj.mapSeq (·++vs.toArray))).objs.size=s.heap.objs.size+1:=by
  rw [Heap.size_update,size_push']
 have hoL:(((s.heap.push (seqObj "list" #[] 0)).update s.heap.objs.size (Obj.mapSeq (·++vs.toArray))).push (seqObj "list" vs.toArray 0)).get? (s.heap.objs.size+1)=some (seqObj "list" vs.toArray 0):=by
  rw [←hsz];exact Heap.get?_push_size _ rfl
 show wpAny _ _ _ _ _ { s with heap:=((s.heap.push (seqObj "list" #[] 0)).update s.heap.objs.size (Obj.mapSeq (·++vs.toArray))).push (seqObj "list" vs.toArray 0) }
 rw [hsz]
 have keep:∀b o,s.heap.get? b=some o->(((s.heap.push (seqObj "list" #[] 0)).update s.heap.objs.size (Obj.mapSeq (·++vs.toArray))).push (seqObj "list" vs.toArray 0)).get? b=some o:=λb o q=>by
  have hlt:b<s.heap.objs.size:=Heap.lt_size q
  rw [Heap.get?_push_ne _ _ _ (by rw [hsz];exact Nat.ne_of_lt (Nat.lt_succ_of_lt hlt)),Heap.get?_update_ne _ _ _ _ (Nat.ne_of_lt hlt),Heap.get?_push_ne _ _ _ (Nat.ne_of_lt hlt)]
  exact q
 refine wpAny_bind (wpAny_holding (wpAny_call_entry slot_list_sort ⟨_,hoL,rfl⟩ entry_list_sort (b7 hoL (L2.Paired.mapP ht λv t ⟨b,o,its,k,e,q,r⟩=>⟨b,o,its,k,e,keep b o q,r⟩) h64 λp hp=>⟨_,rfl,?_⟩) (args_list_sort _)))
 exact wpAny_pure ⟨_,rfl,h p hp⟩
end
section
variable {X:L2.Cx} {cm:Nat->Addr}
def be6 (K:PySem.W.Frag):List L2.V->L2.Hp->L2.VK->Prop:=λvs H Q=>∃a ns,vs=[.ref a]/\L2.SqL K H a (ns.map L2.V.int)/\ns.length<64/\∀l,H l=none->Q (.ref l) (L2.upd H l (.lst ((G6 ltI ns).map L2.V.int)))
theorem call_sortI:L2.CallR X (.builtin "sorted") (be6 X.K):=by
 intro pins s σ H xs us Q I r h
 obtain⟨a,ns,rfl,hq,h64,q⟩:=h
 obtain⟨u,rfl,rx⟩:=L2.g7 r
 cases rx
 obtain⟨its,ri,pl,hz⟩:=I.list hq
 have hI:IntsAre its ns:=L2.S8 ri
 have hl:its.length=ns.length:=hI.length
 refine sorted_ints pl.isList hI (by omega) λout ns' h1 h2 h3=>?_
 have e:ns'=G6 ltI ns:=t4 (h2.trans (N4 _ _).symm) h3 (m7 ns)
 subst e
 obtain⟨c,hat⟩:=sortedAll_at s.heap its out
 have hlen:(G6 ltI ns).length=ns.length:=(N4 _ _).length_eq
 refine⟨.ref (s.heap.objs.size+1),_,I.laid (t':=s.toks) (a:=s.heap.objs.size+1) (o:=.lst ((G6 ltI ns).map L2.V.int)) (λb o e=>sortedAll_old e) (Nat.le_succ _) ?_,rfl,q _ (I.hok.fresh (Nat.le_succ _))⟩
 refine⟨by rw [List.length_map,hlen,sizeLine_eq];omega,out.toList,c,L2.d6 h1,?_⟩
 rw [Array.toArray_toList];exact hat
def TupV (H:L2.Hp) (x:L2.V) (t:List Int):Prop:=∃b,x=.ref b/\H b=some (.tup (t.map L2.V.int))/\t≠[]
def be7 (K:PySem.W.Frag):List L2.V->L2.Hp->L2.VK->Prop:=λvs H Q=>∃a xs ts,vs=[.ref a]/\L2.SqL K H a xs/\Paired (TupV H) xs ts/\xs.length<64/\∀l p,R0 ts xs.length p->H l=none->Q (.ref l) (L2.upd H l (.lst (p.map λi=>xs.getD i .non)))
theorem ar5 {pins:List (Addr×Obj)} {σ:L2.St} {H:L2.Hp} {s:Shared} (I:L2.Inv X pins σ H s):∀{xs:List L2.V} {its:List Value} {ts:List (List Int)},L2.Vals xs its->Paired (TupV H) xs ts->Paired (o2 s.heap) its ts
 | _,_,_,.nil,.nil=>.nil
 | _,_,_,.cons r t,.cons h k=>by
   refine .cons ?_ (ar5 I t k)
   obtain⟨b,rfl,hb,hne⟩:=h
   cases r
   obtain⟨_,vals,rv,ob,ho,hc,n,hd⟩:=I.hok b _ hb
   exact⟨b,ob,vals.toArray,n,rfl,ho,hc,hd,by simpa using L2.S8 rv,hne⟩
theorem u8 {xs:List L2.V} {its:List Value} (r:L2.Vals xs its):∀p:List Nat,(∀i∈p,i<xs.length)->L2.Vals (p.map λi=>xs.getD i .non) (p.map λi=>its.getD i .none)
 | [],_=>.nil
 | i::p,h=>by
   have hi:=h i List.mem_cons_self
   obtain⟨u,hu,ru⟩:=r.get (i:=i) (x:=xs[i]) (by simp [hi])
   refine .cons ?_ (u8 r p λj hj=>h j (List.mem_cons_of_mem _ hj))
   have e1:xs.getD i .non=xs[i]:=by simp [hi]
   have e2:its.getD i .none=u:=by rw [List.getD_eq_getElem?_getD,hu];rfl
   show L2.RelV (xs.getD i .non) (its.getD i .none)
   rw [e1,e2];exact ru
theorem aC0:L2.CallR X (.builtin "sorted") (be7 X.K):=by
 intro pins s σ H xs us Q I r h
 obtain⟨a,ys,ts,rfl,hq,ht,h64,q⟩:=h
 obtain⟨u,rfl,rx⟩:=L2.g7 r
 cases rx
 obtain⟨its,ri,pl,hz⟩:=I.list hq
 have hl:ys.length=its.length:=ri.length
 refine av7 pl.isList (ar5 I ri ht) (by omega) λp hp=>?_
 have hp':R0 ts ys.length p:=by rw [hl];exact hp
 obtain⟨c,hat⟩:=sortedAll_at s.heap its (List.toArray (p.map λi=>its.getD i Value.none))
 have hpl:p.length=ys.length:=by rw [hp'.1.length_eq];simp
 refine⟨.ref (s.heap.objs.size+1),_,I.laid (t':=s.toks) (a:=s.heap.objs.size+1) (o:=.lst (p.map λi=>ys.getD i .non)) (λb o e=>sortedAll_old e) (Nat.le_succ _) ?_,rfl,q _ p hp' (I.hok.fresh (Nat.le_succ _))⟩
 refine⟨by rw [List.length_map,hpl,sizeLine_eq];omega,p.map λi=>its.getD i Value.none,c,u8 ri p λi hi=>?_,hat⟩
 have:=hp'.1.mem_iff.mp hi
 simpa using this
theorem Q6:∀{l:List PV} {ns:List Int},L6 l=some ns->l=ns.map .int
 | [],ns,h=>by simp [L6] at h;subst h;rfl
 | x::r,ns,h=>by
   cases x with
   | int i=>
     simp only [L6,Option.map_eq_some_iff] at h
     obtain⟨m,h1,rfl⟩:=h
     rw [Q6 h1];rfl
   | _=>simp [L6] at h
theorem af0:∀{l:List PV} {ts:List (List Int)},T0 l=some ts->l=ts.map (λt=>PV.tup (t.map .int))/\∀t∈ts,t≠[]
 | [],ts,h=>by simp [T0] at h;subst h;simp
 | x::r,ts,h=>by
   cases x with
   | tup m=>
     cases m with
     | nil=>simp [T0] at h
     | cons y ys=>
       unfold T0 at h
       rcases e1:L6 (y::ys) with _ | z
       ·rw [e1] at h;cases h
       ·rcases e2:T0 r with _ | zs
        ·rw [e1,e2] at h;cases h
        ·rw [e1,e2] at h
         cases h
         obtain⟨a,b⟩:=af0 e2
         have e3:=Q6 e1
         refine⟨by rw [a,e3];rfl,λt ht=>?_⟩
         rcases List.mem_cons.mp ht with rfl | ht
         ·rintro rfl;simp at e3
         ·exact b t ht
   | _=>simp [T0] at h
theorem RVs.ints_inv {ρ:List Addr} {H:L2.Hp}:∀{ns:List Int} {xs:List L2.V},RVs ρ H (ns.map .int) xs->xs=ns.map L2.V.int
 | [],_,h=>by cases h;rfl
 | i::ns,_,h=>by cases h with | cons h r=>cases h;rw [RVs.ints_inv r];rfl
theorem aG3 {ρ:List Addr} {H:L2.Hp}:∀{ts:List (List Int)} {xs:List L2.V},RVs ρ H (ts.map λt=>PV.tup (t.map .int)) xs->(∀t∈ts,t≠[])->Paired (TupV H) xs ts
 | [],_,h,_=>by cases h;exact .nil
 | t::ts,_,h,hne=>by
   cases h with
   | cons h r=>
     cases h with
     | tup ha rt=>
       rw [RVs.ints_inv rt] at ha
       exact .cons ⟨_,rfl,ha,hne t List.mem_cons_self⟩ (aG3 r λu hu=>hne u (List.mem_cons_of_mem _ hu))
theorem af1 {ρ:List Addr} {H:L2.Hp} {l:List PV} {xs:List L2.V} (r:RVs ρ H l xs):∀p:List Nat,(∀i∈p,i<l.length)->RVs ρ H (p.map λi=>l.getD i .non) (p.map λi=>xs.getD i .non)
 | [],_=>.nil
 | i::p,h=>by
   have hi:=h i List.mem_cons_self
   obtain⟨u,hu,ru⟩:=r.get (i:=i) (x:=l[i]) (by simp [hi])
   refine .cons ?_ (af1 r p λj hj=>h j (List.mem_cons_of_mem _ hj))
   have e1:l.getD i .non=l[i]:=by simp [hi]
   have e2:xs.getD i .non=u:=by rw [List.getD_eq_getElem?_getD,hu];rfl
   show RV ρ H (l.getD i .non) (xs.getD i .non)
   rw [e1,e2];exact ru
theorem am3 {α:Type} (ts:List α) (d:α) {p:List Nat} (hp:p.Perm (List.range ts.length)):(p.map λi=>ts.getD i d).Perm ts:=by
 refine (hp.map _).trans ?_
 have:(List.range ts.length).map (λi=>ts.getD i d)=ts:=by
  apply List.ext_getElem
  ·simp
  ·intro i h1 h2;simp [h2]
 rw [this]
theorem af2 {e:Expr} {d:ED} {p pos:Pos} (hr:X.A.units+64<cLine) (he:L2.PE X e (EvE X.K cm d)) (hg:L2.Gl X "sorted") (hm:X.mg "sorted" = none) (hs:starEach [e] X.env=(false,eval e X.env)::starEach [] X.env:=by exact G0 rfl):L2.PE X (.Call (.Name "sorted" p) [e] [] pos) (EvE X.K cm (m3 d)):=
 D7 (L2.V5 (call_sortI.or aC0) hg hm PyProof.Rows.boot_sorted (r_cons he r_nil hs) (he:=hs)) λσ H Q h=>a8 (f:=λx=>match x with | .ref n=>bnd (E7 n) λl=>bnd (U4 l) λm=>alloc (.lst m) | _=>stuck) (λ_=>rfl) (λρ A H x z A' v Q rl rx ev k=>by
  cases x with
  | ref n=>
    obtain⟨l,A1,e1,ev1⟩:=B0 ev
    obtain⟨rfl,a,xs,rfl,hq,r⟩:=L7 rl rx e1
    obtain⟨m,A2,e2,ev2⟩:=B0 ev1
    obtain⟨h64,e3⟩:=C7 e2
    rcases hi:L6 l with _ | ns
    ·rcases ht:T0 l with _ | ts
     ·rw [hi,ht] at e3;cases e3
     ·rw [hi,ht] at e3
      cases e3
      cases ev2
      obtain⟨rfl,hne⟩:=af0 ht
      have hl:xs.length=ts.length:=by rw [←r.length];simp
      refine .inr ⟨a,xs,ts,rfl,hq,aG3 r hne,by rw [←r.length];exact h64,λD p hp hD=>?_⟩
      rw [hl] at hp
      have es:(p.map λi=>ts.getD i [])=G6 G3 ts:=t5 (lt:=G3) aa6 ((am3 ts [] hp.1).trans (N4 _ _).symm) hp.2 (ac9 ts)
      have hlt:∀i∈p,i<ts.length:=λi hi=>by simpa using hp.1.mem_iff.mp hi
      have ep:(G6 G3 ts).map (λt=>PV.tup (t.map .int))=p.map λi=>(ts.map λt=>PV.tup (t.map .int)).getD i .non:=by
       rw [←es,List.map_map]
       refine List.map_congr_left λi hi=>?_
       have:=hlt i hi
       simp [this]
      have ex:Ext ρ H (ρ++[D]) (L2.upd H D (.lst (p.map λi=>xs.getD i .non))):=Ext.new hD
      refine k (ρ++[D]) _ _ ex (rl.alloc hD ⟨_,L2.D2,?_⟩ rfl) (.ref (by rw [←rl.len];simp))
      rw [ep]
      exact (af1 r p λi hi=>by rw [List.length_map];exact hlt i hi).mono ex
    ·rw [hi] at e3
     cases e3
     cases ev2
     have hl:=Q6 hi
     subst hl
     have hx:=RVs.ints_inv r
     subst hx
     refine .inl ⟨a,ns,rfl,hq,by simpa using h64,λD hD=>?_⟩
     have ex:Ext ρ H (ρ++[D]) (L2.upd H D (.lst ((G6 ltI ns).map L2.V.int))):=Ext.new hD
     exact k (ρ++[D]) _ _ ex (rl.alloc hD ⟨_,L2.D2,RVs.ints _⟩ rfl) (.ref (by rw [←rl.len];simp))
  | _=>cases ev) h
end
end Ws
namespace Ws
open PySem
theorem a27 (K:PySem.W.Frag):Kit K:=⟨λa b ha hb=>by
 simp only [List.mem_cons,List.not_mem_nil,or_false] at ha hb
 rcases ha with rfl | rfl | rfl | rfl | rfl | rfl <;> rcases hb with rfl | rfl | rfl | rfl <;> with_unfolding_all rfl⟩
def j6 (s:SD):Prop:=∀σ A v A',s σ A≠.ok (.rt v) A'
theorem K4 {a b:SD} (ha:j6 a) (hb:j6 b):j6 (D5 a b):=λσ A v A' h=>by
 obtain⟨o,A1,e1,e2⟩:=B0 h
 cases o with
 | nx σ1=>exact hb _ _ _ _ e2
 | rt u=>exact ha _ _ _ _ e1
 | bk σ1=>cases e2
 | ct σ1=>cases e2
theorem ar6 {t:TD} {a b:SD} (ha:j6 a) (hb:j6 b):j6 (sIf t a b):=λσ A v A' h=>by
 obtain⟨c,A1,e1,e2⟩:=B0 h
 cases c with
 | true=>rw [if_pos rfl] at e2;exact ha _ _ _ _ e2
 | false=>rw [if_neg (by simp)] at e2;exact hb _ _ _ _ e2
theorem o3:j6 sPass:=λσ A v A' h=>by cases h
theorem d9:j6 sNever:=λσ A v A' h=>by cases h
theorem aG4 {e:ED} {g:GD}:j6 (N2 e g):=λσ A v A' h=>by
 obtain⟨x,A1,e1,e2⟩:=B0 h
 obtain⟨y,A2,e3,e4⟩:=B0 e2
 cases e4
theorem N1 {a e:ED} {f:Nat}:j6 (sFld a f e):=λσ A v A' h=>by
 obtain⟨x,A1,e1,e2⟩:=B0 h
 obtain⟨y,A2,e3,e4⟩:=B0 e2
 cases y with
 | ref n=>
   obtain⟨o,A3,e5,e6⟩:=B0 e4
   obtain⟨_,e7⟩:=C7 e6
   cases e7
 | _=>cases e4
theorem aC1 {n p:Nat} {s:SD} (hs:j6 s) {vs:List PV} {A A':PHp} {v:PV} (h:fn n p s vs A=.ok v A'):v=.non:=by
 obtain⟨_,h1⟩:=C7 h
 obtain⟨o,A1,e1,e2⟩:=B0 h1
 cases o with
 | nx σ1=>cases e2;rfl
 | rt u=>exact absurd e1 (hs _ _ _ _)
 | bk σ1=>cases e2
 | ct σ1=>cases e2
def aT7 (K:PySem.W.Frag):L2.Sp:=λvs H Q _=>∃(a:Addr) (ns:List Int),vs=[.ref a]/\L2.SqL K H a (ns.map L2.V.int)/\ns.length<=63/\L2.bc7 H/\∀H',Q (.bl true) H'
theorem be8 {K:PySem.W.Frag} {cm:Nat->Addr} {f:Fun} (h:∀ns:List Int,∃A',f [.ref 0] [.ro (ns.map .int)]=.ok (.bl true) A') (vs:List L2.V) (H:L2.Hp) (Q:L2.VK) (E:L2.XK) (q:aT7 K vs H Q E):SpF K cm f 1 vs H Q E:=by
 obtain⟨a,ns,rfl,hS,_,hO,k⟩:=q
 obtain⟨A',e⟩:=h ns
 have fz:Fz K H a (ns.map L2.V.int):=by
  rcases hS with (hS | hS) | hS
  ·rcases hO a with z | ⟨o,xs,z⟩ <;> (rw [hS] at z;cases z)
  ·exact .inl hS
  ·exact .inr hS
 refine⟨[a],[.ro (ns.map .int)],[.ref 0],.bl true,A',⟨rfl,λn o b h1 h2=>?_,λm n b o p h1 h2 h3 h4 m1 m2=>?_⟩,.cons (.ref rfl) .nil,rfl,e,λρ' H' v' _ _ rv=>by cases rv;exact k H'⟩
 ·cases n with
  | zero=>simp at h1 h2;subst h1;subst h2;exact⟨_,fz,RVs.ints ns⟩
  | succ n=>simp at h1
 ·cases m with
  | zero=>cases n with
    | zero=>rfl
    | succ n=>simp at h4
  | succ m=>simp at h3
end Ws
namespace Ws
open PySem PySem.W
def a28 (ok:Thread->Bool) (stp:SharedT->Thread->Option (SharedT×Thread)) (n:Nat):SharedT->Thread->Option SharedT:=
 @Nat.rec (λ_=>SharedT->Thread->Option SharedT) (λ_ _=>none)
  (λ_ ih s t=>@Bool.rec (λ_=>Option SharedT) (@Bool.rec (λ_=>Option SharedT) none (@Option.rec _ (λ_=>Option SharedT) none (λr=>ih r.1 r.2) (stp s t)) (ok t)) (some s) (through t)) n
theorem a29 {tb:String->Option Builtin} {p:Program} {w:World} {m:Nat} {an:Option Value}:∀(n:Nat) (S:SharedT) (t:Thread) (R:SharedT),
 a28 (stepOk m an) (stepT (denote tb) p w) n S t=some R->topRun tb p w m an n S.abs t=some R.abs:=by
 intro n
 induction n with
 | zero=>intro S t R h;cases h
 | succ n ih=>
   intro S t R h
   unfold topRun
   have h':@Bool.rec (λ_=>Option SharedT) (@Bool.rec (λ_=>Option SharedT) none (@Option.rec _ (λ_=>Option SharedT) none (λr=>a28 (stepOk m an) (stepT (denote tb) p w) n r.1 r.2) (stepT (denote tb) p w S t)) (stepOk m an t)) (some S) (through t)=some R:=h
   cases a:through t with
   | true=>rw [a] at h';cases h';rfl
   | false=>
     rw [a] at h'
     cases b:stepOk m an t with
     | false=>rw [b] at h';cases h'
     | true=>
       rw [b] at h'
       cases c:stepT (denote tb) p w S t with
       | none=>rw [c] at h';cases h'
       | some r=>
         rw [c] at h'
         obtain⟨S1,t1⟩:=r
         show (match step (denote tb) p w S.abs t with | .go s' t'=>topRun tb p w m an n s' t' | .halt _ _=>none)=_
         rw [stepT_spec c]
         exact ih S1 t1 R h'
def aT8:List Obj->Nat->BT->BT
 | [],_,t=>t
 | o::r,n,t=>aT8 r (n+1) (t.ins n o)
def aT9 (w:World) (os:OsState):SharedT:=⟨aT8 (boot_heap w.params).objs.toList 0 .nil,11,(boot_heap w.params).life,#[],boot_drawn,boot_toks,os⟩
theorem aU0 (w:World) (os:OsState):(aT9 w os).abs=⟨boot_heap w.params,#[],boot_drawn,boot_toks,os⟩:=by kernel_rfl
theorem a30 (P:Params):((boot_heap P).isNs mainGlobals,(boot_heap P).objs.size,(boot_heap P).nsMap mainGlobals "__annotations__")=(true,11,some (.ref 6)):=by kernel_rfl
def av8 (h:Heap):Frag:=(List.range h.objs.size).filterMap λa=>(h.get? a).map λo=>(a,o)
def av9 (S:SharedT):Frag:=(List.range S.n).filterMap λa=>(alive ((S.tree.get a).getD default)).map λo=>(a,o)
theorem u9 {h:Heap}:∀(l:List Nat) {a:Addr} {o:Obj},(l.filterMap λa=>(h.get? a).map λo=>(a,o)).lookup a=some o->h.get? a=some o
 | [],_,_,e=>by cases e
 | b::l,a,o,e=>by
   rw [List.filterMap_cons] at e
   cases q:h.get? b with
   | none=>rw [q] at e;exact u9 l e
   | some x=>
     rw [q] at e
     change ((b,x)::_).lookup a=some o at e
     rw [List.lookup_cons] at e
     by_cases z:(a == b)=true
     ·rw [z] at e;cases e;rw [beq_iff_eq.mp z];exact q
     ·have z':(a == b)=false:=by simpa using z
      rw [z'] at e;exact u9 l e
theorem a31 (h:Heap):(av8 h).In h:=λa o e=>u9 _ e
theorem aU1 (S:SharedT):av8 S.abs.heap=av9 S:=by
 have hs:S.abs.heap.objs.size=S.n:=absHeap_size ..
 unfold av8 av9
 rw [hs]
 have key:∀l:List Nat,(∀a∈l,a<S.n)->(l.filterMap λa=>(S.abs.heap.get? a).map λo=>(a,o))=l.filterMap λa=>(alive ((S.tree.get a).getD default)).map λo=>(a,o):=by
  intro l
  induction l with
  | nil=>intro _;rfl
  | cons a l ih=>
    intro h
    have ha:S.abs.heap.get? a=alive ((S.tree.get a).getD default):=by
     show (absHeap S.tree S.n S.life).get? a=_
     unfold Heap.get?
     rw [absHeap_at,if_pos (h a (.head _))]
     cases (S.tree.get a).getD default with
     | mk c d dt sl=>cases dt <;> rfl
    rw [List.filterMap_cons,List.filterMap_cons,ha,ih λb hb=>h b (.tail _ hb)]
 exact key _ λa ha=>List.mem_range.mp ha
def Kw (p:Program) (N:Nat) (w:World):Frag:=match openEnds treeTable p w N with
 | some s=>av8 s.heap
 | none=>[]
def lk {α:Type} (sn:Program->List Str->List Str->(Shared->Bool)->Bool->Shared->α) (p q:Program) (loose:List Str) (Xt:Shared->Bool) (w:World) (s:Shared):Bool×α:=
 (staticsOk (importedModules p.main.body) (boot_heap w.params) s.heap&&namesBound p s.heap&&gensDone s&&laidKept (boot_heap w.params) s.heap,sn q loose (importedModules p.main.body) Xt true s)
theorem a32 {p p':Program} {q:Program->Program} {loose:List Str} {Xt:Program->Shared->Bool} {N:Nat} {β:Type} {ob:Frag->β} {va:Program->β}
 {ok:Nat->Option Value->Thread->Bool} {st:(Code->Sem Fin)->Program->World->SharedT->Thread->Option (SharedT×Thread)} {dn:(String->Option Builtin)->Code->Sem Fin} {tb:String->Option Builtin}
 {sn:Program->List Str->List Str->(Shared->Bool)->Bool->Shared->_}
 (hp:p=p') (hok:stepOk=ok) (hst:stepT=st) (hdn:denote=dn) (htb:treeTable=tb) (hsn:openSeen=sn)
 (op:∀w:World,(fencedOpening treeTable p w N).map (λs=>(s.heap,s.gens,s.drawn,s.toks))=some (boot_heap w.params,#[],boot_drawn,boot_toks))
 (ck:∀(w:World) (os:OsState),(a28 (ok 11 (some (.ref 6))) (st (dn tb) p' w) N (aT9 w os) (topStub p')).map (λS=>(lk sn p' (q p') loose (Xt p') w S.abs,ob (av9 S)))=some ((true,openGood (q p') loose),va p')) :
 LeftO p (q p) loose (Xt p) (λs=>av8 s.heap) (Kw p N) N/\∀w,ob (Kw p N w)=va p:=by
 subst hp hok hst hdn htb hsn
 have key:∀w,∃s,openEnds treeTable p w N=some s/\openSeen (q p) loose (importedModules p.main.body) (Xt p) true s=openGood (q p) loose/\ob (av8 s.heap)=va p:=by
  intro w
  obtain⟨⟨h,gs,d,k,os⟩,e,e'⟩:=Option.map_eq_some_iff.mp (op w)
  simp only [Prod.mk.injEq] at e'
  obtain⟨rfl,rfl,rfl,rfl⟩:=e'
  obtain⟨S,r,c⟩:=Option.map_eq_some_iff.mp (ck w os)
  simp only [lk,Prod.mk.injEq] at c
  obtain⟨⟨c1,c2⟩,c3⟩:=c
  have r1:=a29 N _ _ _ r
  rw [aU0] at r1
  have b:=a30 w.params
  simp only [Prod.mk.injEq] at b
  obtain⟨b1,b2,b3⟩:=b
  refine⟨S.abs,?_,c2,by rw [aU1];exact c3⟩
  unfold openEnds
  rw [e]
  show topFrom treeTable p w N _=_
  unfold topFrom
  dsimp only
  rw [b1,b2,b3,r1]
  show (match staticsOk (importedModules p.main.body) (boot_heap w.params) S.abs.heap&&namesBound p S.abs.heap&&gensDone S.abs&&laidKept (boot_heap w.params) S.abs.heap with | true=>some S.abs | false=>none)=_
  rw [c1]
 refine⟨λw=>?_,λw=>?_⟩
 ·obtain⟨s,e,c2,_⟩:=key w
  rw [e]
  show some _=some _
  unfold Kw
  rw [e]
  exact congrArg some (Prod.ext c2 rfl)
 ·obtain⟨s,e,_,c3⟩:=key w
  unfold Kw
  rw [e]
  exact c3
def bk9:Stmt->Pos
 | .FunctionDef _ _ _ _ _ _ _ _ _ p=>p
 | _=>⟨0,0,0,0⟩
theorem aU2 {l:OpenLaw} {q:Program} {loose:List Str} {N:Nat} {d:DefRec}
 (left:LeftO l.row.prog q loose (λs=>xlAt q [] s&&recOk (RowW.records l.row.toRowW) s) (λs=>av8 s.heap) (Kw l.row.prog N) N)
 (hdef:defOf q l.row.name=some (d,[])) (hp:l.row.prog.theDef l.row.name=some (d.params,d.body,d.scope)) (hk:kwWritten? d.params.kwonlyargs d.params.kw_defaults=some [])
 (hwr:(!l.row.writes||l.row.records.isEmpty)=true) (k1:l.row.wellSaid=true) (ok:(chainsOk q&&opensWell l.row.prog&&(frees l.row.toRowW&&l.row.within.isEmpty))=true) (hb:l.row.prog.bare) (hw:l.row.toRowW.promised)
 (call:WalkO q loose (XL q []) (λw h=>(Kw l.row.prog N w).In h) l.row.toRowW d [] λf vs=>PySem.call f vs):l.row.Holds:=
 holds_open left (λw s e=>by rw [←e];exact a31 _) (λw h h' x k=>x.keeps k) (λs e=>xl_of s (Bool.and_eq_true_iff.mp e).1) XL.keeps hdef hp hk (λs e=>recFacts_of (Bool.and_eq_true_iff.mp e).2) hwr k1 ok hb hw call
theorem p1 {α β:Type} {a a':α} {b b':β} (h:(a,b)=(a',b')):a=a':=(Prod.mk.inj h).1
end Ws
namespace Ws
open PySem
theorem aL2 {l:PySem.W.OpenLaw} {q:Program} {loose:List Str} {XP:(Str->Option Value)->Heap->Prop} {YP:World->Heap->Prop} {d:DefRec} {K:World->PySem.W.Frag} {k:Nat} {x:Str} (hn:l.most=some 63) (hdf:d.params.defaults=[]) (hr:L2.Room k PySem.callerA)
 (hY:∀(w:World) (h:Heap),YP w h->(K w).In h)
 (F:∀(w:World) (mg:Str->Option Value) (fa:Addr) (h:Heap),(K w).In h->h.Ns mainGlobals mg->mg d.name=some (.ref fa)->
  ∃fd:FuncData,(∀(s:Shared) (u:Value),BindsTo s fd ⟨[u],[]⟩ [(x,u)])/\∀base:Heap,(K w).In base->base.Ns mainGlobals mg->L2.FnOk l.prog w (K w) mg base L2.CX0 k fa fd [x] (aT7 (K w))) :
 PySem.W.WalkO q loose XP YP l.row.toRowW d [] (λf vs=>PySem.call f vs):=by
 refine Att.au3 hn hdf λw s₀ s₁ mg mb fa o pm cd doc a vs ns G Y ho hd hcd hmg hobj hints hlen hg=>?_
 obtain⟨fd,hb,hF⟩:=F w mg fa _ (hY w _ Y) G.T.g hmg
 exact L2.aQ9 (hY w _ Y) G.T.g G.T.b G.T.builtins G.T.nolimit hg hobj hints (Nat.le_trans hlen (by decide)) hr hF hb (λH hO hS=>⟨a,ns,rfl,hS,hlen,hO,λ_=>rfl⟩) λH e s' z=>z
end Ws
open PySem PySem.Spec PyProof.Rows
namespace Ws
end Ws
namespace Ws
open PySem
section
variable {ρ:List Addr} {H:L2.Hp} {K:PySem.W.Frag} {A:PHp} {n:Nat} {v:L2.V}
theorem Pairs.cons_inv {κ κ':Type} {f:κ->κ'} {p:κ×PV} {r:List (κ×PV)} {kv:List (κ'×L2.V)} (h:Pairs f ρ H (p::r) kv):∃u kv',kv=(f p.1,u)::kv'/\RV ρ H p.2 u/\Pairs f ρ H r kv':=by
 obtain⟨k,v⟩:=h
 cases kv with
 | nil=>cases k
 | cons q t=>
   obtain⟨g,u⟩:=q
   simp only [List.map_cons,List.cons.injEq] at k
   cases v with
   | cons hv hr=>exact⟨u,t,by rw [←k.1],hv,k.2,hr⟩
theorem Pairs.nil_inv {κ κ':Type} {f:κ->κ'} {kv:List (κ'×L2.V)} (h:Pairs f ρ H [] kv):kv=[]:=by
 obtain⟨k,v⟩:=h
 cases kv with
 | nil=>rfl
 | cons q t=>cases k
theorem Pairs.cons' {κ κ':Type} {f:κ->κ'} {p:κ×PV} {u:L2.V} {r:List (κ×PV)} {kv:List (κ'×L2.V)} (h:RV ρ H p.2 u) (t:Pairs f ρ H r kv):Pairs f ρ H (p::r) ((f p.1,u)::kv):=
 ⟨by rw [List.map_cons,List.map_cons,t.keys],.cons h t.vals⟩
end
end Ws
namespace Ws
open PySem PySem.W PyProof.Rows
section
variable {X:L2.Cx} {cm:Nat->Addr}
theorem af3:∀{ns:List Int} {us:List Value},us.length=ns.length->(∀(j:Nat) (u:Value),us[j]?=some u->∃i t,ns[j]?=some i/\u=Value.int i t)->L2.Vals (ns.map L2.V.int) us
 | [],[],_,_=>.nil
 | i::ns,u::us,hl,h=>by
   obtain⟨j,t,e1,e2⟩:=h 0 u rfl
   cases e1
   exact .cons ⟨t,e2⟩ (af3 (by simpa using hl) λj v hv=>h (j+1) v hv)
 | [],_::_,hl,_=>by cases hl
 | _::_,[],hl,_=>by cases hl
theorem X5 {M:Model} {A:Around} {E:Value->Shared->Prop} {s:Shared} {e:Expr} {env:Env} {pos:Pos} {Q:List Value->Shared->Prop} (hs:starEach [e] env=(false,eval e env)::starEach [] env) (h:wpAny M A (eval e env) (λu s1=>Q [u] s1) E s):wpAny M A (spliced (backTo pos (starEach [e] env))) Q E s:=by
 rw [hs]
 exact Calls.spliced_cons (L2.thn h λu s1 q=>Calls.spliced_nil q)
theorem be9 {σ:L2.St} {H:L2.Hp} {Q:List L2.V->L2.Hp->Prop} (h:EvA X.K cm aNil σ H Q):L2.tNil σ H Q:=by
 obtain⟨ρ,A,σp,vs,A',rl,rs,ev,k⟩:=h
 cases ev
 exact k ρ H [] (Ext.refl _ _) rl .nil
theorem r_methD0 {c:Nat} {f:Fun} {n k k':Nat} {ps:List Str} {m:Str} {o:Expr} {d:ED} {apos pos:Pos} {pl:Sem Bool} (D:Y6 X.prog X.w X.K X.mg X.base cm c m k ps f n) (hk:k<=k') (hr:L2.Room k' X.A) (hc:L2.Cls X.K (cm c)) (ho:L2.PE X o (EvE X.K cm d)) (hnm:∀i,i<19->fnm i≠m)
 (ht:eval (.Call (.Attribute o m apos) [] [] pos) X.env=(do
  let ov ←eval o X.env
  standAt apos.atName
  let (f,first) ←holding [ov] (getMethod ov m pl)
  callWith pos f first (backTo pos (starEach [] X.env)) (backToKw pos (keywordEach [] X.env))):=by rfl) :
 L2.PE X (.Call (.Attribute o m apos) [] [] pos) (EvE X.K cm (O3 c f d aNil)):=by
 obtain⟨fa,fd,F,hm,hb⟩:=D.ex
 refine D7 (L2.aQ5 (pl:=pl) ho hc hm F (hr.mono hk) hb (dvs:=[]) .nil L2.aE6 ht) λσ H Q h=>?_
 obtain⟨ρ,A,σp,v,A',rl,rs,ev,k⟩:=aF3 (n:=n) D.len hnm h
 exact⟨ρ,A,σp,v,A',rl,rs,ev,λρ1 H1 v1 x1 rl1 rv1=>by
  obtain⟨a,dx,fs,h1,h2,h3,h4⟩:=k ρ1 H1 v1 x1 rl1 rv1
  exact⟨a,dx,fs,h1,h2,h3,be9 h4⟩⟩
end
structure FunD (K:PySem.W.Frag) (x qual:Str) (st:Stmt) (f:Addr) (fd:FuncData) (items:Array Value):Prop where
 ex:∃(T:Addr) (oc:Value) (od:Option Addr) (kV doc pm:Value) (an:Option Addr) (cdv ct:Value) (osl:Array (Option Value)) (tc:Value) (td:Option Addr) (tn:Nat) (ts:Array (Option Value)),
  fd=PySem.W.fnOf x qual (L2.C6 st) (L2.C5 st) (L2.B9 st) (.ref T) kV doc pm an cdv ct/\K.lookup f=some ⟨oc,od,.func fd,osl⟩/\PySem.W.codeIn K cdv qual=true/\K.lookup T=some ⟨tc,td,.seq items tn,ts⟩
 kp:PySem.W.keepIn K (.ref f)=true
section
variable {P:Program} {w:World} {K:PySem.W.Frag} {mg:Str->Option Value} {base:Heap} {cm:Nat->Addr}
theorem FunD.binds {x qual:Str} {st:Stmt} {f:Addr} {fd:FuncData} {items:Array Value} {ps:List Str} {ds:List Value} (F:FunD K x qual st f fd items) (n:Nat) (hn:n+ds.length=ps.length)
 (h:∀(T:Addr) (kV doc pm:Value) (an:Option Addr) (cdv ct:Value) (us:List Value),us.length=n->∃k,bindArgs (PySem.W.fnOf x qual (L2.C6 st) (L2.C5 st) (L2.B9 st) (.ref T) kV doc pm an cdv ct) ⟨us,[]⟩=(seqItems? (.ref T)>>=k)/\k (some items)=pure (ps.zip (us++ds))):L2.Binds K fd ps ds:=by
 obtain⟨T,oc,od,kV,doc,pm,an,cdv,ct,osl,tc,td,tn,ts,rfl,lk,hcd,lt⟩:=F.ex
 intro s us X hl
 obtain⟨k,h1,h2⟩:=h T kV doc pm an cdv ct us (by rw [List.length_append] at hl;omega)
 exact binds_K X rfl lt rfl h1 h2
theorem a33 {x qual:Str} {st:Stmt} {f T:Addr} {items:Array Value} {oc:Value} {od an:Option Addr} {osl:Array (Option Value)} {kV doc pm cdv ct:Value} {tc:Value} {td:Option Addr} {tn:Nat} {ts:Array (Option Value)}
 (l:K.lookup f=some ⟨oc,od,.func (PySem.W.fnOf x qual (L2.C6 st) (L2.C5 st) (L2.B9 st) (.ref T) kV doc pm an cdv ct),osl⟩) (c:PySem.W.codeIn K cdv qual=true) (k:PySem.W.keepIn K (.ref f)=true) (lt:K.lookup T=some ⟨tc,td,.seq items tn,ts⟩) :
 FunD K x qual st f (PySem.W.fnOf x qual (L2.C6 st) (L2.C5 st) (L2.B9 st) (.ref T) kV doc pm an cdv ct) items:=⟨⟨T,oc,od,kV,doc,pm,an,cdv,ct,osl,tc,td,tn,ts,rfl,l,c,lt⟩,k⟩
theorem bf0 {x qual:Str} {st:Stmt} {f:Addr} {fd:FuncData} {items:Array Value} {N ps:List Str} {k:Nat} {s:SD} (F:FunD K x qual st f fd items) (S:L2.C9 N ps (L2.B9 st))
 (hbody:∀(cdv:Value) (A:Around) (outer:List Env) (s0:Shared) (H:L2.Hp) (E:L2.XK),L2.Room k (A.deeper (PyProof.Rows.envOfC qual (L2.B9 st) s0.heap.objs.size f cdv))->
  L2.PSs (L2.aj6 L2.CX0 P w K mg base N qual (L2.B9 st) f cdv A outer s0 H E).nox (L2.C5 st) (EvS K cm s)) :
 L2.FnOk P w K mg base L2.CX0 (k+1) f fd ps (SpF K cm (fn N.length ps.length s) ps.length):=by
 obtain⟨T,oc,od,kV,doc,pm,an,cdv,ct,osl,tc,td,tn,ts,rfl,lk,hcd,lt⟩:=F.ex
 refine L2.a79 lk hcd S (λvs H Q E ⟨ρ,A,qs,v,A',rl,rv,hl,_,_⟩=>by rw [←rv.length];exact hl) λA outer s0 H vs Q E hr h=>⟨_,(hbody cdv A outer s0 H E hr).nox,?_⟩
 obtain⟨ρ,B,qs,v,B',rl,rv,hl,ev,k⟩:=h
 obtain⟨_,ev1⟩:=C7 ev
 obtain⟨o,B1,e1,ev2⟩:=B0 ev1
 refine⟨ρ,B,Ws.start N.length qs,o,B1,rl,RSt.start0 rv,e1,λρ1 H1 x1 rl1=>?_⟩
 cases o with
 | nx σ1=>cases ev2;exact λσ' _=>k ρ1 H1 _ x1 rl1 .non
 | rt u=>cases ev2;exact λv' rv'=>k ρ1 H1 v' x1 rl1 rv'
 | bk σ1=>cases ev2
 | ct σ1=>cases ev2
end
section
variable {X:L2.Cx} {cm:Nat->Addr}
theorem aG5:∀{bs:List Bool} {us:List Value},L2.Vals (bs.map L2.V.bl) us->∀(i:Nat) (v:Value),us[i]?=some v->∃b,bs[i]?=some b/\v=.bool b
 | [],_,.nil,i,v,h=>by simp at h
 | b::bs,_,.cons r t,0,v,h=>by
   cases r
   simp at h;subst h
   exact⟨b,rfl,rfl⟩
 | b::bs,_,.cons r t,i+1,v,h=>aG5 t i v (by simpa using h)
theorem aL3 (bs:List Bool):((List.range bs.length).all λi=>(bs[i]?).getD true)=bs.all id:=by
 induction bs with
 | nil=>rfl
 | cons b r ih=>
   rw [List.length_cons,List.range_succ_eq_map,List.all_cons,List.all_map,List.all_cons,←ih]
   rfl
def bo8 (K:PySem.W.Frag):List L2.V->L2.Hp->L2.VK->Prop:=λvs H Q=>∃(a:Addr) (bs:List Bool),vs=[.ref a]/\L2.SqL K H a (bs.map L2.V.bl)/\Q (.bl (bs.all id)) H
theorem aL4 (hcalm:X.calm=true):L2.CallR X (.builtin "all") (bo8 X.K):=by
 intro pins s σ H xs us Q I r h
 obtain⟨a,bs,rfl,hq,q⟩:=h
 obtain⟨u,rfl,rx⟩:=L2.g7 r
 cases rx
 obtain⟨its,ri,pl,hz⟩:=I.list hq
 have hil:=pl.isList
 have hal:a<s.heap.objs.size:=by
  obtain⟨_,e,_⟩:=hil
  exact Heap.lt_size e
 have hlen:its.length=bs.length:=by
  have:=ri.length
  simpa using this.symm
 refine call_all_walk (wpAny_pyIter_list hil ⟨s.heap.objs.size,[s.heap.objs.size,a],[s.heap.objs.size],its.toArray.size,_,_,λi=>(bs[i]?).getD true,rfl,
  Walks.list (A:=X.A.in1) (I.ok.hd hcalm) _ a (Nat.ne_of_lt hal) its.toArray,⟨⟨_,Heap.get?_push_size _ rfl,rfl,rfl⟩,hil.push _⟩,?_,?_⟩)
 ·intro i v s2 Q2 E2 hP hQ2
  obtain⟨b,e1,rfl⟩:=aG5 ri i v (by simpa using hP)
  have hQ3:Q2 ((bs[i]?).getD true) s2:=hQ2
  rw [e1] at hQ3
  exact wpAny_truthy_bool hQ3
 ·intro h2 tk hk
  have e1:its.toArray.size=bs.length:=by rw [List.size_toArray];exact hlen
  rw [e1,aL3]
  exact⟨.bl _,H,I.kept (t':=tk) (λb o e=>hk b o (λhm=>by rw [List.mem_singleton.mp hm] at e;exact absurd (Heap.lt_size e) (Nat.lt_irrefl _)) (Heap.get?_push_of_some _ e)),rfl,q⟩
theorem am4:∀{l:List PV} {bs:List Bool},i0 l=some bs->l=bs.map .bl
 | [],bs,h=>by simp [i0] at h;subst h;rfl
 | x::r,bs,h=>by
   cases x with
   | bl b=>
     simp only [i0,Option.map_eq_some_iff] at h
     obtain⟨m,h1,rfl⟩:=h
     rw [am4 h1];rfl
   | _=>simp [i0] at h
theorem aG6:∀{ρ:List Addr} {H:L2.Hp} {bs:List Bool} {xs:List L2.V},RVs ρ H (bs.map PV.bl) xs->xs=bs.map L2.V.bl
 | _,_,[],_,.nil=>rfl
 | _,_,b::bs,_,.cons h t=>by cases h;rw [aG6 t];rfl
theorem af4 {e:Expr} {d:ED} {p pos:Pos} (hcalm:X.calm=true) (he:L2.PE X e (EvE X.K cm d)) (hg:L2.Gl X "all") (hm:X.mg "all" = none) (hs:starEach [e] X.env=(false,eval e X.env)::starEach [] X.env:=by exact G0 rfl):L2.PE X (.Call (.Name "all" p) [e] [] pos) (EvE X.K cm (aq5 d)):=
 D7 (L2.V5 (aL4 hcalm) hg hm (by rfl) (r_cons he r_nil hs) (he:=hs)) λσ H Q h=>a8 (f:=λx=>match x with | .ref n=>bnd (E7 n) λl=>(match i0 l with | some bs=>ret (.bl (bs.all id)) | none=>stuck) | _=>stuck) (λ_=>rfl) (λρ A H x z A' v Q rl rx ev k=>by
  cases x with
  | ref n=>
    obtain⟨l,A1,e1,ev1⟩:=B0 ev
    obtain⟨rfl,a,xs,rfl,hq,hv⟩:=L7 rl rx e1
    cases hb:i0 l with
    | none=>rw [hb] at ev1;cases ev1
    | some bs=>
      rw [hb] at ev1
      cases ev1
      rw [am4 hb] at hv
      exact⟨a,bs,rfl,by rw [←aG6 hv];exact hq,k ρ H _ (Ext.refl _ _) rl (.bl _)⟩
  | _=>cases ev) h
theorem o4:∀{ρ:List Addr} {H:L2.Hp} {ns:List Int} {xs:List L2.V},RVs ρ H (ns.map PV.int) xs->xs=ns.map L2.V.int
 | _,_,[],_,.nil=>rfl
 | _,_,i::ns,_,.cons h t=>by cases h;rw [o4 t];rfl
theorem aw0 {i:Int} {j:Nat} {pos pos':Pos}:L2.PE X (.UnaryOp .USub (.Constant (.int i) j pos) pos') (EvE X.K cm (eK (.int (-i)))):=
 D7 (L2.bh9 L2.bb6 L2.aO8) λσ H Q ⟨ρ,A,σp,v,A',rl,rs,ev,k⟩=>by
  cases ev
  exact⟨i,rfl,k ρ H _ (Ext.refl _ _) rl (.int _)⟩
end
end Ws
namespace Ws
open PySem
end Ws
namespace Ws
open PySem PySem.W PyProof.Rows
section
variable {X:L2.Cx} {cm:Nat->Addr}
def a34 (K:PySem.W.Frag):List L2.V->L2.Hp->L2.VK->Prop:=λvs H Q=>∃(a:Addr) (xs:List L2.V),vs=[.ref a]/\L2.SqL K H a xs/\∀p,H p=none->Q (.ref p) (L2.upd H p (.tup xs))
theorem aw1:L2.CallR X (.type "tuple") (a34 X.K):=by
 intro pins s σ H xs us Q I r h
 obtain⟨a,ys,rfl,hq,q⟩:=h
 obtain⟨u,rfl,rx⟩:=L2.g7 r
 cases rx
 obtain⟨its,ri,pl,hz⟩:=I.list hq
 have hl:ys.length=its.length:=ri.length
 refine call_tuple_list pl.isList (λh' hk=>?_) (by rw [List.size_toArray,←hl];exact hz)
 have I1:=I.kept (t':=s.toks) hk
 exact⟨.ref h'.objs.size,_,I1.laid (t':=s.toks) (a:=h'.objs.size) (o:=.tup ys) (λb o e=>Heap.get?_push_of_some _ e) (Nat.le_refl _) ⟨hz,its,ri,_,Heap.get?_push_size _ rfl,rfl,_,rfl⟩,rfl,q _ (I1.hok.fresh (Nat.le_refl _))⟩
theorem am5 {e:Expr} {d:ED} {p pos:Pos} (he:L2.PE X e (EvE X.K cm d)) (hg:L2.Gl X "tuple") (hm:X.mg "tuple" = none) (hv:bootBuiltins "tuple" = some (.type "tuple")) (hs:starEach [e] X.env=(false,eval e X.env)::starEach [] X.env:=by exact G0 rfl):L2.PE X (.Call (.Name "tuple" p) [e] [] pos) (EvE X.K cm (m8 d)):=
 D7 (L2.d5 aw1 hg hm hv (r_cons he r_nil hs) (he:=hs)) λσ H Q h=>a8 (f:=λx=>match x with | .ref n=>bnd (E7 n) λl=>G5 (l.length<=LIM) (ret (.tup l)) | _=>stuck) (λ_=>rfl) (λρ A H x z A' v Q rl rx ev k=>by
  cases x with
  | ref n=>
    obtain⟨l,A1,e1,ev1⟩:=B0 ev
    obtain⟨rfl,a,xs,rfl,hq,hv⟩:=L7 rl rx e1
    obtain⟨c,ev2⟩:=C7 ev1
    cases ev2
    refine⟨a,xs,rfl,hq,λp hp=>?_⟩
    have ex:Ext ρ H ρ (L2.upd H p (.tup xs)):=Ext.same hp
    exact k ρ _ _ ex (rl.tup hp) (.tup L2.D2 (hv.mono ex))
  | _=>cases ev) h
end
section
variable {prog:Program} {w:World} {A:Around} {E:Value->Shared->Prop} {s:Shared}
theorem aU3 {it t:Addr} {i:Nat} {its:Array Value} {x:Value} {Q:Value->Shared->Prop} (hi:s.heap.IsTupleIter it t i) (ht:s.heap.IsTuple t its) (hx:its[i]?=some x)
 (hQ:∀h',h'.IsTupleIter it t (i+1)->Heap.SameBut it s.heap h'->Q x { s with heap:=h' }):wpAny (model prog w) A (Builtin.SmallTypes.nextOf (.ref it)) Q E s:=by
 obtain⟨o,ho,hc,hd⟩:=id hi
 obtain⟨ot,hot,_,nt,hdt⟩:=ht
 unfold Builtin.SmallTypes.nextOf
 refine wpAny_bind (wpAny_callSpecial?_slot (name:=Str.ofString "__next__") hi.typeIs F.slot_tuple_iterator_next (wpAny_call_entry F.slot_tuple_iterator_next hi.typeIs F.entry_tuple_iterator_next ?_ (F.args_tuple_iterator_next_1 _)))
 show wpAny _ _ (field (.ref it) 0>>=_) _ _ s
 refine wpAny_bind (wpAny_field ho hd (x:=.ref t) rfl ?_)
 show wpAny _ _ (if (Value.ref t == Value.none)=true then _ else _) _ _ s
 rw [if_neg (show ¬((Value.ref t == Value.none)=true) from Bool.false_ne_true)]
 show wpAny _ _ (field (.ref it) 1>>=_) _ _ s
 refine wpAny_bind (wpAny_field ho hd (x:=.int i 0) rfl ?_)
 show wpAny _ _ (seqItems? (.ref t)>>=_) _ _ s
 refine wpAny_bind (wpAny_seqItems hot hdt ?_)
 simp only [Int.toNat_natCast,hx]
 refine wpAny_bind (wpAny_setField ho hd (by simp) (wpAny_pure ⟨x,rfl,wpAny_pure (hQ _ ⟨_,Heap.get?_update_self _ ho (Obj.isFreed_of_fields (Obj.data_mapFields hd _)),(Obj.cls_mapFields ..).trans hc,by rw [Obj.data_mapFields hd];simp [rawInt]⟩ (Heap.SameBut.update ..))⟩))
theorem a35 {it t:Addr} {i:Nat} {its:Array Value} {Q:Value->Shared->Prop} (hh:A.handled=none) (hi:s.heap.IsTupleIter it t i) (ht:s.heap.IsTuple t its) (hx:its[i]?=none)
 (hE:∀h' e,Heap.ExtBut it s.heap h'->(∃o,h'.get? e=some o/\o.cls=.type "StopIteration")->E (.ref e) { s with heap:=h' }):wpAny (model prog w) A (Builtin.SmallTypes.nextOf (.ref it)) Q E s:=by
 obtain⟨o,ho,hc,hd⟩:=id hi
 obtain⟨ot,hot,_,nt,hdt⟩:=ht
 unfold Builtin.SmallTypes.nextOf
 refine wpAny_bind (wpAny_callSpecial?_slot (name:=Str.ofString "__next__") hi.typeIs F.slot_tuple_iterator_next (wpAny_call_entry F.slot_tuple_iterator_next hi.typeIs F.entry_tuple_iterator_next ?_ (F.args_tuple_iterator_next_1 _)))
 show wpAny _ _ (field (.ref it) 0>>=_) _ _ s
 refine wpAny_bind (wpAny_field ho hd (x:=.ref t) rfl ?_)
 show wpAny _ _ (if (Value.ref t == Value.none)=true then _ else _) _ _ s
 rw [if_neg (show ¬((Value.ref t == Value.none)=true) from Bool.false_ne_true)]
 show wpAny _ _ (field (.ref it) 1>>=_) _ _ s
 refine wpAny_bind (wpAny_field ho hd (x:=.int i 0) rfl ?_)
 show wpAny _ _ (seqItems? (.ref t)>>=_) _ _ s
 refine wpAny_bind (wpAny_seqItems hot hdt ?_)
 simp only [Int.toNat_natCast,hx]
 refine wpAny_bind (wpAny_rule (wpAny_bind (wpAny_setField ho hd (by simp) ?_)))
 show wpAny _ _ (newExc (.type "StopIteration") []>>=_) _ _ _
 refine wpAny_bind ?_
 simp only [newExc,newTuple]
 refine wpAny_bind (wpAny_newObj_type ?_ (by size_fits))
 refine wpAny_bind (m:=firstArgMember _ _) (wpAny_of_eq (a:=Value.none) (by first | rfl | (simp only [firstArgMember];rfl)) ?_)
 refine wpAny_newObj_type ?_ (by size_fits)
 simp only [raiseNew]
 refine wpAny_bind (wpAny_handled ?_)
 first | rw [show A.in1.handled=none from hh] | rw [hh]
 refine wpAny_bind (wpAny_pure (wpAny_throw ?_))
 exact hE _ _ (((Heap.SameBut.update ..).extBut.push _).push _) ⟨_,Heap.get?_push_size _ rfl,rfl⟩
def IterAt (k:Bool) (h:Heap) (it l:Addr) (i:Nat):Prop:=match k with
 | true=>h.IsTupleIter it l i
 | false=>h.IsListIter it l i
def SeqAt (k:Bool) (h:Heap) (l:Addr) (its:Array Value):Prop:=match k with
 | true=>h.IsTuple l its
 | false=>h.IsList l its
theorem IterAt.at {k:Bool} {h h':Heap} {it l:Addr} {i:Nat} (x:IterAt k h it l i) (e:∀o,h.get? it=some o->h'.get? it=some o):IterAt k h' it l i:=by
 cases k with
 | true=>exact Heap.IsTupleIter.at x e
 | false=>exact Heap.IsListIter.at x e
theorem SeqAt.at {k:Bool} {h h':Heap} {l:Addr} {its:Array Value} (x:SeqAt k h l its) (e:∀o,h.get? l=some o->h'.get? l=some o):SeqAt k h' l its:=by
 cases k with
 | true=>obtain⟨o,h1,h2⟩:=x;exact⟨o,e o h1,h2⟩
 | false=>exact Heap.IsList.at x e
theorem IterAt.obj {k:Bool} {h:Heap} {it l:Addr} {i:Nat} (x:IterAt k h it l i):∃o vs,h.get? it=some o/\o.data=.fields vs:=by
 cases k with
 | true=>obtain⟨o,h1,_,h2⟩:=x;exact⟨o,_,h1,h2⟩
 | false=>obtain⟨o,h1,_,h2⟩:=x;exact⟨o,_,h1,h2⟩
theorem SeqAt.lt {k:Bool} {h:Heap} {l:Addr} {its:Array Value} (x:SeqAt k h l its):l<h.objs.size:=by
 cases k with
 | true=>obtain⟨o,h1,_⟩:=x;exact Heap.lt_size h1
 | false=>obtain⟨o,h1,_⟩:=x;exact Heap.lt_size h1
theorem e9 {k:Bool} {it t:Addr} {i:Nat} {its:Array Value} {x:Value} {Q:Value->Shared->Prop} (hi:IterAt k s.heap it t i) (ht:SeqAt k s.heap t its) (hx:its[i]?=some x)
 (hQ:∀h',IterAt k h' it t (i+1)->Heap.SameBut it s.heap h'->Q x { s with heap:=h' }):wpAny (model prog w) A (Builtin.SmallTypes.nextOf (.ref it)) Q E s:=by
 cases k with
 | true=>exact aU3 hi ht hx hQ
 | false=>exact wpAny_nextOf_list_item hi ht hx hQ
theorem ar7 {k:Bool} {it t:Addr} {i:Nat} {its:Array Value} {Q:Value->Shared->Prop} (hh:A.handled=none) (hi:IterAt k s.heap it t i) (ht:SeqAt k s.heap t its) (hx:its[i]?=none)
 (hE:∀h' e,Heap.ExtBut it s.heap h'->(∃o,h'.get? e=some o/\o.cls=.type "StopIteration")->E (.ref e) { s with heap:=h' }):wpAny (model prog w) A (Builtin.SmallTypes.nextOf (.ref it)) Q E s:=by
 cases k with
 | true=>exact a35 hh hi ht hx hE
 | false=>exact wpAny_nextOf_list_end hh hi ht hx hE
def aw2 (k:Bool) (l:Addr):Obj:={ cls:=.type (match k with | true=>"tuple_iterator" | false=>"list_iterator"),data:=.fields #[.ref l,.int 0 0] }
theorem aU4 (k:Bool) (h:Heap) (l:Addr):IterAt k (h.push (aw2 k l)) h.objs.size l 0:=by
 cases k with
 | true=>exact⟨_,Heap.get?_push_size _ rfl,rfl,rfl⟩
 | false=>exact⟨_,Heap.get?_push_size _ rfl,rfl,rfl⟩
theorem aw3 {k:Bool} {l:Addr} {its:Array Value} {Q:Value->Shared->Prop} (hl:SeqAt k s.heap l its) (hQ:Q (.ref s.heap.objs.size) { s with heap:=s.heap.push (aw2 k l) }):wpAny (model prog w) A (pyIter (.ref l)) Q E s:=by
 cases k with
 | true=>exact wpAny_pyIter_tuple hl hQ
 | false=>exact wpAny_pyIter_list hl hQ
def aU5 (h:Heap) (z TI TO:Addr):Prop:=∃(f0:Value) (f1:Bool),(f0=.none\/∃T:Addr,f0=rawInt T)/\h.get? z=some { cls:=.type "zip",dict:=none,data:=.fields #[f0,.bool f1,.bool false,.ref TI,.ref TO],slots:=#[] }
abbrev af5 (f0:Value) (f1:Bool) (TI TO:Addr):Obj:={ cls:=.type "zip",dict:=none,data:=.fields #[f0,.bool f1,.bool false,.ref TI,.ref TO],slots:=#[] }
structure ZSt (k1 k2:Bool) (z TI TO i1 i2 l1 l2:Addr) (i:Nat) (h:Heap):Prop where
 zr:aU5 h z TI TO
 ti:IsPair h TI (.ref i1) (.ref i2)
 to:∃a b,IsPair h TO a b
 j1:IterAt k1 h i1 l1 i
 j2:IterAt k2 h i2 l2 i
abbrev Kp (z TO i1 i2:Addr) (h h':Heap):Prop:=∀c o,c≠z->c≠TO->c≠i1->c≠i2->h.get? c=some o->h'.get? c=some o
structure ZA (z TI TO i1 i2 l1 l2:Addr):Prop where
 TIz:TI≠z
 TOz:TO≠z
 i1z:i1≠z
 i2z:i2≠z
 TITO:TI≠TO
 TIi1:TI≠i1
 TIi2:TI≠i2
 TOi1:TO≠i1
 TOi2:TO≠i2
 i12:i1≠i2
 l1z:l1≠z
 l1TO:l1≠TO
 l1i1:l1≠i1
 l1i2:l1≠i2
 l2z:l2≠z
 l2TO:l2≠TO
 l2i1:l2≠i1
 l2i2:l2≠i2
theorem ZSt.keep {k1 k2:Bool} {z TI TO i1 i2 l1 l2:Addr} {i:Nat} {h h':Heap} (S:ZSt k1 k2 z TI TO i1 i2 l1 l2 i h) (k:∀b∈[z,TI,TO,i1,i2],∀o,h.get? b=some o->h'.get? b=some o):ZSt k1 k2 z TI TO i1 i2 l1 l2 i h':=by
 obtain⟨⟨f0,f1,hf,hz⟩,ti,⟨a,b,to⟩,j1,j2⟩:=S
 exact⟨⟨f0,f1,hf,k z (by simp) _ hz⟩,k TI (by simp) _ ti,⟨a,b,k TO (by simp) _ to⟩,j1.at λo e=>k i1 (by simp) o e,j2.at λo e=>k i2 (by simp) o e⟩
theorem aL5 {a:Addr} {Q:Option Obj->Shared->Prop} (h:Q (s.heap.get? a) s):wpAny (model prog w) A (loadIfAlive a) Q E s:=λ_ _ _=>h
theorem aw4 {z TI TO:Addr} {Q:Bool->Shared->Prop} (hz:aU5 s.heap z TI TO) (h:∀b h' f0 f1,h'.get? z=some (af5 f0 f1 TI TO)->(b=false->∃T:Addr,f0=rawInt T)->Heap.SameBut z s.heap h'->Q b { s with heap:=h' }) :
 wpAny (model prog w) A (Builtin.SmallTypes.ownedTupleIsFree (.ref z)) Q E s:=by
 obtain⟨f0,f1,hf,hz⟩:=hz
 unfold Builtin.SmallTypes.ownedTupleIsFree
 rcases hf with rfl | ⟨T,rfl⟩
 ·exact wpAny_bind (wpAny_field hz rfl (x:=.none) rfl (wpAny_pure (h true s.heap _ _ hz (by simp) ⟨rfl,λ_ _=>rfl⟩)))
 ·refine wpAny_bind (wpAny_field hz rfl (x:=rawInt T) rfl ?_)
  refine wpAny_bind (aL5 ?_)
  by_cases hn:(s.heap.get? ((T:Int).toNat)).isNone=true
  ·rw [if_pos hn]
   exact wpAny_pure (h true s.heap _ _ hz (by simp) ⟨rfl,λ_ _=>rfl⟩)
  ·rw [if_neg hn]
   refine wpAny_bind (wpAny_field hz rfl (x:=.bool f1) rfl ?_)
   cases f1 with
   | true=>
     rw [if_neg (by simp)]
     exact wpAny_pure (h false s.heap _ _ hz (λ_=>⟨T,rfl⟩) ⟨rfl,λ_ _=>rfl⟩)
   | false=>
     rw [if_pos (by decide)]
     refine wpAny_bind (wpAny_setField_rec hz (by simp) λh1 hz1 hs1=>wpAny_pure (h false h1 (rawInt T) true hz1 (λ_=>⟨T,rfl⟩) hs1))
theorem bf1 {k1 k2:Bool} {z TI TO i1 i2 l1 l2:Addr} {k:Nat} {xs ys:Array Value} {x y:Value} {Q:Value->Shared->Prop} (D:ZA z TI TO i1 i2 l1 l2) (S:ZSt k1 k2 z TI TO i1 i2 l1 l2 k s.heap)
 (hl1:SeqAt k1 s.heap l1 xs) (hl2:SeqAt k2 s.heap l2 ys) (hx:xs[k]?=some x) (hy:ys[k]?=some y)
 (hQ:∀h',ZSt k1 k2 z TI TO i1 i2 l1 l2 (k+1) h'->IsPair h' s.heap.objs.size x y->Kp z TO i1 i2 s.heap h'->Q (.ref s.heap.objs.size) { s with heap:=h' }) :
 wpAny (model prog w) A (Builtin.«zip.__next__» ⟨[.ref z],[]⟩) (λfin s'=>∃v,fin=.done (.ret v)/\Q v s') E s:=by
 obtain⟨hz,hTI,⟨a,b,hTO⟩,h1,h2⟩:=S
 obtain⟨g0,g1,_,hzz⟩:=id hz
 show wpAny _ _ (field (.ref z) 2>>=_) _ _ _
 refine wpAny_bind (wpAny_field hzz rfl (x:=.bool false) rfl ?_)
 show wpAny _ _ (field (.ref z) 3>>=_) _ _ _
 refine wpAny_bind (wpAny_field hzz rfl (x:=.ref TI) rfl ?_)
 refine wpAny_bind (wpAny_seqItems hTI rfl ?_)
 show wpAny _ _ (Builtin.SmallTypes.ownedTupleIsFree (.ref z)>>=_) _ _ _
 refine wpAny_bind (aw4 hz λfr h0 f0 f1 hz0 hfr hs0=>?_)
 have hTO0:IsPair h0 TO a b:=hs0.extBut _ _ D.TOz hTO
 have hTI0:IsPair h0 TI (.ref i1) (.ref i2):=hs0.extBut _ _ D.TIz hTI
 have j1:IterAt k1 h0 i1 l1 k:=h1.at λo e=>hs0.extBut _ _ D.i1z e
 have j2:IterAt k2 h0 i2 l2 k:=h2.at λo e=>hs0.extBut _ _ D.i2z e
 have q1:SeqAt k1 h0 l1 xs:=hl1.at λo e=>hs0.extBut _ _ D.l1z e
 have q2:SeqAt k2 h0 l2 ys:=hl2.at λo e=>hs0.extBut _ _ D.l2z e
 cases fr with
 | true=>
   simp only [if_true]
   refine wpAny_bind (wpAny_rule ?_)
   refine wpAny_bind (wpAny_field hz0 rfl (x:=.ref TO) rfl ?_)
   refine wpAny_bind (wpAny_setField_rec hz0 (by simp) λh₁ hz₁ hs₁=>?_)
   replace hz₁:h₁.get? z=some (af5 .ellipsis f1 TI TO):=hz₁
   refine wpAny_bind ?_
   simp only [List.zipIdx_cons,List.zipIdx_nil,List.forIn_cons,List.forIn_nil]
   refine wpAny_bind (wpAny_bind (wpAny_onRaise ?_))
   show wpAny _ _ (Builtin.SmallTypes.nextOf (.ref i1)>>=_) _ _ _
   refine wpAny_bind (e9 (j1.at λo e=>hs₁.extBut _ _ D.i1z e) (q1.at λo e=>hs₁.extBut _ _ D.l1z e) hx λh₂ h1₂ hs₂=>wpAny_pure ?_)
   have hTO₂:IsPair h₂ TO a b:=hs₂.extBut _ _ D.TOi1 (hs₁.extBut _ _ D.TOz hTO0)
   refine wpAny_bind (wpAny_seqItems hTO₂ rfl ?_)
   refine wpAny_bind (wpAny_updateSeq_pair hTO₂ λh₃ hTO₃ hs₃=>?_)
   replace hTO₃:IsPair h₃ TO x b:=hTO₃
   refine wpAny_bind (wpAny_letGo (wpAny_pure ?_))
   refine wpAny_bind (wpAny_bind (wpAny_onRaise ?_))
   show wpAny _ _ (Builtin.SmallTypes.nextOf (.ref i2)>>=_) _ _ _
   refine wpAny_bind (e9 (j2.at λo e=>hs₃.extBut _ _ D.TOi2.symm (hs₂.extBut _ _ D.i12.symm (hs₁.extBut _ _ D.i2z e))) (q2.at λo e=>hs₃.extBut _ _ D.l2TO (hs₂.extBut _ _ D.l2i1 (hs₁.extBut _ _ D.l2z e))) hy λh₄ h2₄ hs₄=>wpAny_pure ?_)
   have hTO₄:IsPair h₄ TO x b:=hs₄.extBut _ _ D.TOi2 hTO₃
   refine wpAny_bind (wpAny_seqItems hTO₄ rfl ?_)
   refine wpAny_bind (wpAny_updateSeq_pair hTO₄ λh₅ hTO₅ hs₅=>?_)
   replace hTO₅:IsPair h₅ TO x y:=hTO₅
   refine wpAny_bind (wpAny_letGo (wpAny_pure (wpAny_pure ?_)))
   refine wpAny_bind (wpAny_seqItems hTO₅ rfl ?_)
   refine wpAny_bind (wpAny_newTuple ?_)
   have hsz:h₅.objs.size=s.heap.objs.size:=by rw [hs₅.1,hs₄.1,hs₃.1,hs₂.1,hs₁.1,hs0.1]
   have hz₅:h₅.get? z=some (af5 .ellipsis f1 TI TO):=hs₅.extBut _ _ D.TOz.symm (hs₄.extBut _ _ D.i2z.symm (hs₃.extBut _ _ D.TOz.symm (hs₂.extBut _ _ D.i1z.symm hz₁)))
   have hk₅:Kp z TO i1 i2 s.heap h₅:=λc o c1 c2 c3 c4 e=>
    hs₅.extBut _ _ c2 (hs₄.extBut _ _ c4 (hs₃.extBut _ _ c2 (hs₂.extBut _ _ c3 (hs₁.extBut _ _ c1 (hs0.extBut _ _ c1 e)))))
   have h1₅:IterAt k1 h₅ i1 l1 (k+1):=h1₂.at λo e=>hs₅.extBut _ _ D.TOi1.symm (hs₄.extBut _ _ D.i12 (hs₃.extBut _ _ D.TOi1.symm e))
   have h2₅:IterAt k2 h₅ i2 l2 (k+1):=h2₄.at λo e=>hs₅.extBut _ _ D.TOi2.symm e
   have hzlt:z<h₅.objs.size:=Heap.lt_size hz₅
   show wpAny _ _ (Builtin.SmallTypes.ownedTupleHandOut (.ref z) (.ref h₅.objs.size)>>=_) _ _ _
   refine wpAny_bind ?_
   unfold Builtin.SmallTypes.ownedTupleHandOut
   have hz₆:(h₅.push { cls:=.type "tuple",data:=.seq #[x,y] }).get? z=some (af5 .ellipsis f1 TI TO):=Heap.get?_push_of_some _ hz₅
   refine wpAny_bind (wpAny_setField_rec hz₆ (by simp) λh₇ hz₇ hs₇=>?_)
   replace hz₇:h₇.get? z=some (af5 (rawInt h₅.objs.size) f1 TI TO):=hz₇
   refine wpAny_setField_rec hz₇ (by simp) λh₈ hz₈ hs₈=>?_
   replace hz₈:h₈.get? z=some (af5 (rawInt h₅.objs.size) false TI TO):=hz₈
   have up:∀c o,c≠z->h₅.get? c=some o->h₈.get? c=some o:=λc o c1 e=>hs₈.extBut _ _ c1 (hs₇.extBut _ _ c1 (Heap.get?_push_of_some _ e))
   have hT₈:IsPair h₈ h₅.objs.size x y:=hs₈.extBut _ _ (Nat.ne_of_gt hzlt) (hs₇.extBut _ _ (Nat.ne_of_gt hzlt) (Heap.get?_push_size _ rfl))
   refine wpAny_pure ⟨_,rfl,?_⟩
   show Q (.ref h₅.objs.size) _
   rw [hsz] at hT₈ ⊢
   exact hQ h₈ ⟨⟨_,_,.inr ⟨_,rfl⟩,hz₈⟩,up _ _ D.TIz (hk₅ _ _ D.TIz D.TITO D.TIi1 D.TIi2 hTI),⟨_,_,up _ _ D.TOz hTO₅⟩,h1₅.at λo e=>up _ o D.i1z e,h2₅.at λo e=>up _ o D.i2z e⟩ hT₈ λc o c1 c2 c3 c4 e=>up c o c1 (hk₅ c o c1 c2 c3 c4 e)
 | false=>
   simp only [Bool.false_eq_true,if_false]
   obtain⟨T,hT⟩:=hfr rfl
   refine wpAny_bind ?_
   simp only [Array.forIn_toList.symm,List.forIn_cons,List.forIn_nil]
   refine wpAny_bind (wpAny_bind (wpAny_holding ?_))
   show wpAny _ _ (Builtin.SmallTypes.nextOf (.ref i1)>>=_) _ _ _
   refine wpAny_bind (e9 (s:={ s with heap:=h0 }) j1 q1 hx λh₂ h1₂ hs₂=>wpAny_pure (wpAny_pure ?_))
   refine wpAny_bind (wpAny_bind (wpAny_holding ?_))
   show wpAny _ _ (Builtin.SmallTypes.nextOf (.ref i2)>>=_) _ _ _
   refine wpAny_bind (e9 (s:={ s with heap:=h₂ }) (j2.at λo e=>hs₂.extBut _ _ D.i12.symm e) (q2.at λo e=>hs₂.extBut _ _ D.l2i1 e) hy λh₄ h2₄ hs₄=>wpAny_pure (wpAny_pure (wpAny_pure ?_)))
   refine wpAny_bind (wpAny_newTuple ?_ (by show 2<=sizeLine;decide))
   have hsz:h₄.objs.size=s.heap.objs.size:=by rw [hs₄.1,hs₂.1,hs0.1]
   refine wpAny_pure ⟨_,rfl,?_⟩
   show Q (.ref h₄.objs.size) _
   have hk:Kp z TO i1 i2 s.heap h₄:=λc o c1 c2 c3 c4 e=>hs₄.extBut _ _ c4 (hs₂.extBut _ _ c3 (hs0.extBut _ _ c1 e))
   have hz₄:h₄.get? z=some (af5 f0 f1 TI TO):=hs₄.extBut _ _ D.i2z.symm (hs₂.extBut _ _ D.i1z.symm hz0)
   have hp:IsPair (h₄.push { cls:=.type "tuple",data:=.seq #[x,y] }) h₄.objs.size x y:=Heap.get?_push_size _ rfl
   rw [hsz] at hp ⊢
   refine hQ _ ⟨⟨_,_,.inr ⟨T,hT⟩,Heap.get?_push_of_some _ hz₄⟩,Heap.get?_push_of_some _ (hk _ _ D.TIz D.TITO D.TIi1 D.TIi2 hTI),⟨a,b,Heap.get?_push_of_some _ (hs₄.extBut _ _ D.TOi2 (hs₂.extBut _ _ D.TOi1 hTO0))⟩,
    h1₂.at λo e=>Heap.get?_push_of_some _ (hs₄.extBut _ _ D.i12 e),h2₄.at λo e=>Heap.get?_push_of_some _ e⟩ hp λc o c1 c2 c3 c4 e=>Heap.get?_push_of_some _ (hk c o c1 c2 c3 c4 e)
theorem a36 {k1 k2:Bool} {z TI TO i1 i2 l1 l2:Addr} {k:Nat} {xs ys:Array Value} {Q:Fin->Shared->Prop} (hh:A.handled=none) (D:ZA z TI TO i1 i2 l1 l2) (S:ZSt k1 k2 z TI TO i1 i2 l1 l2 k s.heap)
 (hl1:SeqAt k1 s.heap l1 xs) (hl2:SeqAt k2 s.heap l2 ys) (hend:xs[k]?=none\/ys[k]?=none)
 (hE:∀h' e,Kp z TO i1 i2 s.heap h'->(∃o,h'.get? e=some o/\o.cls=.type "StopIteration")->E (.ref e) { s with heap:=h' }) :
 wpAny (model prog w) A (Builtin.«zip.__next__» ⟨[.ref z],[]⟩) Q E s:=by
 obtain⟨hz,hTI,⟨a,b,hTO⟩,h1,h2⟩:=S
 obtain⟨g0,g1,_,hzz⟩:=id hz
 show wpAny _ _ (field (.ref z) 2>>=_) _ _ _
 refine wpAny_bind (wpAny_field hzz rfl (x:=.bool false) rfl ?_)
 show wpAny _ _ (field (.ref z) 3>>=_) _ _ _
 refine wpAny_bind (wpAny_field hzz rfl (x:=.ref TI) rfl ?_)
 refine wpAny_bind (wpAny_seqItems hTI rfl ?_)
 show wpAny _ _ (Builtin.SmallTypes.ownedTupleIsFree (.ref z)>>=_) _ _ _
 refine wpAny_bind (aw4 hz λfr h0 f0 f1 hz0 hfr hs0=>?_)
 have hTO0:IsPair h0 TO a b:=hs0.extBut _ _ D.TOz hTO
 have j1:IterAt k1 h0 i1 l1 k:=h1.at λo e=>hs0.extBut _ _ D.i1z e
 have j2:IterAt k2 h0 i2 l2 k:=h2.at λo e=>hs0.extBut _ _ D.i2z e
 have q1:SeqAt k1 h0 l1 xs:=hl1.at λo e=>hs0.extBut _ _ D.l1z e
 have q2:SeqAt k2 h0 l2 ys:=hl2.at λo e=>hs0.extBut _ _ D.l2z e
 cases fr with
 | true=>
   simp only [if_true]
   refine wpAny_bind (wpAny_rule ?_)
   refine wpAny_bind (wpAny_field hz0 rfl (x:=.ref TO) rfl ?_)
   refine wpAny_bind (wpAny_setField_rec hz0 (by simp) λh₁ hz₁ hs₁=>?_)
   replace hz₁:h₁.get? z=some (af5 .ellipsis f1 TI TO):=hz₁
   refine wpAny_bind ?_
   simp only [List.zipIdx_cons,List.zipIdx_nil,List.forIn_cons,List.forIn_nil]
   refine wpAny_bind (wpAny_bind (wpAny_onRaise ?_))
   show wpAny _ _ (Builtin.SmallTypes.nextOf (.ref i1)>>=_) _ _ _
   cases hx:xs[k]? with
   | none=>
     refine wpAny_bind (ar7 hh (j1.at λo e=>hs₁.extBut _ _ D.i1z e) (q1.at λo e=>hs₁.extBut _ _ D.l1z e) hx λh₂ e hs₂ he=>?_)
     obtain⟨oe,hoe,hce⟩:=he
     have hz₂:h₂.get? z=some (af5 .ellipsis f1 TI TO):=hs₂ _ _ D.i1z.symm hz₁
     have hez:e≠z:=λx=>by subst x;rw [hz₂] at hoe;cases hoe;simp at hce
     refine wpAny_setField_rec hz₂ (by simp) λh₃ _ hs₃=>hE h₃ e (λc o c1 _ c3 _ x=>hs₃.extBut _ _ c1 (hs₂ _ _ c3 (hs₁.extBut _ _ c1 (hs0.extBut _ _ c1 x)))) ⟨oe,hs₃.extBut _ _ hez hoe,hce⟩
   | some x=>
     have hy:ys[k]?=none:=by rcases hend with h | h;· rw [hx] at h;cases h
                             ·exact h
     refine wpAny_bind (e9 (j1.at λo e=>hs₁.extBut _ _ D.i1z e) (q1.at λo e=>hs₁.extBut _ _ D.l1z e) hx λh₂ h1₂ hs₂=>wpAny_pure ?_)
     have hTO₂:IsPair h₂ TO a b:=hs₂.extBut _ _ D.TOi1 (hs₁.extBut _ _ D.TOz hTO0)
     refine wpAny_bind (wpAny_seqItems hTO₂ rfl ?_)
     refine wpAny_bind (wpAny_updateSeq_pair hTO₂ λh₃ hTO₃ hs₃=>?_)
     refine wpAny_bind (wpAny_letGo (wpAny_pure ?_))
     refine wpAny_bind (wpAny_bind (wpAny_onRaise ?_))
     show wpAny _ _ (Builtin.SmallTypes.nextOf (.ref i2)>>=_) _ _ _
     refine wpAny_bind (ar7 hh (j2.at λo e=>hs₃.extBut _ _ D.TOi2.symm (hs₂.extBut _ _ D.i12.symm (hs₁.extBut _ _ D.i2z e))) (q2.at λo e=>hs₃.extBut _ _ D.l2TO (hs₂.extBut _ _ D.l2i1 (hs₁.extBut _ _ D.l2z e))) hy λh₄ e hs₄ he=>?_)
     obtain⟨oe,hoe,hce⟩:=he
     have hz₄:h₄.get? z=some (af5 .ellipsis f1 TI TO):=hs₄ _ _ D.i2z.symm (hs₃.extBut _ _ D.TOz.symm (hs₂.extBut _ _ D.i1z.symm hz₁))
     have hez:e≠z:=λx=>by subst x;rw [hz₄] at hoe;cases hoe;simp at hce
     refine wpAny_setField_rec hz₄ (by simp) λh₅ _ hs₅=>hE h₅ e (λc o c1 c2 c3 c4 x=>hs₅.extBut _ _ c1 (hs₄ _ _ c4 (hs₃.extBut _ _ c2 (hs₂.extBut _ _ c3 (hs₁.extBut _ _ c1 (hs0.extBut _ _ c1 x)))))) ⟨oe,hs₅.extBut _ _ hez hoe,hce⟩
 | false=>
   simp only [Bool.false_eq_true,if_false]
   refine wpAny_bind ?_
   simp only [Array.forIn_toList.symm,List.forIn_cons,List.forIn_nil]
   refine wpAny_bind (wpAny_bind (wpAny_holding ?_))
   show wpAny _ _ (Builtin.SmallTypes.nextOf (.ref i1)>>=_) _ _ _
   cases hx:xs[k]? with
   | none=>exact wpAny_bind (ar7 (s:={ s with heap:=h0 }) hh j1 q1 hx λh₂ e hs₂ he=>hE h₂ e (λc o c1 _ c3 _ x=>hs₂ _ _ c3 (hs0.extBut _ _ c1 x)) he)
   | some x=>
     have hy:ys[k]?=none:=by rcases hend with h | h;· rw [hx] at h;cases h
                             ·exact h
     refine wpAny_bind (e9 (s:={ s with heap:=h0 }) j1 q1 hx λh₂ h1₂ hs₂=>wpAny_pure (wpAny_pure ?_))
     refine wpAny_bind (wpAny_bind (wpAny_holding ?_))
     show wpAny _ _ (Builtin.SmallTypes.nextOf (.ref i2)>>=_) _ _ _
     exact wpAny_bind (ar7 (s:={ s with heap:=h₂ }) hh (j2.at λo e=>hs₂.extBut _ _ D.i12.symm e) (q2.at λo e=>hs₂.extBut _ _ D.l2i1 e) hy λh₄ e hs₄ he=>hE h₄ e (λc o c1 _ c3 c4 x=>hs₄ _ _ c4 (hs₂.extBut _ _ c3 (hs0.extBut _ _ c1 x))) he)
theorem aC2 {k1 k2:Bool} {z TI TO i1 i2 l1 l2:Addr} {k:Nat} {xs ys:Array Value} {x y:Value} {Q:Option Value->Shared->Prop} (D:ZA z TI TO i1 i2 l1 l2) (S:ZSt k1 k2 z TI TO i1 i2 l1 l2 k s.heap)
 (hl1:SeqAt k1 s.heap l1 xs) (hl2:SeqAt k2 s.heap l2 ys) (hx:xs[k]?=some x) (hy:ys[k]?=some y)
 (hQ:∀h',ZSt k1 k2 z TI TO i1 i2 l1 l2 (k+1) h'->IsPair h' s.heap.objs.size x y->Kp z TO i1 i2 s.heap h'->Q (some (.ref s.heap.objs.size)) { s with heap:=h' }) :
 wpAny (model prog w) A (pyNext (.ref z)) Q E s:=by
 have hT:s.TypeIs (.ref z) "zip":=by obtain⟨_,_,_,h⟩:=S.zr;exact⟨_,h,rfl⟩
 unfold pyNext
 refine wpAny_bind (wpAny_attempt (wpAny_callSpecial?_slot (name:=Str.ofString "__next__") hT F.slot_zip_next (wpAny_call_entry F.slot_zip_next hT F.entry_zip_next (bf1 D S hl1 hl2 hx hy λh' a1 a2 a3=>wpAny_pure (hQ h' a1 a2 a3)) (F.args_zip_next_1 _))))
theorem aw5 {k1 k2:Bool} {z TI TO i1 i2 l1 l2:Addr} {k:Nat} {xs ys:Array Value} {Q:Option Value->Shared->Prop} (hh:A.handled=none) (D:ZA z TI TO i1 i2 l1 l2) (S:ZSt k1 k2 z TI TO i1 i2 l1 l2 k s.heap)
 (hl1:SeqAt k1 s.heap l1 xs) (hl2:SeqAt k2 s.heap l2 ys) (hend:xs[k]?=none\/ys[k]?=none) (hQ:∀h',Kp z TO i1 i2 s.heap h'->Q none { s with heap:=h' }) :
 wpAny (model prog w) A (pyNext (.ref z)) Q E s:=by
 have hT:s.TypeIs (.ref z) "zip":=by obtain⟨_,_,_,h⟩:=S.zr;exact⟨_,h,rfl⟩
 unfold pyNext
 refine wpAny_bind (wpAny_attempt (wpAny_callSpecial?_slot (name:=Str.ofString "__next__") hT F.slot_zip_next (wpAny_call_entry F.slot_zip_next hT F.entry_zip_next (a36 (A:=_) hh D S hl1 hl2 hend λh' e hk he=>?_) (F.args_zip_next_1 _))))
 obtain⟨o,ho,hc⟩:=he
 exact wpAny_bind (wpAny_isInstance (T:="StopIteration") (b:=true) ⟨o,ho,hc⟩ isSubtype_stop (wpAny_pure (hQ _ hk)))
theorem bf2 {k1 k2:Bool} {tg:Expr} {z TI TO i1 i2 l1 l2 T:Addr} {k:Nat} {Q:Unit->Shared->Prop} (ht:∀es p,tg≠.List es p) (D:ZA z TI TO i1 i2 l1 l2) (S:ZSt k1 k2 z TI TO i1 i2 l1 l2 k s.heap)
 (hQ:∀h',ZSt k1 k2 z TI TO i1 i2 l1 l2 k h'->Heap.SameBut z s.heap h'->Q () { s with heap:=h' }) :
 wpAny (model prog w) A (letOwnedTupleGo tg (.ref z) (.ref T)) Q E s:=by
 have q0:Q () s:=hQ s.heap S ⟨rfl,λ_ _=>rfl⟩
 unfold letOwnedTupleGo
 cases tg with
 | Tuple elts x1 pos=>
   obtain⟨⟨f0,f1,hf,hz⟩,hTI,⟨a,b,hTO⟩,h1,h2⟩:=S
   refine wpAny_bind (wpAny_load hz ?_)
   by_cases c:(["enumerate","zip","dict_itemiterator","dict_reverseitemiterator","odict_iterator","itertools.zip_longest","itertools.pairwise"].contains "zip"&&(#[f0,.bool f1,.bool false,.ref TI,.ref TO]:Array Value)[0]? == some (rawInt T))=true
   ·show wpAny _ _ (if _ then _ else _) Q E s
    rw [if_pos c]
    refine wpAny_bind (wpAny_rule ?_)
    show wpAny _ _ (setField (.ref z) 0 .none) Q E s
    refine wpAny_setField_rec hz (by simp) λh' hz' hs'=>hQ h' ⟨⟨.none,f1,.inl rfl,hz'⟩,hs'.extBut _ _ D.TIz hTI,⟨a,b,hs'.extBut _ _ D.TOz hTO⟩,h1.at λo e=>hs'.extBut _ _ D.i1z e,h2.at λo e=>hs'.extBut _ _ D.i2z e⟩ hs'
   ·show wpAny _ _ (if _ then _ else _) Q E s
    rw [if_neg c]
    exact wpAny_pure q0
 | List es p=>exact absurd rfl (ht _ _)
 | _=>exact wpAny_pure q0
theorem af6 {z TI TO:Addr} {Q:Value->Shared->Prop} (hz:aU5 s.heap z TI TO) (h:Q (.ref z) s):wpAny (model prog w) A (pyIter (.ref z)) Q E s:=by
 have hT:s.TypeIs (.ref z) "zip":=by obtain⟨_,_,_,h⟩:=hz;exact⟨_,h,rfl⟩
 refine wpAny_pyIter_slot hT F.slot_zip_iter (wpAny_call_entry F.slot_zip_iter hT F.entry_zip_iter ?_ (F.args_zip_iter_1 _))
 show wpAny _ _ (PySem.ret (.ref z)) _ _ s
 exact wpAny_pure ⟨_,rfl,"zip",_,hT,F.slot_zip_next.lookup,h⟩
end
section
variable {X:L2.Cx} {cm:Nat->Addr}
theorem v0 {k:Bool} {pins:List (Addr×Obj)} {σ:L2.St} {H:L2.Hp} {s:Shared} {a:Addr} {xs:List L2.V} (I:L2.Inv X pins σ H s) (h:SqK k X.K H a xs):∃its:List Value,L2.Vals xs its/\SeqAt k s.heap a its.toArray:=by
 cases k with
 | true=>obtain⟨its,r,p,_⟩:=I.tuple h;exact⟨its,r,p⟩
 | false=>obtain⟨its,r,p,_⟩:=I.list h;exact⟨its,r,p.isList⟩
theorem aG7 {k:Bool} {pins:List (Addr×Obj)} {σ:L2.St} {H:L2.Hp} {s:Shared} {a:Addr} {xs ys:List L2.V} (I:L2.Inv X pins σ H s) (h:SqK k X.K H a xs) (h':SqK k X.K H a ys):xs=ys:=by
 cases k with
 | true=>exact I.tuple_inj h h'
 | false=>exact I.list_inj h h'
end
theorem aU6 {P:Program} {w:World} {K:PySem.W.Frag} {tg:Expr} (ht:∀es p,tg≠.List es p) (k1 k2:Bool) (a b z TI TO i1 i2:Addr) (D:ZA z TI TO i1 i2 a b) :
 L2.az5 P w K tg (Itz K k1 k2 a b) [z,TI,TO,i1,i2] z (λi h=>ZSt k1 k2 z TI TO i1 i2 a b i h) where
 mem:=by simp
 obj:=λi h S c hc=>by
  obtain⟨⟨f0,f1,_,hz⟩,ti,⟨x,y,to⟩,j1,j2⟩:=S
  simp only [List.mem_cons,List.not_mem_nil,or_false] at hc
  rcases hc with rfl | rfl | rfl | rfl | rfl
  ·exact⟨_,hz,λv z=>by cases z⟩
  ·exact⟨_,ti,λv z=>by cases z⟩
  ·exact⟨_,to,λv z=>by cases z⟩
  ·obtain⟨o,vs,h1,h2⟩:=j1.obj;exact⟨o,h1,λv z=>by rw [h2] at z;cases z⟩
  ·obtain⟨o,vs,h1,h2⟩:=j2.obj;exact⟨o,h1,λv z=>by rw [h2] at z;cases z⟩
 keep:=λi h h' S k=>S.keep k
 item:=by
  intro X hP hw hK hc i pins s σ H E I hf S hg
  subst hP hw hK
  obtain⟨xs,ys,x,y,hq1,hq2,hx,hy⟩:=hg
  obtain⟨its1,r1,p1⟩:=v0 I hq1
  obtain⟨its2,r2,p2⟩:=v0 I hq2
  obtain⟨u,hu,ru⟩:=r1.get hx
  obtain⟨v,hv,rv⟩:=r2.get hy
  refine aC2 D S p1 p2 (x:=u) (y:=v) (by simpa using hu) (by simpa using hv) λh' S' hT hk=>?_
  refine⟨.ref s.heap.objs.size,rfl,bf2 (s:={ s with heap:=h' }) ht D S' λh2 S2 hs2=>?_⟩
  have zlt:z<s.heap.objs.size:=by obtain⟨_,_,_,e⟩:=S.zr;exact Heap.lt_size e
  have I2:L2.Inv X pins σ (L2.upd H s.heap.objs.size (.tup [x,y])) { s with heap:=h2 }:=by
   refine ae4 (s:=s) (t':=s.toks) I hf (λb u hb q=>?_) (Nat.le_refl _) ?_
   ·have n1:b≠z:=λe=>hb (by simp [e])
    exact hs2.extBut _ _ n1 (hk b u n1 (λe=>hb (by simp [e])) (λe=>hb (by simp [e])) (λe=>hb (by simp [e])) q)
   ·exact⟨by show 2<=sizeLine;decide,[u,v],.cons ru (.cons rv .nil),_,hs2.extBut _ _ (Nat.ne_of_gt zlt) hT,rfl,_,rfl⟩
  refine⟨.ref s.heap.objs.size,L2.upd H s.heap.objs.size (.tup [x,y]),I2,rfl,⟨x,y,s.heap.objs.size,λzs hz=>by rw [aG7 I hz hq1];exact hx,λzs hz=>by rw [aG7 I hz hq2];exact hy,I.hok.fresh (Nat.le_refl _),rfl,rfl⟩,S2,λb hb=>?_⟩
  rw [L2.D4]
  ·exact (hf b hb).1
  ·intro e
   subst e
   have:∃o,s.heap.get? s.heap.objs.size=some o:=by
    obtain⟨⟨f0,f1,_,hz⟩,ti,⟨x,y,to⟩,j1,j2⟩:=S
    simp only [List.mem_cons,List.not_mem_nil,or_false] at hb
    rcases hb with e | e | e | e | e
    ·rw [e];exact⟨_,hz⟩
    ·rw [e];exact⟨_,ti⟩
    ·rw [e];exact⟨_,to⟩
    ·rw [e];obtain⟨o,vs,h1,h2⟩:=j1.obj;exact⟨o,h1⟩
    ·rw [e];obtain⟨o,vs,h1,h2⟩:=j2.obj;exact⟨o,h1⟩
   obtain⟨o,ho⟩:=this
   exact absurd (Heap.lt_size ho) (Nat.lt_irrefl _)
 done:=by
  intro X hP hw hK hc i pins s σ H E I hf S hg
  subst hP hw hK
  obtain⟨xs,ys,hq1,hq2,hx⟩:=hg
  obtain⟨its1,r1,p1⟩:=v0 I hq1
  obtain⟨its2,r2,p2⟩:=v0 I hq2
  have l1:=r1.length
  have l2:=r2.length
  refine aw5 (I.ok.hd hc) D S p1 p2 ?_ λh' hk=>⟨rfl,am2 (t':=s.toks) I hf λb u hb q=>hk b u (λe=>hb (by simp [e])) (λe=>hb (by simp [e])) (λe=>hb (by simp [e])) (λe=>hb (by simp [e])) q⟩
  rcases hx with hx | hx
  ·left;rw [Array.getElem?_eq_none];simp;omega
  ·right;rw [Array.getElem?_eq_none];simp;omega
 self:=λ_ _ _ _ _ S h=>af6 S.zr h
abbrev zH1 (k1:Bool) (h:Heap) (l1:Addr):Heap:=h.push (aw2 k1 l1)
abbrev zH2 (k1 k2:Bool) (h:Heap) (l1 l2:Addr):Heap:=(zH1 k1 h l1).push (aw2 k2 l2)
abbrev zH3 (k1 k2:Bool) (h:Heap) (l1 l2:Addr):Heap:=(zH2 k1 k2 h l1 l2).push { cls:=.type "tuple",data:=.seq #[.ref h.objs.size,.ref (zH1 k1 h l1).objs.size] }
abbrev zH4 (k1 k2:Bool) (h:Heap) (l1 l2:Addr):Heap:=(zH3 k1 k2 h l1 l2).push { cls:=.type "tuple",data:=.seq #[.none,.none] }
abbrev zH5 (k1 k2:Bool) (h:Heap) (l1 l2:Addr):Heap:=(zH4 k1 k2 h l1 l2).push (af5 .none false (zH2 k1 k2 h l1 l2).objs.size (zH3 k1 k2 h l1 l2).objs.size)
theorem aC3 (k1 k2:Bool) (l1 l2:Addr) (xs ys:Array Value) :
 Meets (Builtin.«zip.__new__» ⟨[.type "zip",.ref l1,.ref l2],[]⟩) (λ_ R s=>SeqAt k1 s.heap l1 xs/\SeqAt k2 s.heap l2 ys/\R (.ok (.ret (.ref (zH4 k1 k2 s.heap l1 l2).objs.size))) { s with heap:=zH5 k1 k2 s.heap l1 l2 }):=
 .of_wp λprog w A R s h=>by
  obtain⟨hp,g,d,tk,os⟩:=s
  obtain⟨hl1,hl2,h⟩:=h
  have hsub:=sub_zip
  have hL1:SeqAt k1 (Shared.heap ⟨hp,g,d,tk,os⟩) l1 xs:=hl1
  have hL2:SeqAt k2 (Shared.heap ⟨hp.push (aw2 k1 l1),g,d,tk,os⟩) l2 ys:=hl2.at λo e=>Heap.get?_push_of_some _ e
  wp_walk using aw3 hL1,aw3 hL2
  exact⟨_,rfl,h⟩
section
variable {prog:Program} {w:World} {A:Around} {E:Value->Shared->Prop} {s:Shared}
theorem aL6 {k1 k2:Bool} {l1 l2:Addr} {xs ys:Array Value} {Q:Value->Shared->Prop} (hl1:SeqAt k1 s.heap l1 xs) (hl2:SeqAt k2 s.heap l2 ys)
 (h:∀h',ZSt k1 k2 (s.heap.objs.size+4) (s.heap.objs.size+2) (s.heap.objs.size+3) s.heap.objs.size (s.heap.objs.size+1) l1 l2 0 h'->(∀c o,s.heap.get? c=some o->h'.get? c=some o)->Q (.ref (s.heap.objs.size+4)) { s with heap:=h' }) :
 wpAny (model prog w) A (call (.type "zip") [.ref l1,.ref l2]) Q E s:=by
 refine callType_new F.called_zip (by decide) (F.typeCall_zip_2 _ _) (F.newCall_zip_2 _ _) (λobj=>F.args_object_init_3 obj _ _) F.entry_zip_new (aC3 k1 k2 l1 l2 xs ys) ⟨hl1,hl2,?_⟩
 have z1:(zH1 k1 s.heap l1).objs.size=s.heap.objs.size+1:=Heap.size_push ..
 have z2:(zH2 k1 k2 s.heap l1 l2).objs.size=s.heap.objs.size+2:=by rw [Heap.size_push,z1]
 have z3:(zH3 k1 k2 s.heap l1 l2).objs.size=s.heap.objs.size+3:=by rw [Heap.size_push,z2]
 have z4:(zH4 k1 k2 s.heap l1 l2).objs.size=s.heap.objs.size+4:=by rw [Heap.size_push,z3]
 have g5:(zH5 k1 k2 s.heap l1 l2).get? (zH4 k1 k2 s.heap l1 l2).objs.size=some _:=Heap.get?_push_size _ rfl
 have g4:(zH5 k1 k2 s.heap l1 l2).get? (zH3 k1 k2 s.heap l1 l2).objs.size=some _:=Heap.get?_push_of_some _ (Heap.get?_push_size _ rfl)
 have g3:(zH5 k1 k2 s.heap l1 l2).get? (zH2 k1 k2 s.heap l1 l2).objs.size=some _:=Heap.get?_push_of_some _ (Heap.get?_push_of_some _ (Heap.get?_push_size _ rfl))
 have g2:IterAt k2 (zH5 k1 k2 s.heap l1 l2) (zH1 k1 s.heap l1).objs.size l2 0:=(aU4 k2 (zH1 k1 s.heap l1) l2).at λo e=>Heap.get?_push_of_some _ (Heap.get?_push_of_some _ (Heap.get?_push_of_some _ e))
 have g1:IterAt k1 (zH5 k1 k2 s.heap l1 l2) s.heap.objs.size l1 0:=(aU4 k1 s.heap l1).at λo e=>Heap.get?_push_of_some _ (Heap.get?_push_of_some _ (Heap.get?_push_of_some _ (Heap.get?_push_of_some _ e)))
 show _/\_
 rw [z2,z3,z4] at g5
 rw [z1,z2] at g3
 rw [z3] at g4
 rw [z1] at g2
 rw [z4]
 exact⟨⟨_,g5,rfl⟩,h _ ⟨⟨_,_,.inl rfl,g5⟩,g3,⟨_,_,g4⟩,g1,g2⟩ λc o x=>Heap.get?_push_of_some _ (Heap.get?_push_of_some _ (Heap.get?_push_of_some _ (Heap.get?_push_of_some _ (Heap.get?_push_of_some _ x))))⟩
end
section
variable {X:L2.Cx} {cm:Nat->Addr}
theorem i_zip {a b tg:Expr} {d e:ED} {p pos:Pos} (ht:∀es p,tg≠.List es p) (hg:L2.Gl X "zip") (hm:X.mg "zip" = none) (ha:L2.PE X a (EvE X.K cm d)) (hb:L2.PE X b (EvE X.K cm e))
 (hs:starEach [a,b] X.env=(false,eval a X.env)::starEach [b] X.env:=by exact G0 rfl) (hs2:starEach [b] X.env=(false,eval b X.env)::starEach [] X.env:=by exact G0 rfl):L2.PI X tg (.Call (.Name "zip" p) [a,b] [] pos) (EvI X.K cm (a16 d e)):=by
 intro pins s σ H R I h
 obtain⟨ρ,A,σp,J,A',rl,rs,ev,k⟩:=h
 obtain⟨x,A1,e1,ev1⟩:=B0 ev
 obtain⟨y,A2,e2,ev2⟩:=B0 ev1
 refine Call_ (L2.Q1 I hg hm (show bootBuiltins "zip" = some (.type "zip") from by rfl) (callWith_type1 (L2.thn ((r_cons ha (r_cons hb r_nil hs2) hs) pos pins s σ H (λvs H1=>∃a xs b ys,vs=[.ref a,.ref b]/\SqK (kindOf x) X.K H1 a xs/\SqK (kindOf y) X.K H1 b ys/\R (Itz X.K (kindOf x) (kindOf y) a b) H1) I ⟨ρ,A,σp,[x,y],A2,rl,rs,by show bnd (d σp) _ A=_;rw [bnd_ok e1];show bnd (bnd (e σp) _) _ A1=_;rw [bnd_ok (show bnd (e σp) _ A1=.ok [y] A2 by rw [bnd_ok e2];rfl)];rfl,λρ1 H1 vs1 x1 rl1 rv1=>?_⟩) λus s1 ⟨vs,H1,I1,r1,q1⟩=>?_) hs (by rw [hs2];rfl)))
 ·cases rv1 with
  | cons hv hr=>
    cases hr with
    | cons hv2 hr2=>
      cases hr2
      obtain⟨l,A3,e3,ev3⟩:=B0 ev2
      obtain⟨rfl,a,xs,rfl,hq,r⟩:=V9 rl1 hv e3
      obtain⟨m,A4,e4,ev4⟩:=B0 ev3
      obtain⟨rfl,b,ys,rfl,hq2,r2⟩:=V9 rl1 hv2 e4
      cases ev4
      exact⟨a,xs,b,ys,rfl,hq,hq2,k ρ1 H1 _ x1 rl1 ⟨a,b,hv,hv2,rfl⟩⟩
 ·obtain⟨a,xs,b,ys,rfl,hq,hq2,q⟩:=q1
  cases r1 with
  | cons h1 t1=>
    cases t1 with
    | cons h2 t2=>
      cases t2
      cases h1
      cases h2
      obtain⟨its1,r1,p1⟩:=v0 I1 hq
      obtain⟨its2,r2,p2⟩:=v0 I1 hq2
      refine aL6 p1 p2 λh' S kp=>?_
      refine af6 S.zr ?_
      have I2:L2.Inv X pins σ H1 { s1 with heap:=h' }:=I1.kept (t':=s1.toks) kp
      have la:=p1.lt
      have lb:=p2.lt
      refine⟨s1.heap.objs.size+4,[s1.heap.objs.size+4,s1.heap.objs.size+2,s1.heap.objs.size+3,s1.heap.objs.size,s1.heap.objs.size+1],_,_,H1,rfl,I2,aU6 ht (kindOf x) (kindOf y) a b _ _ _ _ _ ?_,S,λc hc=>?_,q⟩
      ·have la:@LT.lt Nat _ a s1.heap.objs.size:=la
       have lb:@LT.lt Nat _ b s1.heap.objs.size:=lb
       constructor <;> first | exact Nat.ne_of_lt (by omega) | exact Nat.ne_of_gt (by omega)
      ·have hb2:s1.heap.objs.size<=c:=by
        simp only [List.mem_cons,List.not_mem_nil,or_false] at hc
        rcases hc with rfl | rfl | rfl | rfl | rfl
        ·exact Nat.le_add_right _ 4
        ·exact Nat.le_add_right _ 2
        ·exact Nat.le_add_right _ 3
        ·exact Nat.le_refl _
        ·exact Nat.le_add_right _ 1
       exact I1.fpOk hb2 (I1.hok.fresh hb2)
end
abbrev af7 (led:Bool):Obj:={ cls:=.type "set",dict:=none,data:=.set #[] 0 (.fresh 0 0 led) }
section
variable {prog:Program} {w:World} {A:Around} {E:Value->Shared->Prop} {s:Shared}
set_option maxHeartbeats 3200000 in
theorem ar8 {l:Addr} {its:Array Value} {ns:List Int} {Q:Value->Shared->Prop} (hh:A.handled=none) (hl:s.heap.IsTuple l its) (hi:IntsAre its.toList ns) (hb:its.size+1<scanBound)
 (h:∀(h':Heap) (tk:Nat),h'.SetOf (intKind prog w) s.heap.objs.size (λk'=>(firstMet (λi=>ns.getD i 0) its.size).any (·== k')) (firstMet (λi=>ns.getD i 0) its.size).length->(∀b o,b<s.heap.objs.size->s.heap.get? b=some o->h'.get? b=some o)->Q (.ref s.heap.objs.size) { s with heap:=h',toks:=tk }) :
 wpAny (model prog w) A (call (.type "set") [.ref l]) Q E s:=by
 obtain⟨c,tl,hmro⟩:=PySem.F.called_set.mro
 have hmade:=PySem.F.called_set.made
 have hsub:=PySem.F.called_set.sub
 refine wpAny_call (codeAny_of_tree ?_)
 show wpAny _ _ (callAny (.type "set") _) _ _ _
 refine wpAny_pure ⟨Code.quiet_builtin _ (by decide +kernel),codeAny_builtin PySem.F.entry_type_call ?_⟩
 rw [Around.under_plain (weight_type_call_type "set" [.ref l] []) rfl]
 have h1:=PySem.F.called_set.notType
 have h2:=PySem.F.called_set.canCreate
 have hct:=PySem.F.typeCall_set_1 (.ref l)
 repeat (any_goals (first | assumption | wp_step))
 refine codeAny_mono (code_set_new_1 (.ref l) (E:=E) (Q₁:=λobj s₁=>∃led:Bool,obj=.ref s.heap.objs.size/\s₁={ s with heap:=s.heap.push (af7 led) }) λled=>⟨led,rfl,rfl⟩) λr s₁ hr=>?_
 cases r with
 | error e=>exact hr
 | ok fl=>
   cases fl with
   | ret obj=>
     obtain⟨led,rfl,rfl⟩:=hr
     have hS:(s.heap.push (af7 led)).get? s.heap.objs.size=some (af7 led):=Heap.get?_push_size _ rfl
     have hT:Shared.TypeIs { s with heap:=s.heap.push (af7 led) } (.ref s.heap.objs.size) "set":=⟨_,hS,rfl⟩
     have hli:=PySem.F.called_set.init.lookup
     have hbi:=PySem.F.called_set.init.bind (.ref s.heap.objs.size)
     repeat (any_goals (first | assumption | wp_step))
     refine codeAny_mono (codeAny_call_builtin (R:=wants (λr s₂=>r=.none/\∃h' tk,s₂={ s with heap:=h',toks:=tk }/\
      h'.SetOf (intKind prog w) s.heap.objs.size (λk'=>(firstMet (λi=>ns.getD i 0) its.size).any (·== k')) (firstMet (λi=>ns.getD i 0) its.size).length/\
      (∀b o,b<s.heap.objs.size->s.heap.get? b=some o->h'.get? b=some o)) E) PySem.F.called_set.init.plain PySem.F.entry_set_init (check_set_init_1 hT ?_)) λr₂ s₂ hr₂=>?_
     ·obtain⟨ol,hol,hcl,nl,hdl⟩:=hl
      obtain⟨ocls,odict,odata,oslots⟩:=ol
      simp only at hcl hdl
      subst hcl;subst hdl
      have hol':(s.heap.push (af7 led)).get? l=some { cls:=.type "tuple",dict:=odict,data:=.seq its nl,slots:=oslots }:=Heap.get?_push_of_some _ hol
      have hsls:=PySem.F.sub_tuple_set
      have hslf:=PySem.F.sub_tuple_frozenset
      have hne:(Value.type "tuple" == Value.type "dict")=false:=by decide
      have hl1:(s.heap.push (af7 led)).IsTuple l its:=⟨_,hol',rfl,nl,rfl⟩
      unfold Builtin.«set.__init__» noKeywords Builtin.Frozenset.updateFrom
      generalize hPI:pyIter=PI
      wp_walk
      subst hPI
      refine wpAny_pyIter_tuple hl1 ?_
      refine wpAny_bind (wpAny_runValue ?_)
      have hlS:l<s.heap.objs.size:=Heap.lt_size hol
      have hh3:A.in1.in1.in1.handled=none:=by simp [hh]
      have hneI:l≠(s.heap.push (af7 led)).objs.size:=by
       rw [Heap.size_push];exact Nat.ne_of_lt (Nat.lt_succ_of_lt hlS)
      have hSf:s.heap.objs.size∉[(s.heap.push (af7 led)).objs.size,l]:=by
       rw [Heap.size_push];simp only [List.mem_cons,List.mem_singleton,List.not_mem_nil,or_false,not_or]
       exact⟨Nat.ne_of_lt (Nat.lt_succ_self _),Nat.ne_of_gt hlS⟩
      have hval:∀(i:Nat) (v:Value),its[i]?=some v->∃t,v=.int ((λi=>ns.getD i 0) i) t:=λi v hv=>IntsAre.int_at hi i v (by rw [Array.getElem?_toList];exact hv)
      refine codeAny_set_update_loopS ((Walks.tuple hh3 _ l hneI its).toS) s.heap.objs.size hSf (λi=>ns.getD i 0) hval hb (its.size - 0) 0 _ (by omega) (Nat.zero_le _)
       ⟨⟨_,Heap.get?_push_size _ rfl,rfl,rfl⟩,(hl1.push _)⟩ ?hS0 ?hR
      case hS0=>
       have hget:((s.heap.push (af7 led)).push { cls:=.type "tuple_iterator",data:=.fields #[.ref l,.int 0 0] }).get? s.heap.objs.size=some (af7 led):=Heap.get?_push_of_some _ hS
       exact SetOf_congr ((setObjOf_fresh (knd:=intKind prog w) led).setOf hget (by unfold scanBound;omega)) (λ_=>rfl) rfl
      case hR=>
       intro s' hm hS'
       obtain⟨h',g',d',tk',os'⟩:=s'
       have eg:g'=s.gens:=hm.gens
       have ed:d'=s.drawn:=hm.drawn
       have eo:os'=s.os:=hm.os
       subst eg;subst ed;subst eo
       show wpAny _ _ _ _ _ _
       refine wpAny_pure ?_
       show wpAny _ _ (PySem.ret Value.none) _ _ _
       refine wpAny_pure ⟨rfl,h',tk',rfl,hS',λb o hb e=>?_⟩
       have hb1:b≠s.heap.objs.size:=Nat.ne_of_lt hb
       have hb2:b≠(s.heap.push (af7 led)).objs.size:=by
        rw [Heap.size_push];exact Nat.ne_of_lt (Nat.lt_succ_of_lt hb)
       exact hm.heap b o (by simp only [List.mem_cons,List.mem_singleton,List.not_mem_nil,or_false,not_or];exact⟨hb1,hb2⟩) (Heap.get?_push_of_some _ (Heap.get?_push_of_some _ e))
     ·cases r₂ with
      | error e=>exact hr₂
      | ok fl₂=>
        cases fl₂ with
        | ret r=>
          obtain⟨rfl,h',tk,rfl,hS',hk'⟩:=hr₂
          repeat (any_goals (first | assumption | wp_step))
          exact h _ _ hS' hk'
        | _=>exact hr₂.elim
   | _=>exact hr.elim
end
theorem aU7 (ns:List Int):(firstMet (λi=>ns.getD i 0) ns.length).length=ad0 ns:=by
 unfold firstMet ad0
 have e:(List.range ns.length).map (λi=>ns.getD i 0)=ns:=by
  refine List.ext_getElem? λk=>?_
  rw [List.getElem?_map]
  by_cases hk:k<ns.length
  ·rw [List.getElem?_range hk];simp [hk]
  ·simp [hk]
 rw [e];rfl
section
variable {X:L2.Cx} {cm:Nat->Addr}
theorem aL7 {e:Expr} {d:ED} {p1 p2 q1 q2:Pos} (hcalm:X.calm=true) (he:L2.PE X e (EvE X.K cm d)) (hg1:L2.Gl X "len") (hm1:X.mg "len" = none) (hg2:L2.Gl X "set") (hm2:X.mg "set" = none)
 (hs2:starEach [e] X.env=(false,eval e X.env)::starEach [] X.env:=by exact G0 rfl)
 (hs1:starEach [.Call (.Name "set" p2) [e] [] q2] X.env=(false,eval (.Call (.Name "set" p2) [e] [] q2) X.env)::starEach [] X.env:=by rfl) :
 L2.PE X (.Call (.Name "len" p1) [.Call (.Name "set" p2) [e] [] q2] [] q1) (EvE X.K cm (ad1 d)):=by
 intro pins s σ H Q I h
 obtain⟨ρ,A,σp,v,A',rl,rs,ev,k⟩:=h
 obtain⟨x,A1,e1,ev1⟩:=B0 ev
 refine Call_ (L2.Q1 I hg1 hm1 PySem.boot_len (callWith_builtin1 (X5 hs1 ?_) hs1 rfl))
 refine Call_ (L2.Q1 I hg2 hm2 (show bootBuiltins "set" = some (.type "set") from by rfl) (callWith_type1 (X5 hs2 ?_) hs2 rfl))
 refine L2.thn (he pins s σ H (λv H1=>∃(a:Addr) (ns:List Int),v=.ref a/\SqK (kindOf x) X.K H1 a (ns.map L2.V.int)/\ns.length<1000/\Q (.int (ad0 ns)) H1) I ⟨ρ,A,σp,x,A1,rl,rs,e1,λρ1 H1 v1 x1 rl1 rv1=>?_⟩) λu s1 ⟨w1,H1,I1,r1,a,ns,ew,hq,hlt,q⟩=>?_
 ·obtain⟨l,A2,e2,ev2⟩:=B0 ev1
  obtain⟨rfl,a,xs,rfl,hH,r0⟩:=V9 rl1 rv1 e2
  cases hi:L6 l with
  | none=>rw [hi] at ev2;cases ev2
  | some ns=>
    rw [hi] at ev2
    obtain⟨c,ev3⟩:=C7 ev2
    cases ev3
    rw [Q6 hi] at r0
    exact⟨a,ns,rfl,by rw [←o4 r0];exact hH,c,k ρ1 H1 _ x1 rl1 (.int _)⟩
 ·subst ew
  obtain rfl:u=Value.ref a:=r1
  have fin:∀(h':Heap) (tk:Nat) (n:Nat),n=ns.length->h'.SetOf (intKind X.prog X.w) s1.heap.objs.size (λk'=>(firstMet (λi=>ns.getD i 0) n).any (·== k')) (firstMet (λi=>ns.getD i 0) n).length->
   (∀b o,b<s1.heap.objs.size->s1.heap.get? b=some o->h'.get? b=some o)->wpAny (model X.prog X.w) X.A (call (.builtin "len") [.ref s1.heap.objs.size]) (L2.EP X pins σ Q) X.xe { s1 with heap:=h',toks:=tk }:=by
   intro h' tk n hn hset hold
   subst hn
   obtain⟨o,es,ep,t,ho,hex,hd,_,_,_,hf,hsz⟩:=hset
   have hn:es.size=ad0 ns:=by rw [hsz];exact aU7 ns
   have hle:=aR7 ns
   refine call_len_set (s:={ s1 with heap:=h',toks:=tk }) ho hex hd hf (by omega) ?_
   rw [hn]
   exact⟨.int (ad0 ns),H1,I1.kept (h':=h') (t':=tk+1+1) (λb ob e=>hold b ob (Heap.lt_size e) e),⟨_,rfl⟩,q⟩
  cases hk:kindOf x with
  | true=>
    rw [hk] at hq
    obtain⟨its,ri,pl,hz⟩:=I1.tuple hq
    have hi:IntsAre its ns:=L2.S8 ri
    have hl:its.length=ns.length:=hi.length
    refine ar8 (I1.ok.hd hcalm) pl (by simpa using hi) (by rw [List.size_toArray,hl];exact Nat.lt_of_lt_of_le (Nat.succ_lt_succ hlt) (by decide)) λh' tk hset hold=>fin h' tk _ (by rw [List.size_toArray,hl]) hset hold
  | false=>
    rw [hk] at hq
    obtain⟨its,ri,pl,hz⟩:=I1.list hq
    have hi:IntsAre its ns:=L2.S8 ri
    have hl:its.length=ns.length:=hi.length
    refine call_set_list (I1.ok.hd hcalm) pl.isList (by simpa using hi) (by rw [List.size_toArray,hl];exact Nat.lt_of_lt_of_le (Nat.succ_lt_succ hlt) (by decide)) λh' tk hset hold=>fin h' tk _ (by rw [List.size_toArray,hl]) hset hold
end
end Ws
namespace Ws
open PySem PySem.W PyProof.Rows PySem.Calls
end Ws
namespace Ws
open PySem PySem.W PyProof.Rows PySem.Calls Builtin Builtin.ObjectAttr
end Ws
namespace Ws
open PySem PySem.W PyProof.Rows PySem.Calls
end Ws
namespace Ws
open PySem
end Ws
namespace Ws
open PySem
open PySem.SeqAt
end Ws
namespace Ws
end Ws
namespace Ws
open PySem PySem.Spec PySem.Calls PyProof.Rows
end Ws
namespace Ws
open PySem
theorem af8 {i j:List Int} (h:i.map (Sum.inl:Int->L2.Key)=j.map Sum.inl):i=j:=(List.map_inj_right λ_ _ z=>Sum.inl.inj z).mp h
section
variable {ρ:List Addr} {H:L2.Hp} {K:PySem.W.Frag} {A:PHp} {n:Nat} {v:L2.V}
abbrev PT2 (ρ:List Addr) (H:L2.Hp) (m:List (List Int×PV)) (kv:List (List L2.Key×L2.V)):Prop:=Pairs (List.map Sum.inl:List Int->List L2.Key) ρ H m kv
theorem PT2.len {m:List (List Int×PV)} {kv:List (List L2.Key×L2.V)} (h:PT2 ρ H m kv):m.length=kv.length:=by
 have:=congrArg List.length h.keys
 simpa using this.symm
theorem PT2.val:∀{m:List (List Int×PV)} {kv:List (List L2.Key×L2.V)} (i:List Int),PT2 ρ H m kv->(K0 m i=none/\L2.Y4 kv (i.map Sum.inl)=none)\/∃x u,K0 m i=some x/\L2.Y4 kv (i.map Sum.inl)=some u/\RV ρ H x u
 | [],kv,i,h=>by obtain rfl:=h.nil_inv;exact .inl ⟨rfl,rfl⟩
 | p::r,kv,i,h=>by
   obtain⟨u,kv',rfl,hu,t⟩:=h.cons_inv
   unfold K0
   by_cases e:p.1=i
   ·rw [if_pos e,L2.l6 (by rw [e])]
    exact .inr ⟨_,_,rfl,rfl,hu⟩
   ·rw [if_neg e,L2.l7 (λz=>e (af8 z))]
    exact PT2.val i t
theorem PT2.some_eq {m:List (List Int×PV)} {kv:List (List L2.Key×L2.V)} (i:List Int) (h:PT2 ρ H m kv):(L2.Y4 kv (i.map Sum.inl)).isSome=(K0 m i).isSome:=by
 rcases PT2.val i h with ⟨a,b⟩ | ⟨x,u,a,b,_⟩ <;> rw [a,b] <;> rfl
theorem aw6 (i:List Int):∀m:List (List Int×PV),(m.any λp=>decide (p.1=i))=(K0 m i).isSome
 | []=>rfl
 | p::r=>by
   unfold K0
   rw [List.any_cons]
   by_cases e:p.1=i
   ·rw [if_pos e,decide_eq_true e];rfl
   ·rw [if_neg e,decide_eq_false e,Bool.false_or];exact aw6 i r
theorem PT2.repl {x:PV} {u:L2.V} (ru:RV ρ H x u) (i:List Int):∀{m:List (List Int×PV)} {kv:List (List L2.Key×L2.V)},PT2 ρ H m kv->PT2 ρ H (m.map λp=>if p.1=i then (p.1,x) else p) (kv.map λp=>if p.1=(i.map Sum.inl) then (p.1,u) else p)
 | [],kv,h=>by obtain rfl:=h.nil_inv;exact⟨rfl,.nil⟩
 | p::r,kv,h=>by
   obtain⟨w,kv',rfl,hw,t⟩:=h.cons_inv
   have ih:=PT2.repl ru i t
   rw [List.map_cons,List.map_cons]
   by_cases e:p.1=i
   ·rw [if_pos e,if_pos (by rw [e])];exact Pairs.cons' (p:=(p.1,x)) ru ih
   ·rw [if_neg e,if_neg (λz=>e (af8 z))];exact Pairs.cons' hw ih
theorem PT2.snoc {x:PV} {u:L2.V} (ru:RV ρ H x u) (i:List Int):∀{m:List (List Int×PV)} {kv:List (List L2.Key×L2.V)},PT2 ρ H m kv->PT2 ρ H (m++[(i,x)]) (kv++[(i.map Sum.inl,u)])
 | [],kv,h=>by obtain rfl:=h.nil_inv;exact Pairs.cons' (p:=(i,x)) ru ⟨rfl,.nil⟩
 | p::r,kv,h=>by
   obtain⟨w,kv',rfl,hw,t⟩:=h.cons_inv
   exact Pairs.cons' hw (PT2.snoc ru i t)
theorem PT2.put {x:PV} {u:L2.V} (ru:RV ρ H x u) (i:List Int) {m:List (List Int×PV)} {kv:List (List L2.Key×L2.V)} (h:PT2 ρ H m kv):PT2 ρ H (R4 m i x) (L2.U3 kv (i.map Sum.inl) u):=by
 unfold R4 L2.U3
 have e:(kv.any λp=>decide (p.1=(i.map Sum.inl)))=(m.any λp=>decide (p.1=i)):=by
  rw [aw6,L2.ab7];exact h.some_eq i
 rw [e]
 by_cases a:(m.any λp=>decide (p.1=i))=true
 ·rw [if_pos a,if_pos a];exact h.repl ru i
 ·rw [if_neg a,if_neg a];exact h.snoc ru i
theorem N6 {cm:Nat->Addr} {m:List (List Int×PV)} {A':PHp} (rl:Rel K cm ρ A H) (r:RV ρ H (.ref n) v) (h:Q0 n A=.ok m A'):A'=A/\A[n]?=some (.dT m)/\∃a kv,v=.ref a/\ρ[n]?=some a/\H a=some (.dT kv)/\PT2 ρ H m kv:=by
 cases r with
 | ref hn=>
   unfold Q0 at h
   rcases hA:A[n]? with _ | o
   ·rw [hA] at h;cases h
   ·have q:=rl.obj n o _ hA hn
    cases o with
    | dT m=>rw [hA] at h;cases h;obtain⟨xs,h1,h2⟩:=q;exact⟨rfl,rfl,_,xs,rfl,hn,h1,h2⟩
    | _=>rw [hA] at h;cases h
end
theorem T8 {ρ:List Addr} {H:L2.Hp} {kx:PV} {j:List Int} {v:L2.V} (h:O1 kx=some j) (r:RV ρ H kx v):∃b,v=.ref b/\H b=some (.tup ((j.map Sum.inl).map L2.kV)):=by
 cases kx with
 | tup l=>
   have h:L6 l=some j:=h
   cases r with
   | tup ha hv=>
     rw [Q6 h] at hv
     have:=o4 hv
     refine⟨_,rfl,?_⟩
     rw [ha,this]
     congr 2
     simp [L2.kV]
 | _=>cases h
section
variable {X:L2.Cx} {cm:Nat->Addr}
theorem aU8 {y d:ED} {σ:L2.St} {H:L2.Hp} {Q:L2.VK} (h:EvE X.K cm (aB1 y d) σ H Q):L2.bj1 (EvE X.K cm y) (EvE X.K cm d) σ H Q:=by
 obtain⟨ρ,A,σp,v,A',rl,rs,ev,k⟩:=h
 obtain⟨kx,A1,e1,ev1⟩:=B0 ev
 obtain⟨x,A2,e2,ev2⟩:=B0 ev1
 refine⟨ρ,A,σp,kx,A1,rl,rs,e1,λρ1 H1 v1 x1 rl1 rv1=>⟨ρ1,A1,σp,x,A2,rl1,rs.mono x1,e2,λρ2 H2 v2 x2 rl2 rv2=>?_⟩⟩
 rcases hkj:O1 kx with _ | j <;> rw [hkj] at ev2
 ·cases ev2
 cases x with
 | ref n=>
   obtain⟨m,A3,e3,ev3⟩:=B0 ev2
   obtain⟨rfl,hA,a,kv,rfl,hn,hH,hp⟩:=N6 rl2 rv2 e3
   cases ev3
   obtain⟨b,rfl,hb⟩:=T8 hkj (rv1.mono x2)
   refine⟨a,_,rfl,L2.DGet.t hH hb,?_⟩
   rw [hp.some_eq j]
   exact k ρ2 H2 _ (x1.trans x2) rl2 (.bl _)
 | _=>cases ev2
theorem aU9 {i o:Expr} {y d:ED} {pos:Pos} (hu:X.A.units+1<cLine) (hi:L2.PE X i (EvE X.K cm y)) (ho:L2.PE X o (EvE X.K cm d)) (h1:behindInMarks .In o=false:=by rfl):L2.PE X (.Compare i [.In] [o] pos) (EvE X.K cm (aB1 y d)):=
 D7 (L2.az3 (L2.aR0 hu hi ho) h1) λσ H Q h=>aU8 h
theorem a37 {i o:Expr} {y d:ED} {pos:Pos} (hu:X.A.units+1<cLine) (hi:L2.PE X i (EvE X.K cm y)) (ho:L2.PE X o (EvE X.K cm d)) (h1:behindInMarks .In o=false:=by rfl):L2.PT X (.Compare i [.In] [o] pos) (EvT X.K cm (G9 (aB1 y d))):=
 u5 (L2.az4 (L2.aR0 hu hi ho) h1) λσ H Q h=>n4 (λ_ _ _=>aU8 (X:=X)) h
theorem aC4 {o i value:Expr} {d y e:ED} {pos pos':Pos} (hu:X.A.units+1<cLine) (ho:L2.PE X o (EvE X.K cm d)) (hi:L2.PE X i (EvE X.K cm y)) (hv:L2.PE X value (EvE X.K cm e)) (hs:swapsWith value (some (.Subscript o i pos')) pos.line X.env=pure false:=by rfl) :
 L2.PS X (.Assign [.Subscript o i pos'] value pos) (EvS X.K cm (al6 d y e)):=
 X4 (L2.a14 hu ho hi hv hs) λD σ H ⟨ρ,A,σp,f,A',rl,rs,ev,k⟩=>by
  obtain⟨w,A1,e1,ev1⟩:=B0 ev
  obtain⟨x,A2,e2,ev2⟩:=B0 ev1
  obtain⟨kx,A3,e3,ev3⟩:=B0 ev2
  refine⟨ρ,A,σp,w,A1,rl,rs,e1,λρ1 H1 v1 x1 rl1 rv1=>⟨ρ1,A1,σp,x,A2,rl1,rs.mono x1,e2,λρ2 H2 v2 x2 rl2 rv2=>⟨ρ2,A2,σp,kx,A3,rl2,(rs.mono x1).mono x2,e3,λρ3 H3 v3 x3 rl3 rv3=>?_⟩⟩⟩
  rcases hkj:O1 kx with _ | j <;> rw [hkj] at ev3
  ·cases x <;> cases ev3
  cases x with
  | ref n=>
    obtain⟨m,A4,e4,ev4⟩:=B0 ev3
    obtain⟨rfl,hA,a,kv,rfl,hn,hH,hp⟩:=N6 rl3 (rv2.mono x3) e4
    obtain⟨c,ev5⟩:=C7 ev4
    cases ev5
    obtain⟨b,rfl,hb⟩:=T8 hkj rv3
    refine⟨a,_,rfl,L2.DPut.t hH hb (by rw [←hp.len];exact aq9 c),?_⟩
    have ex:Ext ρ3 H3 ρ3 (L2.upd H3 a (.dT (L2.U3 kv (j.map Sum.inl) v1))):=Ext.put rl3 hn hA rfl
    have rl4:Rel X.K cm ρ3 (A4.set n (.dT (R4 m j w))) (L2.upd H3 a (.dT (L2.U3 kv (j.map Sum.inl) v1))):=
     rl3.put hn hA rfl rfl ⟨_,L2.D2,PT2.put ((((rv1.mono x2).mono x3)).mono ex) j (hp.mono ex)⟩
    exact k ρ3 _ (((x1.trans x2).trans x3).trans ex) rl4 σ ((((rs.mono x1).mono x2).mono x3).mono ex)
  | _=>cases ev3
theorem v6 {o i:Expr} {d y:ED} {pos:Pos} (hu:X.A.units+1<cLine) (ho:L2.PE X o (EvE X.K cm d)) (hi:L2.PE X i (EvE X.K cm y)) (hs:L2.bd0 i):L2.PE X (.Subscript o i pos) (EvE X.K cm (z0 d y)):=
 D7 (L2.a13 hu ho hi hs) λσ H Q ⟨ρ,A,σp,v,A',rl,rs,ev,k⟩=>by
  obtain⟨x,A1,e1,ev1⟩:=B0 ev
  obtain⟨kx,A2,e2,ev2⟩:=B0 ev1
  refine⟨ρ,A,σp,x,A1,rl,rs,e1,λρ1 H1 v1 x1 rl1 rv1=>⟨ρ1,A1,σp,kx,A2,rl1,rs.mono x1,e2,λρ2 H2 v2 x2 rl2 rv2=>?_⟩⟩
  rcases hkj:O1 kx with _ | j <;> rw [hkj] at ev2
  ·cases x <;> cases ev2
  cases x with
  | ref n=>
    obtain⟨m,A3,e3,ev3⟩:=B0 ev2
    obtain⟨rfl,hA,a,kv,rfl,hn,hH,hp⟩:=N6 rl2 (rv1.mono x2) e3
    obtain⟨b,rfl,hb⟩:=T8 hkj rv2
    rcases hp.val j with ⟨h1,h2⟩ | ⟨z,u,h1,h2,ru⟩
    ·rw [h1] at ev3;cases ev3
    ·rw [h1] at ev3
     cases ev3
     exact⟨a,u,rfl,by rw [←h2];exact L2.DGet.t hH hb,k ρ2 H2 _ (x1.trans x2) rl2 ru⟩
  | _=>cases ev2
theorem ar9 {pos:Pos}:L2.PE X (.Dict [] [] pos) (EvE X.K cm al7):=
 D7 L2.aR2 λσ H Q ⟨ρ,A,σp,v,A',rl,rs,ev,k⟩ p hp=>by
  cases ev
  have ex:Ext ρ H (ρ++[p]) (L2.upd H p (.dT [])):=Ext.new hp
  exact k (ρ++[p]) _ _ ex (rl.alloc hp ⟨_,L2.D2,⟨rfl,.nil⟩⟩ rfl) (.ref (by rw [←rl.len];simp))
theorem a38 {o e:Expr} {d y:ED} {apos cpos:Pos} (hu:X.A.units+1<cLine) (ho:L2.PE X o (EvE X.K cm d)) (he:L2.PE X e (EvE X.K cm y)) (m:L2.M1 X o "get" apos e cpos:=by exact⟨rfl,rfl,rfl,rfl⟩):L2.PE X (.Call (.Attribute o "get" apos) [e] [] cpos) (EvE X.K cm (aB2 d y)):=
 D7 (L2.aR3 hu ho he m) λσ H Q ⟨ρ,A,σp,v,A',rl,rs,ev,k⟩=>by
  obtain⟨x,A1,e1,ev1⟩:=B0 ev
  refine⟨ρ,A,σp,x,A1,rl,rs,e1,λρ1 H1 v1 x1 rl1 rv1=>?_⟩
  cases x with
  | ref n=>
    obtain⟨m0,A2,e2,ev2⟩:=B0 ev1
    obtain⟨rfl,hA,a,kv,rfl,hn,hH,hp⟩:=N6 rl1 rv1 e2
    refine⟨a,rfl,.inr ⟨kv,.inl hH⟩,?_⟩
    obtain⟨kx,A3,e3,ev3⟩:=B0 ev2
    refine⟨ρ1,_,σp,kx,A3,rl1,rs.mono x1,e3,λρ2 H2 v2 x2 rl2 rv2=>?_⟩
    rcases hkj:O1 kx with _ | j <;> rw [hkj] at ev3
    ·cases ev3
    obtain⟨m1,A5,e5,ev5⟩:=B0 ev3
    obtain⟨rfl,hA2,a2,kv2,e6,hn2,hH2,hp2⟩:=N6 rl2 (rv1.mono x2) e5
    cases e6
    cases ev5
    obtain⟨b,rfl,hb⟩:=T8 hkj rv2
    refine⟨_,L2.DGet.t hH2 hb,?_⟩
    rcases hp2.val j with ⟨h1,h2⟩ | ⟨q,u,h1,h2,ru⟩
    ·rw [h1] at k;rw [h2];exact k ρ2 H2 _ (x1.trans x2) rl2 .non
    ·rw [h1] at k;rw [h2];exact k ρ2 H2 _ (x1.trans x2) rl2 ru
  | _=>cases ev1
theorem a39 {o e f:Expr} {d y z:ED} {apos cpos:Pos} (hu:X.A.units+1<cLine) (ho:L2.PE X o (EvE X.K cm d)) (he:L2.PE X e (EvE X.K cm y)) (hf:L2.PE X f (EvE X.K cm z)) (m:L2.M2 X o "get" apos e f cpos:=by exact⟨rfl,rfl,rfl,rfl⟩):L2.PE X (.Call (.Attribute o "get" apos) [e,f] [] cpos) (EvE X.K cm (aB3 d y z)):=
 D7 (L2.aR4 hu ho he hf m) λσ H Q ⟨ρ,A,σp,v,A',rl,rs,ev,k⟩=>by
  obtain⟨x,A1,e1,ev1⟩:=B0 ev
  refine⟨ρ,A,σp,x,A1,rl,rs,e1,λρ1 H1 v1 x1 rl1 rv1=>?_⟩
  cases x with
  | ref n=>
    obtain⟨m0,A2,e2,ev2⟩:=B0 ev1
    obtain⟨rfl,hA,a,kv,rfl,hn,hH,hp⟩:=N6 rl1 rv1 e2
    refine⟨a,rfl,.inr ⟨kv,.inl hH⟩,?_⟩
    obtain⟨kx,A3,e3,ev3⟩:=B0 ev2
    obtain⟨w,A4,e4,ev4⟩:=B0 ev3
    refine⟨ρ1,_,σp,kx,A3,rl1,rs.mono x1,e3,λρ2 H2 v2 x2 rl2 rv2=>⟨ρ2,A3,σp,w,A4,rl2,(rs.mono x1).mono x2,e4,λρ3 H3 v3 x3 rl3 rv3=>?_⟩⟩
    rcases hkj:O1 kx with _ | j <;> rw [hkj] at ev4
    ·cases ev4
    obtain⟨m1,A5,e5,ev5⟩:=B0 ev4
    obtain⟨rfl,hA2,a2,kv2,e6,hn2,hH2,hp2⟩:=N6 rl3 ((rv1.mono x2).mono x3) e5
    cases e6
    cases ev5
    obtain⟨b,rfl,hb⟩:=T8 hkj (rv2.mono x3)
    refine⟨_,L2.DGet.t hH2 hb,?_⟩
    rcases hp2.val j with ⟨h1,h2⟩ | ⟨q,u,h1,h2,ru⟩
    ·rw [h1] at k;rw [h2];exact k ρ3 H3 _ ((x1.trans x2).trans x3) rl3 rv3
    ·rw [h1] at k;rw [h2];exact k ρ3 H3 _ ((x1.trans x2).trans x3) rl3 ru
  | _=>cases ev1
end
end Ws
namespace Ws
open PySem PySem.W PyProof.Rows
def bl0 (x:Int) (n:Nat) (hs:List Int) (t:SetTable):SetTable:=
 match t.freeSlot x with
 | some (slot,_)=>
   if (t.put slot).1.tooFull then (match (t.put slot).1.relaid hs.toArray (SetTable.grown n) with
    | some (t2,_)=>t2
    | none=>(t.put slot).1)
   else (t.put slot).1
 | none=>t
def I9 (led:Bool) (ns:List Int):SetTable:=(List.range ns.length).foldl (λt i=>bl0 (ns.getD i 0) (i+1) (ns.take (i+1)) t) (.fresh 0 0 led)
def am6 (led:Bool) (ns:List Int):Bool:=
 (I9 led ns).fits ns.length&&(I9 led ns).led == led&&(I9 led ns).plain&&SetTable.below (I9 led ns).place 0 == 0&&(List.range ns.length).all (λi=>SetTable.below (I9 led ns).place ((I9 led ns).place.getD i 0+1) == i+1)
abbrev sixes:List (List Int):=aB0 [0,1,2,3,4,5]
theorem a40:sixes.all (λns=>(List.range (ns.length+1)).all λi=>am6 true (ns.take i)&&am6 false (ns.take i))=true:=by decide +kernel
theorem a41:sixes.all (λns=>ns.all (λx=>decide (hashInt x=x))&&decide (ns.length<=6)&&decide (ns.Pairwise (·< ·)))=true:=by decide +kernel
theorem aC5 {ns:List Int} (h:ns∈sixes) {i:Nat} (hi:i<=ns.length) (led:Bool):am6 led (ns.take i)=true:=by
 have:=List.all_eq_true.mp (List.all_eq_true.mp a40 ns h) i (List.mem_range.mpr (by omega))
 rw [Bool.and_eq_true] at this
 cases led
 ·exact this.2
 ·exact this.1
end Ws
namespace Ws
open PySem PySem.W PyProof.Rows PySem.Spec
def S7 (es:Array (Int×Value)) (ep:Nat) (t:SetTable):Obj:={ cls:=.type "set",dict:=none,data:=.set es ep t }
structure EsOf (es:Array (Int×Value)) (ns:List Int):Prop where
 hs:es.toList.map (·.1)=ns
 vs:IntsAre (es.toList.map (·.2)) ns
theorem EsOf.size {es:Array (Int×Value)} {ns:List Int} (h:EsOf es ns):es.size=ns.length:=by
 have:=congrArg List.length h.hs
 simpa using this
theorem EsOf.ent {es:Array (Int×Value)} {ns:List Int} (h:EsOf es ns) {e:Int×Value} (he:e∈es.toList):e.1∈ns/\∃t,e.2=.int e.1 t:=by
 obtain⟨i,hi,rfl⟩:=List.getElem_of_mem he
 have h1:ns[i]?=some es.toList[i].1:=by rw [←h.hs,List.getElem?_map,List.getElem?_eq_getElem hi];rfl
 obtain⟨t,ht⟩:=IntsAre.int_at h.vs i es.toList[i].2 (by rw [List.getElem?_map,List.getElem?_eq_getElem hi];rfl)
 refine⟨List.mem_of_getElem? h1,t,?_⟩
 rw [ht,List.getD_eq_getElem?_getD,h1];rfl
section
variable {prog:Program} {w:World} {A:Around} {E:Value->Shared->Prop} {s:Shared}
theorem EsOf.elems {es:Array (Int×Value)} {ns:List Int} (h:EsOf es ns) (hh:∀x∈ns,hashInt x=x):ElemsOf (intKind prog w) es.toList:=by
 intro e he
 obtain⟨h1,t,h2⟩:=h.ent he
 exact⟨⟨e.1,by rw [h2];exact intKind_is _ _ _ _,(hh _ h1).symm⟩,by rw [h2];rfl⟩
theorem o5 {ns:List Int} (h:ns∈sixes):(∀x∈ns,hashInt x=x)/\ns.length<=6/\ns.Pairwise (·< ·):=by
 have:=List.all_eq_true.mp a41 ns h
 simp only [Bool.and_eq_true,decide_eq_true_eq,List.all_eq_true] at this
 exact⟨this.1.1,this.1.2,this.2⟩
theorem aC6 {es:Array (Int×Value)} (h:es.size=5):(#[0,1,2,3,4]:Array Nat).filterMap (es[·]?)=es:=by
 obtain⟨l⟩:=es
 match l,h with
 | [a,b,c,d,e],_=>rfl
end
section
variable {prog:Program} {w:World} {A:Around} {R:Result->Shared->Prop} {E:Value->Shared->Prop} {s:Shared}
theorem a42 (a:Value) {Q₁:Value->Shared->Prop}
 (h:Q₁ (.ref s.heap.objs.size) { s with heap:=s.heap.push (S7 #[] 0 (.fresh 0 0 (!w.params.followText "set-order"))) }) :
 codeAny (model prog w) A (.call (.builtin "set.__new__") ⟨[.type "set",a],[]⟩) (wants Q₁ E) s:=by
 refine codeAny_of_tree ?_
 show wpAny _ A.in1 (do checkBuiltinCall "set.__new__" ⟨[.type "set",a],[]⟩;again (.builtin "set.__new__" ⟨[.type "set",a],[]⟩)) _ _ s
 refine wpAny_bind (wpAny_of_eq (PySem.F.newCall_set_1 a) (wpAny_pure ⟨plainId_quiet F.plain_set_new _,codeAny_builtin F.entry_set_new ?_⟩))
 rw [Around.under_plainId F.plain_set_new _]
 unfold Builtin.«set.__new__» Builtin.Frozenset.newClass
 have hsub:=sub_set_self
 obtain⟨hp,g,d,tk,os⟩:=s
 dsimp only
 wp_walk
 refine wpAny_askSetting (wpAny_pure ?_)
 dsimp only
 simp only [newObj]
 refine wpAny_bind (wpAny_alloc (wpAny_pure ?_))
 exact wpAny_pure h
end
end Ws
namespace Ws
open PySem PySem.W PyProof.Rows PySem.Spec PySem.Calls
theorem am7 {α:Type}:∀{l:List α} {j:Nat} (h:j<l.length),(l[j]::l.eraseIdx j).Perm l
 | a::l,0,h=>List.Perm.refl _
 | a::l,j+1,h=>(List.Perm.swap _ _ _).trans ((am7 (l:=l) (j:=j) (by simpa using h)).cons a)
theorem aG8 {α:Type} (next:Nat->Nat):∀(n k:Nat) (left:List α) (out:Array α),left.length=n->(pickOrder.go next n k left out).toList.Perm (out.toList++left)
 | 0,k,left,out,h=>by
   obtain rfl:=List.eq_nil_of_length_eq_zero h
   unfold pickOrder.go
   simp
 | n+1,k,left,out,h=>by
   have hlt:next k%left.length<left.length:=Nat.mod_lt _ (by omega)
   unfold pickOrder.go
   rw [List.getElem?_eq_getElem hlt]
   dsimp only
   refine (aG8 next n (k+1) _ _ (by rw [List.length_eraseIdx_of_lt hlt];omega)).trans ?_
   rw [Array.toList_push,List.append_assoc]
   exact List.Perm.append_left _ (am7 hlt)
theorem aC7 {α:Type} (next:Nat->Nat) (xs:Array α):(pickOrder next xs).toList.Perm xs.toList:=by
 have:=aG8 next xs.size 0 xs.toList #[] (by simp)
 simpa [pickOrder] using this
theorem si_slot_next:Slot "set_iterator" "__next__" "set_iterator.__next__":=
 .of (owner:="set_iterator") (n:="__next__") (by rw [typeLookup_type,builtinLookup_eq_fast];kernel_rfl) (by decide +kernel) (by decide +kernel) (by decide +kernel)
  (by first | exact .inl (by decide +kernel) | exact .inr (by decide +kernel)) (by rw [isSubtype_type];kernel_rfl)
theorem o6:Slot "set_iterator" "__iter__" "set_iterator.__iter__":=
 .of (owner:="set_iterator") (n:="__iter__") (by rw [typeLookup_type,builtinLookup_eq_fast];kernel_rfl) (by decide +kernel) (by decide +kernel) (by decide +kernel)
  (by first | exact .inl (by decide +kernel) | exact .inr (by decide +kernel)) (by rw [isSubtype_type];kernel_rfl)
theorem i3:entryFor table "set_iterator.__next__" = some Builtin.«set_iterator.__next__»:=entryFor_of_tree (by kernel_rfl)
theorem aj9:entryFor table "set_iterator.__iter__" = some Builtin.«dict_keyiterator.__iter__»:=
 entryFor_alias (id':="dict_keyiterator.__iter__") (by kernel_rfl) rfl (by decide +kernel) (by kernel_rfl)
theorem as0:entryFor table "set.__iter__" = some Builtin.«frozenset.__iter__»:=
 entryFor_alias (id':="frozenset.__iter__") (by kernel_rfl) rfl (by decide +kernel) (by kernel_rfl)
theorem aw7:Manifest.owners.lookup (String.ofList ['r','o','t','a','r','e','t','i','_','t','e','s'].reverse)=some Manifest.sig_set_iterator:=by kernel_rfl
theorem o7 (a:Value):argsOk "set_iterator.__next__" ⟨[a],[]⟩:=by
 unfold argsOk;rw [signature?_of (id:="set_iterator.__next__") (n:=['_','_','t','x','e','n','_','_']) (o:=['r','o','t','a','r','e','t','i','_','t','e','s']) (by kernel_rfl) aw7];kernel_rfl
theorem as1 (a:Value):argsOk "set_iterator.__iter__" ⟨[a],[]⟩:=by
 unfold argsOk;rw [signature?_of (id:="set_iterator.__iter__") (n:=['_','_','r','e','t','i','_','_']) (o:=['r','o','t','a','r','e','t','i','_','t','e','s']) (by kernel_rfl) aw7];kernel_rfl
def j7 (led:Bool) (ns:List Int):Nat->Nat
 | 0=>0
 | i+1=>if led then (I9 led ns).place.getD i 0+1 else 0
def IsSI (h:Heap) (it S:Addr) (led:Bool) (ns:List Int) (ep i:Nat):Prop:=
 ∃o,h.get? it=some o/\o.cls=.type "set_iterator"/\o.data=.fields #[.int (j7 led ns i) 0,.int i 0,.ref S,.int ns.length 0,.int ep 0]
theorem IsSI.typeIs {s:Shared} {it S:Addr} {led:Bool} {ns:List Int} {ep i:Nat} (x:IsSI s.heap it S led ns ep i):s.TypeIs (.ref it) "set_iterator":=
 let ⟨o,ho,hc,_⟩:=x;⟨o,ho,hc⟩
theorem IsSI.at {h h':Heap} {it S:Addr} {led:Bool} {ns:List Int} {ep i:Nat} (x:IsSI h it S led ns ep i) (e:∀o,h.get? it=some o->h'.get? it=some o):IsSI h' it S led ns ep i:=
 let ⟨o,ho,r⟩:=x;⟨o,e _ ho,r⟩
def W4 (w:World) (S:Addr) (ep:Nat) (es:Array (Int×Value)):List Value:=
 if w.params.followText "set-order" then (pickOrder (w.params.setOrder S ep) es).toList.map (·.2) else es.toList.map (·.2)
theorem af9 (w:World) (S:Addr) (ep:Nat) (es:Array (Int×Value)):(W4 w S ep es).Perm (es.toList.map (·.2)):=by
 unfold W4
 split
 ·exact (aC7 _ _).map _
 ·exact List.Perm.refl _
theorem v7 {w:World} {S:Addr} {ep:Nat} {es:Array (Int×Value)} {ns:List Int} (he:EsOf es ns):(W4 w S ep es).length=ns.length:=by
 rw [(af9 w S ep es).length_eq,List.length_map,Array.length_toList,he.size]
structure TabOk (b:Bool) (ns:List Int):Prop where
 fits:(I9 b ns).fits ns.length=true
 led:(I9 b ns).led=b
 plain:(I9 b ns).plain=true
 zero:SetTable.below (I9 b ns).place 0=0
 next:∀i<ns.length,SetTable.below (I9 b ns).place ((I9 b ns).place.getD i 0+1)=i+1
theorem aG9 {ns:List Int} (h:ns∈sixes) (led:Bool):TabOk led ns:=by
 have:=aC5 h (Nat.le_refl _) led
 rw [List.take_length] at this
 unfold am6 at this
 simp only [Bool.and_eq_true,beq_iff_eq,List.all_eq_true,List.mem_range] at this
 exact⟨this.1.1.1.1,this.1.1.1.2,this.1.1.2,this.1.2,λi hi=>this.2 i hi⟩
theorem TabOk.psize {led:Bool} {ns:List Int} (h:TabOk led ns):(I9 led ns).place.size=ns.length:=by
 have:=h.fits
 simp only [SetTable.fits,Bool.and_eq_true,beq_iff_eq,decide_eq_true_eq] at this
 exact this.1
section
variable {prog:Program} {w:World} {A:Around} {E:Value->Shared->Prop} {s:Shared}
theorem ag0 {S:Addr} {es:Array (Int×Value)} {ep i:Nat} {ns:List Int} {Q:Option (Value×Nat)->Shared->Prop} (hn:ns∈sixes) (hi:i<=ns.length)
 (hS:s.heap.get? S=some (S7 es ep (I9 (!w.params.followText "set-order") ns))) (he:EsOf es ns)
 (h:Q (((W4 w S ep es)[i]?).map λv=>(v,j7 (!w.params.followText "set-order") ns (i+1))) s) :
 wpAny (model prog w) A (setNext S (j7 (!w.params.followText "set-order") ns i) i ep) Q E s:=by
 have T:=aG9 hn (!w.params.followText "set-order")
 have hf:(I9 (!w.params.followText "set-order") ns).fits es.size=true:=by rw [he.size];exact T.fits
 unfold setNext
 refine wpAny_bind (wpAny_setState_of hS rfl hf ?_)
 dsimp only
 unfold setsByText
 refine wpAny_bind (wpAny_bind (wpAny_askSetting (wpAny_pure ?_)))
 show wpAny _ _ (if w.params.followText "set-order" = true then _ else _) _ _ s
 cases hb:w.params.followText "set-order" with
 | true=>
   rw [if_pos rfl,if_neg (by simp)]
   refine wpAny_bind ?_
   unfold setWalk setsByText
   refine wpAny_bind (wpAny_setState_of hS rfl hf ?_)
   dsimp only
   refine wpAny_bind (wpAny_bind (wpAny_askSetting (wpAny_pure ?_)))
   show wpAny _ _ (if w.params.followText "set-order" = true then _ else _) _ _ s
   rw [if_pos hb]
   refine wpAny_bind (wpAny_askSetting (wpAny_pure ?_))
   refine wpAny_pure ?_
   have e1:W4 w S ep es=(pickOrder (w.params.setOrder S ep) es).toList.map (·.2):=by unfold W4;rw [if_pos hb]
   have e2:j7 (!w.params.followText "set-order") ns (i+1)=j7 (!w.params.followText "set-order") ns i:=by
    rw [hb];cases i <;> rfl
   rw [e1,e2,hb,List.getElem?_map,Array.getElem?_toList,Option.map_map] at h
   exact h
 | false=>
   simp only [hb,Bool.not_false] at T hS hf h ⊢
   rw [if_neg (by simp)]
   have e1:W4 w S ep es=es.toList.map (·.2):=by unfold W4;rw [if_neg (by simp [hb])]
   show wpAny _ _ (if (!(I9 true ns).plain&&decide (es.size > 1))=true then _ else _) _ _ s
   rw [if_neg (by rw [T.plain];simp)]
   show wpAny _ _ ((if (!(I9 true ns).led&&!es.isEmpty)=true then _ else _)>>=_) _ _ s
   rw [if_neg (by rw [T.led];simp)]
   refine wpAny_bind (wpAny_pure ?_)
   refine wpAny_pure ?_
   have e3:SetTable.below (I9 true ns).place (j7 true ns i)=i:=by
    cases i with
    | zero=>exact T.zero
    | succ j=>exact T.next j (by omega)
   show Q (match es[SetTable.below (I9 true ns).place (j7 true ns i)]?,(I9 true ns).place[SetTable.below (I9 true ns).place (j7 true ns i)]? with
    | some (_,x),some j=>some (x,j+1)
    | _,_=>none) s
   rw [e3]
   rw [e1,List.getElem?_map,Array.getElem?_toList] at h
   by_cases hlt:i<ns.length
   ·have h1:i<es.size:=by rw [he.size];exact hlt
    have h2:i<(I9 true ns).place.size:=by rw [T.psize];exact hlt
    have e4:j7 true ns (i+1)=(I9 true ns).place[i]+1:=by
     show (if true=true then (I9 true ns).place.getD i 0+1 else 0)=_
     rw [if_pos rfl]
     simp [Array.getD,h2]
    rw [Array.getElem?_eq_getElem h1,Array.getElem?_eq_getElem h2]
    rw [Array.getElem?_eq_getElem h1] at h
    dsimp only
    have h':Q (some (es[i].2,j7 true ns (i+1))) s:=h
    rw [e4] at h'
    exact h'
   ·have h1:es[i]?=none:=Array.getElem?_eq_none (by rw [he.size];omega)
    rw [h1] at h ⊢
    exact h
theorem aC8 {S:Addr} {es:Array (Int×Value)} {ep:Nat} {ns:List Int} {Q:Value->Shared->Prop} (hn:ns∈sixes)
 (hS:s.heap.get? S=some (S7 es ep (I9 (!w.params.followText "set-order") ns))) (he:EsOf es ns)
 (hQ:Q (.ref s.heap.objs.size) { s with heap:=s.heap.push { cls:=.type "set_iterator",data:=.fields #[.int 0 0,.int 0 0,.ref S,.int ns.length 0,.int ep 0] } }) :
 wpAny (model prog w) A (pyIter (.ref S)) Q E s:=by
 have T:=aG9 hn (!w.params.followText "set-order")
 have hf:(I9 (!w.params.followText "set-order") ns).fits es.size=true:=by rw [he.size];exact T.fits
 have hT:s.TypeIs (.ref S) "set":=⟨_,hS,rfl⟩
 refine wpAny_pyIter_slot hT F.slot_set_iter (wpAny_call_entry F.slot_set_iter hT as0 ?_ (F.args_set_iter_1 _))
 unfold Builtin.«frozenset.__iter__» Builtin.Frozenset.slot0 slotArgs
 simp only [List.isEmpty_nil,Bool.not_true,Bool.false_eq_true,↓reduceIte,bind_assoc,List.length_nil,bne_self_eq_false]
 unfold Builtin.Frozenset.addrOf Builtin.Frozenset.sizeOf
 refine wpAny_bind (wpAny_pure ?_)
 try dsimp only
 refine wpAny_bind (wpAny_pure ?_)
 refine wpAny_bind (wpAny_bind (wpAny_setEntries_of hS rfl hf (wpAny_pure ?_)))
 unfold setDrawn setsByText
 refine wpAny_bind (wpAny_bind (wpAny_setState_of hS rfl hf ?_))
 dsimp only
 refine wpAny_bind (wpAny_bind (wpAny_askSetting (wpAny_pure ?_)))
 refine wpAny_pure ?_
 show wpAny _ _ (if (!w.params.followText "set-order"&&(!(I9 (!w.params.followText "set-order") ns).plain&&decide (es.size > 1)))=true then _ else _) _ _ s
 rw [if_neg (by rw [T.plain];simp)]
 refine wpAny_bind (wpAny_pure ?_)
 refine wpAny_bind (wpAny_setEpoch_of hS rfl hf ?_)
 refine wpAny_bind (wpAny_newObj_type (wpAny_pure ⟨_,rfl,"set_iterator",_,⟨_,Heap.get?_push_size _ rfl,rfl⟩,si_slot_next.lookup,?_⟩))
 simpa [rawInt,he.size] using hQ
theorem aV0 {it S:Addr} {es:Array (Int×Value)} {ep i:Nat} {ns:List Int} {v:Value} {Q:Option Value->Shared->Prop} (hn:ns∈sixes) (hne:S≠it)
 (hS:s.heap.get? S=some (S7 es ep (I9 (!w.params.followText "set-order") ns))) (he:EsOf es ns) (hit:IsSI s.heap it S (!w.params.followText "set-order") ns ep i) (hi:i<ns.length) (hv:(W4 w S ep es)[i]?=some v)
 (hQ:∀h',IsSI h' it S (!w.params.followText "set-order") ns ep (i+1)->Heap.SameBut it s.heap h'->Q (some v) { s with heap:=h' }) :
 wpAny (model prog w) A (pyNext (.ref it)) Q E s:=by
 obtain⟨o,ho,hc,hd⟩:=id hit
 have T:=aG9 hn (!w.params.followText "set-order")
 have hf:(I9 (!w.params.followText "set-order") ns).fits es.size=true:=by rw [he.size];exact T.fits
 unfold pyNext
 refine wpAny_bind (wpAny_attempt (wpAny_callSpecial?_slot (name:=Str.ofString "__next__") hit.typeIs si_slot_next
  (wpAny_call_entry si_slot_next hit.typeIs i3 ?_ (o7 _))))
 unfold Builtin.«set_iterator.__next__»
 refine wpAny_bind (wpAny_pure ?_)
 refine wpAny_bind (wpAny_fieldsOf ho hd ?_)
 show wpAny _ _ (setEntries S>>=_) _ _ s
 refine wpAny_bind (wpAny_setEntries_of hS rfl hf ?_)
 rw [if_neg (by rw [he.size];simp)]
 show wpAny _ _ (setNext S (j7 (!w.params.followText "set-order") ns i) i ep>>=_) _ _ s
 refine wpAny_bind (ag0 hn (Nat.le_of_lt hi) hS he ?_)
 rw [hv]
 show wpAny _ _ (setField (.ref it) 0 (rawInt (j7 (!w.params.followText "set-order") ns (i+1)))>>=_) _ _ s
 refine wpAny_bind (wpAny_setField ho hd (by simp) ?_)
 have ho1:=Heap.get?_update_self (Obj.mapFields (·.setIfInBounds 0 (rawInt (j7 (!w.params.followText "set-order") ns (i+1))))) ho (Obj.isFreed_of_fields (Obj.data_mapFields hd _))
 have hd1:=Obj.data_mapFields hd (·.setIfInBounds 0 (rawInt (j7 (!w.params.followText "set-order") ns (i+1))))
 show wpAny _ _ (setField (.ref it) 1 (rawInt ((i:Int)+1))>>=_) _ _ _
 refine wpAny_bind (wpAny_setField ho1 hd1 (by simp) ?_)
 refine wpAny_pure ⟨_,rfl,wpAny_pure (hQ _ ?_ ((Heap.SameBut.update ..).trans (Heap.SameBut.update ..)))⟩
 exact⟨_,Heap.get?_update_self _ ho1 (Obj.isFreed_of_fields (Obj.data_mapFields hd1 _)),(Obj.cls_mapFields ..).trans ((Obj.cls_mapFields ..).trans hc),by rw [Obj.data_mapFields hd1];simp [rawInt]⟩
theorem a43 {it S:Addr} {es:Array (Int×Value)} {ep:Nat} {ns:List Int} {Q:Option Value->Shared->Prop} (hn:ns∈sixes) (hh:A.handled=none)
 (hS:s.heap.get? S=some (S7 es ep (I9 (!w.params.followText "set-order") ns))) (he:EsOf es ns) (hit:IsSI s.heap it S (!w.params.followText "set-order") ns ep ns.length)
 (hQ:∀h',Heap.ExtBut it s.heap h'->Q none { s with heap:=h' }) :
 wpAny (model prog w) A (pyNext (.ref it)) Q E s:=by
 obtain⟨o,ho,hc,hd⟩:=id hit
 have T:=aG9 hn (!w.params.followText "set-order")
 have hf:(I9 (!w.params.followText "set-order") ns).fits es.size=true:=by rw [he.size];exact T.fits
 unfold pyNext
 refine wpAny_bind (wpAny_attempt (wpAny_callSpecial?_slot (name:=Str.ofString "__next__") hit.typeIs si_slot_next
  (wpAny_call_entry si_slot_next hit.typeIs i3 ?_ (o7 _))))
 unfold Builtin.«set_iterator.__next__»
 refine wpAny_bind (wpAny_pure ?_)
 refine wpAny_bind (wpAny_fieldsOf ho hd ?_)
 show wpAny _ _ (setEntries S>>=_) _ _ s
 refine wpAny_bind (wpAny_setEntries_of hS rfl hf ?_)
 rw [if_neg (by rw [he.size];simp)]
 show wpAny _ _ (setNext S (j7 (!w.params.followText "set-order") ns ns.length) ns.length ep>>=_) _ _ s
 refine wpAny_bind (ag0 hn (Nat.le_refl _) hS he ?_)
 rw [List.getElem?_eq_none (by rw [v7 he];exact Nat.le_refl _)]
 show wpAny _ _ (setField (.ref it) 2 .none>>=_) _ _ s
 refine wpAny_bind (wpAny_setField ho hd (by simp) ?_)
 show wpAny _ _ (newExc (.type "StopIteration") []>>=_) _ _ _
 refine wpAny_bind ?_
 simp only [newExc,newTuple]
 refine wpAny_bind (wpAny_newObj_type ?_ (by size_fits))
 refine wpAny_bind (m:=firstArgMember _ _) (wpAny_of_eq (a:=Value.none) (by first | rfl | (simp only [firstArgMember];rfl)) ?_)
 refine wpAny_newObj_type ?_ (by size_fits)
 simp only [raiseNew]
 refine wpAny_bind (wpAny_handled ?_)
 rw [show A.in1.handled=none from hh]
 refine wpAny_bind (wpAny_pure (wpAny_throw ?_))
 refine wpAny_bind (wpAny_isInstance (T:="StopIteration") (b:=true) ⟨_,Heap.get?_push_size _ rfl,rfl⟩ isSubtype_stop ?_)
 exact wpAny_pure (hQ _ (((Heap.SameBut.update ..).extBut.push _).push _))
theorem a44 {it S:Addr} {led:Bool} {ns:List Int} {ep i:Nat} {Q:Value->Shared->Prop} (hit:IsSI s.heap it S led ns ep i) (h:Q (.ref it) s):wpAny (model prog w) A (pyIter (.ref it)) Q E s:=by
 refine wpAny_pyIter_slot hit.typeIs o6 (wpAny_call_entry o6 hit.typeIs aj9 ?_ (as1 _))
 show wpAny _ _ (PySem.ret (.ref it)) _ _ s
 exact wpAny_pure ⟨_,rfl,"set_iterator",_,hit.typeIs,si_slot_next.lookup,h⟩
theorem aL8 (hh:A.handled=none) (I S:Addr) (hne:S≠I) {es:Array (Int×Value)} {ep:Nat} {ns:List Int} (hn:ns∈sixes) (he:EsOf es ns) :
 Walks prog w A I [I,S] [I] ns.length (λi v=>(W4 w S ep es)[i]?=some v) (λi h=>IsSI h I S (!w.params.followText "set-order") ns ep i/\h.get? S=some (S7 es ep (I9 (!w.params.followText "set-order") ns))) where
 sub:=λb hb=>by simp at hb;simp [hb]
 frame:=λ_ _ _ st hk=>⟨st.1.at λo e=>hk I (by simp) o e,hk S (by simp) _ st.2⟩
 item:=λi s Q E hi st hQ=>by
  have hlt:i<(W4 w S ep es).length:=by rw [v7 he];exact hi
  refine aV0 hn hne st.2 he st.1 hi (List.getElem?_eq_getElem hlt) λh' hit' hs'=>?_
  exact hQ _ h' s.toks (List.getElem?_eq_getElem hlt) ⟨hit',hs'.extBut S _ hne st.2⟩ λb o hb e=>hs'.extBut b o (λh=>hb (by simp [h])) e
 done:=λs Q E st hQ=>a43 hn hh st.2 he st.1 λh' he'=>hQ h' s.toks λb o hb e=>he' b o (λh=>hb (by simp [h])) e
 self:=λ_ _ _ _ st hQ=>a44 st.1 hQ
theorem aV1 {r:Addr} {Q:Bool->Shared->Prop} (hT:s.TypeIs (.ref r) "set") (h:Q false s):wpAny (model prog w) A (Builtin.List.listLengthHint (.ref r)) Q E s:=by
 unfold Builtin.List.listLengthHint
 refine wpAny_bind (wpAny_specialOf hT PySem.F.slot_set_len.lookup ?_)
 generalize hid:("set.__len__" : String)=id0
 wp_delta
 rw [show splitId id0=some ("set","__len__") from by subst hid;decide +kernel]
 subst hid
 refine wpAny_bind (wpAny_isInstance (T:="set") (b:=true) hT (by rw [isSubtype_type];kernel_rfl) ?_)
 refine wpAny_ite_split (λhab=>absurd hab (by decide)) (λ_=>?_)
 refine wpAny_ite_split (λ_=>?_) (λhab=>absurd (by decide +kernel) hab)
 refine wpAny_bind (wpAny_typeOf hT ?_)
 exact wpAny_pure h
theorem a45 {S:Addr} {es:Array (Int×Value)} {ep:Nat} {ns:List Int} (hn:ns∈sixes) (he:EsOf es ns) :
 KdlSrc prog w "set" S S ns.length (λi v=>(W4 w S ep es)[i]?=some v) (λh=>h.get? S=some (S7 es ep (I9 (!w.params.followText "set-order") ns))) where
 type:=λ_ hm=>⟨_,hm,rfl⟩
 there:=λ_ hm=>⟨Heap.lt_size hm,Heap.lt_size hm⟩
 keep:=λ_ _ hm hk=>hk S (.inl rfl) _ hm
 notList:=by decide
 notTuple:=by decide
 hint:=λ_ _ _ _ hm hq=>aV1 ⟨_,hm,rfl⟩ hq
 iter:=λ_ s hh hm=>⟨_,_,(λ_ _ hq=>aC8 hn hm he hq),aL8 hh _ S (Nat.ne_of_lt (Heap.lt_size hm)) hn he,⟨⟨_,Heap.get?_push_size _ rfl,rfl,rfl⟩,Heap.get?_push_of_some _ hm⟩⟩
end
theorem aL9:∀{vs us:List Value},vs.Perm us->∀{ns:List Int},IntsAre us ns->∃ms,ms.Perm ns/\IntsAre vs ms:=by
 intro vs us h
 induction h with
 | nil=>intro ns hn;exact⟨ns,List.Perm.refl _,hn⟩
 | cons x _ ih=>
   intro ns hn
   cases hn with
   | cons n t h=>obtain⟨ms,h1,h2⟩:=ih h;exact⟨n::ms,h1.cons n,.cons n t h2⟩
 | swap x y l=>
   intro ns hn
   cases hn with
   | cons n t h=>
     cases h with
     | cons m u h=>exact⟨m::n::_,List.Perm.swap _ _ _,.cons m u (.cons n t h)⟩
 | trans _ _ ih1 ih2=>
   intro ns hn
   obtain⟨ms,h1,h2⟩:=ih2 hn
   obtain⟨ks,h3,h4⟩:=ih1 h2
   exact⟨ks,h3.trans h1,h4⟩
end Ws
namespace Ws
open PySem PySem.W PyProof.Rows
section
variable {X:L2.Cx} {cm:Nat->Addr}
theorem aM0 {a:Expr} {d:ED} {p2 p3 q2 q3:Pos} (hcalm:X.calm=true) (ha:L2.PE X a (EvE X.K cm d)) (hg2:L2.Gl X "list") (hm2:X.mg "list" = none) (hg3:L2.Gl X "range") (hm3:X.mg "range" = none)
 (hs3:starEach [a] X.env=(false,eval a X.env)::starEach [] X.env:=by exact G0 rfl)
 (hs2:starEach [.Call (.Name "range" p3) [a] [] q3] X.env=(false,eval (.Call (.Name "range" p3) [a] [] q3) X.env)::starEach [] X.env:=by rfl) :
 L2.PE X (.Call (.Name "list" p2) [.Call (.Name "range" p3) [a] [] q3] [] q2) (EvE X.K cm (ad2 d)):=by
 intro pins s σ H Q I h
 obtain⟨ρ,A,σp,v,A',rl,rs,ev,k⟩:=h
 obtain⟨x,A1,e1,ev1⟩:=B0 ev
 refine PyProof.Rows.Call_ (L2.Q1 I hg2 hm2 PyProof.Rows.boot_list (PyProof.Rows.callWith_type1 (X5 hs2 ?_) hs2 rfl))
 refine PyProof.Rows.Call_ (L2.Q1 I hg3 hm3 PyProof.Rows.boot_range (PyProof.Rows.callWith_type1 (X5 hs3 ?_) hs3 rfl))
 refine L2.thn (ha pins s σ H (λv H1=>∃j:Int,v=.int j/\-(2 ^ 62)<=j/\j<2 ^ 62/\j.toNat<=2 ^ 24/\∀l,H1 l=none->Q (.ref l) (L2.upd H1 l (.lst ((List.range j.toNat).map λk=>L2.V.int (k:Nat))))) I ⟨ρ,A,σp,x,A1,rl,rs,e1,λρ1 H1 v1 x1 rl1 rv1=>?_⟩) λu s1 ⟨v,H1,I1,r1,j,ej,j1,j2,j3,q⟩=>?_
 ·cases x with
  | int j=>
    obtain⟨c,ev2⟩:=C7 ev1
    cases ev2
    cases rv1
    refine⟨j,rfl,c.1,c.2.1,c.2.2,λD hD=>?_⟩
    have ex:Ext ρ1 H1 (ρ1++[D]) (L2.upd H1 D (.lst ((List.range j.toNat).map λk=>L2.V.int (k:Nat)))):=Ext.new hD
    have key:∀(l:List Nat) (ρ:List Addr) (H:L2.Hp),RVs ρ H (l.map λk=>PV.int (k:Nat)) (l.map λk=>L2.V.int (k:Nat)):=λl ρ H=>by
     induction l with
     | nil=>exact .nil
     | cons i r ih=>exact .cons (.int _) ih
    exact k (ρ1++[D]) _ _ (x1.trans ex) (rl1.alloc hD ⟨_,L2.D2,key _ _ _⟩ rfl) (.ref (by rw [←rl1.len];simp))
  | _=>cases ev1
 ·subst ej
  obtain⟨t,rfl⟩:=(show ∃t,u=Value.int j t from r1)
  refine call_range_1 ?_
  have hn:Builtin.Range.rangeSize 0 j 1=(j.toNat:Nat):=by rw [rangeSize_one];split <;> omega
  refine call_list_range (A:=X.A) (I1.ok.hd hcalm) (IsRange.new ..) (small_one (by omega) (by omega) j1 j2) hn j3 λh' tk acc c hk hat hacc=>?_
  have hvals:L2.Vals ((List.range j.toNat).map λk=>L2.V.int (k:Nat)) acc.toList:=by
   have e:((List.range j.toNat).map λk=>L2.V.int (k:Nat))=((List.range j.toNat).map λk=>((k:Nat):Int)).map L2.V.int:=by rw [List.map_map];rfl
   rw [e]
   refine af3 (by rw [Array.length_toList,hacc.1];simp) λi v hv=>?_
   obtain⟨t',ht⟩:=hacc.2 i v (by rw [←Array.getElem?_toList];exact hv)
   have hi:i<j.toNat:=by
    have:=(List.getElem?_eq_some_iff.mp hv).1
    rw [Array.length_toList,hacc.1] at this;exact this
   exact⟨(i:Int),t',by simp [hi],by rw [ht];simp⟩
  have hge:s1.heap.objs.size<=(s1.heap.push { cls:=.type "range",data:=.fields #[.int 0 s1.toks,.int j t,.int 1 (s1.toks+1)] }).objs.size:=by rw [size_push'];exact Nat.le_succ _
  refine⟨.ref _,_,I1.laid (t':=tk) (o:=.lst ((List.range j.toNat).map λk=>L2.V.int (k:Nat))) (λb o e2=>hk b o (Heap.get?_push_of_some _ e2)) hge ?_,rfl,q _ (I1.hok.fresh hge)⟩
  refine⟨by rw [List.length_map,List.length_range,sizeLine_eq];omega,acc.toList,c,hvals,?_⟩
  rw [Array.toArray_toList];exact hat
end
end Ws
namespace Ws
open PySem PySem.W PyProof.Rows PySem.SeqAt
open MeetsSeq MeetsSeq2 MeetsSeq3 SeqRoads2
end Ws
namespace Ws
open PySem PySem.W PyProof.Rows
theorem keys_miss:typeLookup (.type "list") "keys" = pure none:=by rw [typeLookup_type,builtinLookup_eq_fast];kernel_rfl
theorem ak0 {prog:Program} {w:World} {A:Around} {E:Value->Shared->Prop} {s:Shared} {a:Addr} {o:Obj} {xs:Array Value} {k:Nat} {name:Str} {Q:Option Value->Shared->Prop}
 (hx:s.heap.get? a=some o) (hc:o.cls=.type "list") (hdat:o.data=.seq xs k) (hd:o.dict=none) (hmiss:typeLookup (.type "list") name=pure none) (hname:(["__module__","__name__","__qualname__","__doc__","__annotations__"]:List Str).contains name=false) (hA:A.handled=none)
 (h:∀h' tk e,Heap.NewExcOf s.heap h' e "AttributeError"->Q none { s with heap:=h',toks:=tk }) (hsz:name.length+100<=sizeLine:=by size_fits) :
 wpAny (model prog w) A (getAttr? (.ref a) name) Q E s:=by
 obtain⟨c,dct,dat,sl⟩:=o
 simp only at hc hdat hd
 subst hc hdat hd
 obtain⟨hp,g,d,tk,os⟩:=s
 have hT:∀tk',(⟨hp,g,d,tk',os⟩:Shared).TypeIs (.ref a) "list":=λ_=>⟨_,hx,rfl⟩
 have f1:=sub_AttributeError
 have f3:=F.slot_list_getattribute.lookup
 have f4:=F.slot_list_getattribute.bind (.ref a)
 have f5:=am_list_getattr_none
 unfold getAttr? getAttrBy? getAttrBy
 repeat (any_goals (first | assumption | exact hT _ | ((with_reducible show wpAny _ _ (call (Value.builtin "list.__getattribute__") _ _) _ _ _);refine call_meets F.slot_list_getattribute (hT _) am_entry_list_getattribute (F.args_list_getattribute_2 _ _) (meets_getattribute_miss_list a xs k sl name _ hmiss hname hsz) ⟨hx,hA,λh' tk' e hx'=>?_⟩) | wp_step))
 obtain⟨t',u',he⟩:=hx'.there
 show wpAny _ _ (getattributeRaised _ _ _ _ _ _ _) _ _ _
 unfold getattributeRaised
 repeat (any_goals (first | assumption | wp_step))
 exact h _ _ _ hx'.of
theorem am8:entryFor table "dict.update.loop" = some Builtin.«dict.update.loop»:=entryFor_of_tree (by kernel_rfl)
theorem f6:plainId "dict.update.loop" = true:=by decide +kernel
theorem aM1 {α β:Type} {m:Type->Type} [Monad m] [LawfulMonad m] (xs:Array α) (b:β) (f:α->β->m (ForInStep β)):forIn xs b f=forIn xs.toList b f:=by
 rw [Array.forIn_toList]
section
variable {prog:Program} {w:World} {A:Around} {E:Value->Shared->Prop} {s:Shared}
theorem bf3 {nm:String} {d:Addr} {o:Obj} {es:Array DictEntry} {ep:Nat} {Q:Array DictEntry->Shared->Prop} (ho:s.heap.get? d=some o) (hd:o.data=.dict es ep)
 (hk:∀e∈es.toList,∃a,e.key=.ref a/\s.TypeIs (.ref a) "tuple") (hn:∀e∈es.toList,(es.filter (·.hash == e.hash)).size<=1) (h:Q es s):wpAny (model prog w) A (Builtin.Dict.entriesForEmpty nm d) Q E s:=by
 unfold Builtin.Dict.entriesForEmpty
 refine wpAny_bind (wpAny_dictEntries ho hd ?_)
 refine wpAny_bind ?_
 rw [aM1]
 refine wpAny_forIn_list _ (λrest _ s'=>s'=s/\∀e∈rest,e∈es.toList) _ ?_ ?_ _ _ ⟨rfl,λe he=>he⟩
 ·rintro e rest b s' ⟨rfl,hr⟩
  have he:=hr e List.mem_cons_self
  obtain⟨a,ea,hT⟩:=hk e he
  refine wpAny_bind ?_
  unfold Builtin.Dict.quietEq
  rw [ea]
  refine wpAny_bind (wpAny_specialOf hT PySem.F.slot_tuple_eq.lookup (wpAny_pure ?_))
  rw [if_pos (by decide),if_neg (by have:=hn e he;omega)]
  exact wpAny_pure ⟨rfl,λx hx=>hr x (List.mem_cons_of_mem _ hx)⟩
 ·rintro b s' ⟨rfl,_⟩
  exact wpAny_pure h
abbrev TK (prog:Program) (w:World):HeapKind prog w (List L2.Key):=tupleKind (L2.K2 prog w)
theorem a46 {o:Addr} {xs:List (List L2.Key×Addr×Value)} {Q:Value->Shared->Prop} (hoS:(o == sysModules)=false) (ho:s.heap.DictOfH (TK prog w) o xs) (hsz:xs.length<=sizeLine)
 (hdis:∀x∈xs,(xs.filter λy=>(TK prog w).hash y.1 == (TK prog w).hash x.1).length<=1)
 (h:∀h',h'.DictOfH (TK prog w) s.heap.objs.size xs->Heap.SameBut s.heap.objs.size (s.heap.push { cls:=.type "dict",data:=.dict #[] }) h'->Q (.ref s.heap.objs.size) { s with heap:=h' }) :
 wpAny (model prog w) A (call (.type "dict") [.ref o]) Q E s:=by
 obtain⟨oo,es,ep,hoo,hc,hdat,hes,hk,hn⟩:=id ho
 have hesz:es.size=xs.length:=size_of_entries hes
 refine callType_codes (Q₁:=λobj s₁=>obj=.ref s.heap.objs.size/\s₁={ s with heap:=s.heap.push { cls:=.type "dict",data:=.dict #[] } }) PySem.F.kt_called_dict (PySem.F.kt_typeCall_dict_1 _) PySem.F.entry_dict_init (kt_code_dict_new _ ⟨rfl,rfl⟩) ?_
 rintro obj s₁ ⟨rfl,rfl⟩
 have hD0:(s.heap.push { cls:=.type "dict",data:=.dict #[] }).get? s.heap.objs.size=some { cls:=.type "dict",data:=.dict #[] }:=Heap.get?_push_size _ rfl
 have hT0:Shared.TypeIs { s with heap:=s.heap.push { cls:=.type "dict",data:=.dict #[] } } (.ref s.heap.objs.size) "dict":=⟨_,hD0,rfl⟩
 have hoo':(s.heap.push { cls:=.type "dict",data:=.dict #[] }).get? o=some oo:=Heap.get?_push_of_some _ hoo
 have hTo:Shared.TypeIs { s with heap:=s.heap.push { cls:=.type "dict",data:=.dict #[] } } (.ref o) "dict":=⟨_,hoo',hc.1⟩
 have hdo:s.heap.objs.size≠o:=λe=>absurd (Heap.lt_size hoo) (by rw [e];exact Nat.lt_irrefl _)
 refine⟨hT0,PySem.F.args_dict_init_2 _ _,?_⟩
 unfold Builtin.«dict.__init__»
 refine wpAny_bind ?_
 unfold Builtin.Dict.selfAndRest
 refine wpAny_bind (wpAny_notOrdered_dict hT0 ?_)
 show wpAny _ _ (pure (s.heap.objs.size,[Value.ref o])) _ _ _
 refine wpAny_pure ?_
 show wpAny _ _ (Builtin.Dict.updateFrom "dict.__init__" s.heap.objs.size (.ref o) [] .none) _ _ _
 unfold Builtin.Dict.updateFrom
 refine wpAny_bind (wpAny_typeOf hTo ?_)
 rw [if_neg (by decide)]
 refine wpAny_bind ?_
 unfold Builtin.Dict.merge
 refine wpAny_bind ?_
 unfold Builtin.Dict.readDirectly
 refine wpAny_bind (wpAny_isInstance hTo isSubtype_dict_dict ?_)
 simp only [Bool.not_true,Bool.false_eq_true,if_false]
 refine wpAny_bind (wpAny_specialOf hTo PySem.F.slot_dict_iter.lookup (wpAny_pure ?_))
 simp only [beq_self_eq_true,if_true]
 refine wpAny_bind (wpAny_pure ?_)
 unfold Builtin.Dict.mergeDict
 rw [if_neg (by simpa using hdo)]
 unfold Builtin.Dict.showsAll
 rw [if_neg (by rw [hoS];exact Bool.false_ne_true)]
 refine wpAny_bind (wpAny_pure ?_)
 refine wpAny_bind (wpAny_dictEntries hoo' hdat ?_)
 cases hxs:xs with
 | nil=>
   subst hxs
   have hes0:es=#[]:=Array.toList_inj.mp (by rw [hes];rfl)
   subst hes0
   dsimp only
   rw [if_neg (by simp)]
   refine wpAny_bind (wpAny_dictEpoch hoo' hdat ?_)
   refine wpAny_bind (wpAny_dictEntries hoo' hdat ?_)
   refine wpAny_bind ?_
   rw [Std.Legacy.Range.forIn_eq_forIn_range']
   refine wpAny_pure ?_
   refine wpAny_pure ?_
   show wpAny _ _ (Builtin.Dict.addKeywords s.heap.objs.size []>>=_) _ _ _
   refine wpAny_bind (wpAny_pure (wpAny_pure ⟨rfl,h _ ?_ (Heap.SameBut.refl _ _)⟩))
   exact⟨_,_,_,hD0,⟨rfl,rfl,rfl⟩,rfl,rfl,λx hx=>by simp at hx,List.nodup_nil⟩
 | cons x0 xr=>
   have hx0:x0∈xs:=by rw [hxs];exact List.mem_cons_self
   have hkeys:∀e∈es.toList,∃a,e.key=.ref a/\Shared.TypeIs { s with heap:=s.heap.push { cls:=.type "dict",data:=.dict #[] } } (.ref a) "tuple":=by
    intro e he
    rw [hes] at he
    obtain⟨x,hx,rfl⟩:=List.mem_map.mp he
    obtain⟨ot,its,n,h1,h2,_⟩:=hk x hx
    exact⟨x.2.1,rfl,ot,Heap.get?_push_of_some _ h1,h2⟩
   have hfew:(decide (es.size<=8)&&es.all λe=>(keyPart e.key).isSome)=false:=by
    rw [Bool.and_eq_false_iff]
    refine .inr ?_
    rw [←Array.all_toList,List.all_eq_false]
    refine⟨entryOfKey (TK prog w) x0,by rw [hes];exact List.mem_map.mpr ⟨x0,hx0,rfl⟩,?_⟩
    simp [entryOfKey,keyPart]
   rw [hfew]
   dsimp only
   rw [if_pos (by decide)]
   refine wpAny_bind (wpAny_dictEntries hD0 rfl ?_)
   rw [if_pos (by decide)]
   refine wpAny_bind (bf3 hoo' hdat hkeys (λe he=>?_) ?_)
   ·have he':=he
    rw [hes] at he'
    obtain⟨x,hx,rfl⟩:=List.mem_map.mp he'
    have:=hdis x hx
    rw [←Array.length_toList,Array.toList_filter,hes,List.filter_map,List.length_map]
    exact this
   ·have hne:es.isEmpty=false:=by
     cases hh:es.isEmpty with
     | false=>rfl
     | true=>
       have:es.size=0:=by simpa using hh
       rw [hesz,hxs] at this;simp at this
    rw [hne,if_pos (by decide)]
    refine wpAny_bind (wpAny_updateDictKeysTo hD0 rfl ?_ (by rw [hesz];omega))
    refine wpAny_pure ?_
    show wpAny _ _ (Builtin.Dict.addKeywords s.heap.objs.size []>>=_) _ _ _
    refine wpAny_bind (wpAny_pure (wpAny_pure ⟨rfl,h _ ?_ (Heap.SameBut.update ..)⟩))
    have hc0:Obj.ExactDict { cls:=.type "dict",data:=.dict #[] }:=⟨rfl,rfl,rfl⟩
    refine⟨_,es,_,Heap.get?_update_self _ hD0 (Obj.isFreed_of_dict (Obj.data_mapDictKeys rfl _)),hc0.mapDictKeys _,Obj.data_mapDictKeys rfl _,hes,λx hx=>?_,hn⟩
    refine (TK prog w).keeps (?_:(TK prog w).is (s.heap.push { cls:=.type "dict",data:=.dict #[] }) x.1 x.2.1) hD0 rfl (Heap.SameBut.update ..)
    obtain⟨ot,its,n,h1,h2⟩:=hk x hx
    exact⟨ot,its,n,Heap.get?_push_of_some _ h1,h2⟩
end
def hashK (k:List Int):Int:=reduceHash (Builtin.Tuple.tupleHashOf (k.map hashInt))
theorem aV2 (P:Program) (w:World) (k:List Int):(TK P w).hash (k.map Sum.inl)=hashK k:=by
 show reduceHash (Builtin.Tuple.tupleHashOf ((k.map Sum.inl).map (L2.bg7 w)))=_
 rw [List.map_map];rfl
theorem aw8:(small.map hashK).Nodup:=by decide +kernel
theorem aV3 {a b:List Int} (ha:a∈small) (hb:b∈small) (h:hashK a=hashK b):a=b:=by
 obtain⟨i,hi,rfl⟩:=List.mem_iff_getElem.mp ha
 obtain⟨j,hj,rfl⟩:=List.mem_iff_getElem.mp hb
 have:=(List.getElem_inj (i:=i) (j:=j) (h₀:=by simpa using hi) (h₁:=by simpa using hj) aw8).mp (by simpa using h)
 subst this;rfl
theorem aV4 {P:Program} {w:World} {ks:List (List Int)} (hs:∀k∈ks,k∈small):∀{xs:List (List L2.Key×Addr×Value)},xs.map (·.1)=ks.map (List.map Sum.inl)->ks.Nodup->∀x∈xs,(xs.filter λy=>(TK P w).hash y.1 == (TK P w).hash x.1).length<=1:=by
 intro xs he nd x hx
 have nd2:(xs.map λy=>(TK P w).hash y.1).Nodup:=by
  have e:(xs.map λy=>(TK P w).hash y.1)=ks.map hashK:=by
   have:(xs.map λy=>(TK P w).hash y.1)=(xs.map (·.1)).map (TK P w).hash:=by rw [List.map_map];rfl
   rw [this,he,List.map_map]
   exact List.map_congr_left λk _=>aV2 P w k
  rw [e]
  have key:∀l:List (List Int),(∀k∈l,k∈small)->l.Nodup->(l.map hashK).Nodup:=by
   intro l
   induction l with
   | nil=>intro _ _;simp
   | cons a l ih=>
     intro h n
     rw [List.nodup_cons] at n
     rw [List.map_cons,List.nodup_cons]
     refine⟨λz=>?_,ih (λk hk=>h k (List.mem_cons_of_mem _ hk)) n.2⟩
     obtain⟨b,hb,e⟩:=List.mem_map.mp z
     exact n.1 (aV3 (h b (List.mem_cons_of_mem _ hb)) (h a List.mem_cons_self) e ▸ hb)
  exact key ks hs nd
 have gen:∀(l:List (List L2.Key×Addr×Value)) (v:Int),(l.map λy=>(TK P w).hash y.1).Nodup->(l.filter λy=>(TK P w).hash y.1 == v).length<=1:=by
  intro l v
  induction l with
  | nil=>intro _;simp
  | cons a l ih=>
    intro n
    rw [List.map_cons,List.nodup_cons] at n
    by_cases e:(TK P w).hash a.1=v
    ·have:l.filter (λy=>(TK P w).hash y.1 == v)=[]:=by
      rw [List.filter_eq_nil_iff]
      intro y hy z
      exact n.1 (List.mem_map.mpr ⟨y,hy,by rw [eq_of_beq z,e]⟩)
     rw [List.filter_cons_of_pos (by simpa using e),this];simp
    ·rw [List.filter_cons_of_neg (by simpa using e)]
     exact ih n.2
 exact gen xs _ nd2
theorem a47 {H:L2.Hp} {kvs:List (List L2.Key×L2.V)} {xs:List (List L2.Key×Addr×Value)} (r:L2.KT H kvs xs):kvs.map (·.1)=xs.map (·.1):=by
 unfold L2.KT at r
 induction r with
 | nil=>rfl
 | cons h _ ih=>rw [List.map_cons,List.map_cons,ih,h.1]
section
variable {X:L2.Cx} {cm:Nat->Addr}
theorem a48:L2.CallR X (.type "dict") (λxs H Q=>∃(a:Addr) (kvs:List (List L2.Key×L2.V)) (ks:List (List Int)),xs=[.ref a]/\H a=some (.dT kvs)/\kvs.map (·.1)=ks.map (List.map Sum.inl)/\ks.Nodup/\(∀k∈ks,k∈small)/\∀l,H l=none->Q (.ref l) (L2.upd H l (.dT kvs))):=by
 intro pins s σ H xs us Q I r h
 obtain⟨a,kvs,ks,rfl,hH,hks,nd,hsm,q⟩:=h
 obtain⟨u,rfl,rx⟩:=L2.g7 r
 cases rx
 obtain⟨z,hd,xs,rel,dd⟩:=L2.aE7 I.hok hH
 have hl:kvs.length=xs.length:=Paired.length rel
 refine a46 hd dd (by rw [←hl];exact z) (aV4 hsm (by rw [←a47 rel];exact hks) nd) λh' dd' hs=>?_
 obtain⟨qo,es,ep,hq,h2,h3,h4,_,h5⟩:=dd'
 have hfr:=I.hok.fresh (Nat.le_refl s.heap.objs.size)
 refine⟨.ref s.heap.objs.size,_,I.laid (t':=s.toks) (a:=s.heap.objs.size) (o:=.dT kvs) (λb o e2=>(hs.2 b (Nat.ne_of_lt (Heap.lt_size e2))).trans (Heap.get?_push_of_some _ e2)) (Nat.le_refl _) ⟨z,beq_eq_false_iff_ne.mpr (Ne.symm (Nat.ne_of_lt I.big)),xs,L2.KT.keeps rel (λc ys ec=>?_),qo,es,ep,hq,h2,h3,h4,h5⟩,rfl,q _ hfr⟩
 rw [L2.D4 (λe=>by rw [e,hfr] at ec;cases ec)]
 exact ec
theorem a49 {e:Expr} {d:ED} {p pos:Pos} (he:L2.PE X e (EvE X.K cm d)) (hg:L2.Gl X "dict") (hm:X.mg "dict" = none) (hs:starEach [e] X.env=(false,eval e X.env)::starEach [] X.env:=by exact G0 rfl):L2.PE X (.Call (.Name "dict" p) [e] [] pos) (EvE X.K cm (aB4 d)):=
 D7 (L2.d5 a48 hg hm (show bootBuiltins "dict" = some (.type "dict") from by rfl) (r_cons he r_nil hs) (he:=hs)) λσ H Q h=>a8 (f:=λx=>match x with | .ref n=>bnd (Q0 n) λm=>G5 ((m.map (·.1)).Nodup/\∀p∈m,p.1∈small) (alloc (.dT m)) | _=>stuck) (λ_=>rfl) (λρ A H x z A' v Q rl rx ev k=>by
  cases x with
  | ref n=>
    obtain⟨m,A1,e1,ev1⟩:=B0 ev
    obtain⟨rfl,hA,a,kv,rfl,hn,hH,hp⟩:=N6 rl rx e1
    obtain⟨c,ev2⟩:=C7 ev1
    cases ev2
    refine⟨a,kv,m.map (·.1),rfl,hH,by rw [hp.keys,List.map_map];rfl,c.1,λk hk=>?_,λD hD=>?_⟩
    ·obtain⟨p,hp,rfl⟩:=List.mem_map.mp hk
     exact c.2 p hp
    ·have ex:Ext ρ H (ρ++[D]) (L2.upd H D (.dT kv)):=Ext.new hD
     exact k (ρ++[D]) _ _ ex (rl.alloc hD ⟨_,L2.D2,hp.mono ex⟩ rfl) (.ref (by rw [←rl.len];simp))
  | _=>cases ev) h
end
def DAt (h:Heap) (d:Addr) (es:Array DictEntry) (ep:Nat):Prop:=∃o,h.get? d=some o/\o.ExactDict/\o.data=.dict es ep
theorem DAt.at {h h':Heap} {d:Addr} {es:Array DictEntry} {ep:Nat} (x:DAt h d es ep) (k:∀o,h.get? d=some o->h'.get? d=some o):DAt h' d es ep:=let ⟨o,ho,r⟩:=x;⟨o,k o ho,r⟩
end Ws
namespace Ws
open PySem PySem.W PyProof.Rows PySem.SeqAt
end Ws
namespace Ws
open PySem PySem.W PyProof.Rows
end Ws
namespace Ws
open PySem PySem.W PyProof.Rows PySem.SeqAt
end Ws
namespace Ws
open PySem PySem.W PyProof.Rows
section
variable {X:L2.Cx} {cm:Nat->Addr}
theorem ag1 {x:Str} {j pos}:L2.PE X (.Constant (.str x) j pos) (EvE X.K cm (eK (.str x))):=r_k L2.ba2 λ_ _=>.str x
theorem aM2:L2.CallR X (.type "int") (λxs H Q=>∃b,xs=[.bl b]/\Q (.int (if b then 1 else 0)) H):=by
 intro pins s σ H xs us Q I r h
 obtain⟨b,rfl,q⟩:=h
 obtain⟨u,rfl,rx⟩:=L2.g7 r
 cases rx
 exact call_int_bool ⟨.int (if b then 1 else 0),H,I.tok _,⟨_,rfl⟩,q⟩
theorem bf4 {e:Expr} {d:ED} {p pos:Pos} (he:L2.PE X e (EvE X.K cm d)) (hg:L2.Gl X "int") (hm:X.mg "int" = none) (hs:starEach [e] X.env=(false,eval e X.env)::starEach [] X.env:=by exact G0 rfl):L2.PE X (.Call (.Name "int" p) [e] [] pos) (EvE X.K cm (aR9 d)):=
 D7 (L2.d5 aM2 hg hm PyProof.Rows.boot_int (r_cons he r_nil hs) (he:=hs)) λσ H Q h=>a8 (f:=λx=>match x with | .bl b=>ret (.int (if b then 1 else 0)) | _=>stuck) (λ_=>rfl) (λρ A H x z A' v Q rl rx ev k=>by
  cases x with
  | bl b=>cases ev;cases rx;exact⟨b,rfl,k ρ H _ (Ext.refl _ _) rl (.int _)⟩
  | _=>cases ev) h
theorem a50 (K:PySem.W.Frag) (a:String) (ha:a∈["NoneType","bool","int","str","list","tuple"]):PySem.W.kitOne K (.type a) (.type "str")=some (a == "str"):=by
 simp only [List.mem_cons,List.not_mem_nil,or_false] at ha
 rcases ha with rfl | rfl | rfl | rfl | rfl | rfl <;> with_unfolding_all rfl
theorem aC9:L2.CallR X (.builtin "isinstance") (λvs H Q=>∃v ty,vs=[v,.ty "str"]/\ty∈["NoneType","bool","int","str","list","tuple"]/\L2.l4 X.K H v (.type ty)/\Q (.bl (ty == "str")) H):=by
 intro pins s σ H xs us Q I r h
 obtain⟨v,ty,rfl,hm,hty,q⟩:=h
 obtain⟨u,w,rfl,ru,rw'⟩:=L2.aQ1 r
 cases rw'
 exact L2.ak9 I ru hty (a50 X.K ty hm) λtk=>⟨.bl _,H,I.tok tk,rfl,q⟩
theorem aH0 {e:Expr} {d:ED} {p p2 pos:Pos} (he:L2.PE X e (EvE X.K cm d)) (hg:L2.Gl X "isinstance") (hm:X.mg "isinstance" = none) (hgt:L2.Gl X "str") (hmt:X.mg "str" = none)
 (hs:starEach [e,.Name "str" p2] X.env=(false,eval e X.env)::starEach [.Name "str" p2] X.env:=by exact G0 rfl) (hs2:starEach [Expr.Name "str" p2] X.env=(false,eval (.Name "str" p2) X.env)::starEach [] X.env:=by exact G0 rfl) (hpl:(backTo pos (starEach [Expr.Name "str" p2] X.env)).any (·.1)=false:=by rfl) :
 L2.PE X (.Call (.Name "isinstance" p) [e,.Name "str" p2] [] pos) (EvE X.K cm (aq6 d)):=
 D7 (L2.V5 aC9 hg hm PyProof.Rows.boot_isinstance (L2.l5 he (L2.l5 (L2.aE1 (v:=.ty "str") hgt hmt (show bootBuiltins "str" = some (.type "str") from by rfl) rfl (by decide) (by decide)) L2.aA3 hs2) hs) (he:=hs) (hpl:=hpl)) λσ H Q ⟨ρ,A,σp,v,A',rl,rs,ev,k⟩=>by
  obtain⟨x,A1,e1,ev1⟩:=B0 ev
  obtain⟨b,A2,e2,ev2⟩:=B0 ev1
  cases ev2
  refine⟨ρ,A,σp,x,A1,rl,rs,e1,λρ1 H1 v1 x1 rl1 rv1=>?_⟩
  cases x with
  | non=>cases rv1;cases e2;exact⟨_,"NoneType",rfl,by simp,.non,k ρ1 H1 _ x1 rl1 (.bl _)⟩
  | bl c=>cases rv1;cases e2;exact⟨_,"bool",rfl,by simp,.bl c,k ρ1 H1 _ x1 rl1 (.bl _)⟩
  | int i=>cases rv1;cases e2;exact⟨_,"int",rfl,by simp,.int i,k ρ1 H1 _ x1 rl1 (.bl _)⟩
  | str z=>cases rv1;cases e2;exact⟨_,"str",rfl,by simp,.str z,k ρ1 H1 _ x1 rl1 (.bl _)⟩
  | tup l=>
    cases rv1 with
    | tup ha r=>cases e2;exact⟨_,"tuple",rfl,by simp,.tup ha,k ρ1 H1 _ x1 rl1 (.bl _)⟩
  | ref n=>
    obtain⟨l,A3,e3,e4⟩:=B0 e2
    obtain⟨rfl,hA,a,xs,rfl,hn,hH,r⟩:=R5 rl1 rv1 e3
    cases e4
    exact⟨_,"list",rfl,by simp,.lst hH,k ρ1 H1 _ x1 rl1 (.bl _)⟩
end
theorem aM3 {P:Program} {w:World} {K:PySem.W.Frag} {mg:Str->Option Value} {base:Heap} {cm:Nat->Addr} {k n:Nat} {fa:Addr} {fd:FuncData} {ps:List Str}:L2.FnOk P w K mg base L2.CX0 k fa fd ps (SpF K cm (λ_=>stuck) n):=
 ⟨λvs H Q E ⟨ρ,A,qs,v,A',_,_,_,ev,_⟩=>(nomatch ev),λA outer s H args us vs Q E hr he hb hv ⟨ρ,B,qs,v,A',_,_,_,ev,_⟩=>(nomatch ev)⟩
theorem v8 {J:It} {g:GD} {b:SD} (hb:j6 b):∀(f i:Nat) (σ:PSt) (A:PHp) (v:PV) (A':PHp),V6 J g b f i σ A≠.ok (.rt v) A'
 | 0,i,σ,A,v,A',h=>by rw [ac5] at h;cases h
 | f+1,i,σ,A,v,A',h=>by
   rw [Q3] at h
   obtain⟨x,A1,e1,h⟩:=B0 h
   cases x with
   | none=>cases h
   | some y=>
     obtain⟨σ1,A2,e2,h⟩:=B0 h
     obtain⟨o,A3,e3,h⟩:=B0 h
     cases o with
     | nx σ2=>exact v8 hb f (i+1) σ2 A3 v A' h
     | ct σ2=>exact v8 hb f (i+1) σ2 A3 v A' h
     | bk σ2=>cases h
     | rt z=>exact hb _ _ _ _ e3
theorem a51 {it:ID} {g:GD} {b:SD} (hb:j6 b):j6 (aa0 it g b):=λσ A v A' h=>by
 obtain⟨J,A1,e1,h⟩:=B0 h
 obtain⟨n,A2,e2,h⟩:=B0 h
 exact v8 hb _ _ _ _ _ _ h
theorem aV5 {d y e:ED}:j6 (al6 d y e):=λσ A v A' h=>by
 obtain⟨x1,A1,e1,h⟩:=B0 h
 obtain⟨x2,A2,e2,h⟩:=B0 h
 obtain⟨x3,A3,e3,h⟩:=B0 h
 cases x2 with
 | ref n=>
   cases hk:O1 x3 with
   | none=>rw [hk] at h;cases h
   | some i=>
     rw [hk] at h
     obtain⟨m,A4,e4,h⟩:=B0 h
     obtain⟨_,h⟩:=C7 h
     cases h
 | _=>cases h
section
variable {prog:Program} {w:World} {A:Around} {E:Value->Shared->Prop} {s:Shared} {d:Addr} {es:Array DictEntry} {ep:Nat}
theorem DAt.type (hm:DAt s.heap d es ep):s.TypeIs (.ref d) "dict":=let ⟨o,ho,hc,_⟩:=hm;⟨o,ho,hc.1⟩
theorem aM4 {Q:Value->Shared->Prop} (lo:(d == sysModules)=false) (hm:DAt s.heap d es ep)
 (hQ:Q (.ref s.heap.objs.size) { s with heap:=s.heap.push { cls:=.type "dict_keyiterator",data:=.fields #[.ref d,.int 0 0,.int es.size 0,.int ep 0] } }):wpAny (model prog w) A (pyIter (.ref d)) Q E s:=by
 have hT:=hm.type
 obtain⟨o,ho,hc,hdat⟩:=id hm
 refine wpAny_pyIter_slot hT PySem.F.slot_dict_iter (wpAny_call_entry PySem.F.slot_dict_iter hT PySem.F.entry_dict_iter ?_ (PySem.F.args_dict_iter_1 _))
 unfold Builtin.«dict.__iter__»;refine wpAny_bind ?_;unfold Builtin.Dict.dictSlotNone
 refine wpAny_bind (wpAny_notOrdered_dict hT (show wpAny _ _ (pure (Value.ref d)) _ _ s from wpAny_pure ?_))
 refine (show wpAny _ _ (Builtin.Dict.showsAll d>>=_) _ _ s from ?_);unfold Builtin.Dict.showsAll
 rw [if_neg (by rw [lo];simp)]
 refine wpAny_bind (wpAny_pure (wpAny_bind (wpAny_dictEntries ho hdat (wpAny_bind (wpAny_dictEpoch ho hdat ?_)))))
 refine wpAny_bind (wpAny_newObj_type (wpAny_pure ⟨_,rfl,"dict_keyiterator",_,⟨_,Heap.get?_push_size _ rfl,rfl⟩,PySem.F.slot_dict_keyiterator_next.lookup,?_⟩))
 simpa [rawInt] using hQ
theorem aM5 {it:Addr} {i:Nat} {Q:Option Value->Shared->Prop} (hit:s.heap.IsKeyIter it d i es.size ep) (hm:DAt s.heap d es ep) (hlt:i<es.size)
 (hQ:∀h',h'.IsKeyIter it d (i+1) es.size ep->Heap.SameBut it s.heap h'->Q (some es[i].key) { s with heap:=h' }):wpAny (model prog w) A (pyNext (.ref it)) Q E s:=by
 obtain⟨o,ho,hc,hd⟩:=id hit
 obtain⟨od,hod,hcd,hdd⟩:=id hm
 have own:Builtin.Dict_items.ownsTuple "dict_keyiterator" = false:=by decide
 unfold pyNext
 refine wpAny_bind (wpAny_attempt (wpAny_callSpecial?_slot (name:=Str.ofString "__next__") hit.typeIs PySem.F.slot_dict_keyiterator_next
  (wpAny_call_entry PySem.F.slot_dict_keyiterator_next hit.typeIs PySem.F.entry_dict_keyiterator_next ?_ (PySem.F.args_dict_keyiterator_next_1 _))))
 refine wpAny_bind (wpAny_pure (wpAny_bind (wpAny_bind ?_)))
 first | refine wpAny_bind (wpAny_typeNameOfWhole_keyiter hit.typeIs (wpAny_pure ?_)) | refine wpAny_bind (wpAny_typeNameOf_keyiter hit.typeIs (wpAny_pure ?_))
 refine wpAny_bind (wpAny_fieldsOf ho hd ?_)
 simp only [own,Bool.false_eq_true,if_false]
 show wpAny _ _ (if (Value.ref d == Value.none)=true then _ else _) _ _ s
 rw [if_neg (show ¬((Value.ref d == Value.none)=true) from Bool.false_ne_true)]
 refine wpAny_bind (wpAny_pure (wpAny_bind (wpAny_dictEntries hod hdd ?_)))
 rw [if_neg (by simp)]
 refine wpAny_bind (wpAny_pure (wpAny_bind (wpAny_dictEpoch hod hdd ?_)))
 rw [if_neg (by simp)]
 refine wpAny_pure ?_
 simp only [show ¬((i:Int)<0) from by omega,if_false,Int.toNat_natCast,Array.getElem?_eq_getElem hlt]
 refine wpAny_bind ?_
 first | refine wpAny_bind (wpAny_typeNameOfWhole_keyiter hit.typeIs (wpAny_pure ?_)) | refine wpAny_bind (wpAny_typeNameOf_keyiter hit.typeIs (wpAny_pure ?_))
 refine wpAny_bind (wpAny_isOneOf_keyiter hit.typeIs ?_)
 show wpAny _ _ (setField (.ref it) 1 (rawInt ((i:Int)+1))>>=_) _ _ s
 refine wpAny_bind (wpAny_setField ho hd (by simp) ?_)
 have hit':(s.heap.update it (Obj.mapFields (·.setIfInBounds 1 (rawInt ((i:Int)+1))))).IsKeyIter it d (i+1) es.size ep:=
  ⟨_,Heap.get?_update_self _ ho (Obj.isFreed_of_fields (Obj.data_mapFields hd _)),(Obj.cls_mapFields ..).trans hc,by rw [Obj.data_mapFields hd];simp [rawInt]⟩
 refine wpAny_bind (wpAny_holding ?_)
 refine wpAny_bind (wpAny_isOneOf_keyiter (s:={ s with heap:=s.heap.update it (Obj.mapFields (·.setIfInBounds 1 (rawInt ((i:Int)+1)))) }) hit'.typeIs ?_)
 show wpAny _ _ (pure es[i].key) _ _ _
 exact wpAny_pure (wpAny_pure ⟨_,rfl,wpAny_pure (hQ _ hit' (Heap.SameBut.update ..))⟩)
theorem aV6 {it:Addr} {Q:Option Value->Shared->Prop} (hh:A.handled=none) (hit:s.heap.IsKeyIter it d es.size es.size ep) (hm:DAt s.heap d es ep)
 (hQ:∀h',Heap.ExtBut it s.heap h'->Q none { s with heap:=h' }):wpAny (model prog w) A (pyNext (.ref it)) Q E s:=by
 obtain⟨o,ho,hc,hd⟩:=id hit
 obtain⟨od,hod,hcd,hdd⟩:=id hm
 have own:Builtin.Dict_items.ownsTuple "dict_keyiterator" = false:=by decide
 unfold pyNext
 refine wpAny_bind (wpAny_attempt (wpAny_callSpecial?_slot (name:=Str.ofString "__next__") hit.typeIs PySem.F.slot_dict_keyiterator_next
  (wpAny_call_entry PySem.F.slot_dict_keyiterator_next hit.typeIs PySem.F.entry_dict_keyiterator_next ?_ (PySem.F.args_dict_keyiterator_next_1 _))))
 refine wpAny_bind (wpAny_pure (wpAny_bind (wpAny_bind ?_)))
 first | refine wpAny_bind (wpAny_typeNameOfWhole_keyiter hit.typeIs (wpAny_pure ?_)) | refine wpAny_bind (wpAny_typeNameOf_keyiter hit.typeIs (wpAny_pure ?_))
 refine wpAny_bind (wpAny_fieldsOf ho hd ?_)
 simp only [own,Bool.false_eq_true,if_false]
 show wpAny _ _ (if (Value.ref d == Value.none)=true then _ else _) _ _ s
 rw [if_neg (show ¬((Value.ref d == Value.none)=true) from Bool.false_ne_true)]
 refine wpAny_bind (wpAny_pure (wpAny_bind (wpAny_dictEntries hod hdd ?_)))
 rw [if_neg (by simp)]
 refine wpAny_bind (wpAny_pure (wpAny_bind (wpAny_dictEpoch hod hdd ?_)))
 rw [if_neg (by simp)]
 refine wpAny_pure ?_
 simp only [show ¬((es.size:Int)<0) from by omega,if_false,Int.toNat_natCast,Array.getElem?_eq_none (Nat.le_refl es.size)]
 refine wpAny_bind ?_
 first | refine wpAny_bind (wpAny_typeNameOfWhole_keyiter hit.typeIs (wpAny_pure ?_)) | refine wpAny_bind (wpAny_typeNameOf_keyiter hit.typeIs (wpAny_pure ?_))
 show wpAny _ _ (setField (.ref it) 0 .none>>=_) _ _ s
 refine wpAny_bind (wpAny_setField ho hd (by simp) ?_)
 show wpAny _ _ (newExc (.type "StopIteration") []>>=_) _ _ _
 refine wpAny_bind ?_
 simp only [newExc,newTuple]
 refine wpAny_bind (wpAny_newObj_type ?_ (by size_fits))
 refine wpAny_bind (m:=firstArgMember _ _) (wpAny_of_eq (a:=Value.none) (by first | rfl | (simp only [firstArgMember];rfl)) ?_)
 refine wpAny_newObj_type ?_ (by size_fits)
 simp only [raiseNew]
 refine wpAny_bind (wpAny_handled ?_)
 rw [show A.in1.handled=none from hh]
 refine wpAny_bind (wpAny_pure (wpAny_throw ?_))
 refine wpAny_bind (wpAny_isInstance (T:="StopIteration") (b:=true) ⟨_,Heap.get?_push_size _ rfl,rfl⟩ isSubtype_stop ?_)
 exact wpAny_pure (hQ _ (((Heap.SameBut.update ..).extBut.push _).push _))
theorem aD0 (hh:A.handled=none) (I:Addr) (hne:d≠I):Walks prog w A I [I,d] [I] es.size (λi v=>(es[i]?).map (·.key)=some v) (λi h=>h.IsKeyIter I d i es.size ep/\DAt h d es ep) where
 sub:=λb hb=>by simp at hb;simp [hb]
 frame:=λ_ _ _ st hk=>⟨st.1.at λo e=>hk I (by simp) o e,st.2.at λo e=>hk d (by simp) o e⟩
 item:=λi s Q E hi st hQ=>by
  refine aM5 st.1 st.2 hi λh' hit' hs'=>?_
  exact hQ _ h' s.toks (by rw [Array.getElem?_eq_getElem hi];rfl) ⟨hit',st.2.at λo e=>hs'.extBut d o hne e⟩ λb o hb e=>hs'.extBut b o (λh=>hb (by simp [h])) e
 done:=λs Q E st hQ=>aV6 hh st.1 st.2 λh' he'=>hQ h' s.toks λb o hb e=>he' b o (λh=>hb (by simp [h])) e
 self:=λ_ _ _ _ st hQ=>wpAny_pyIter_keyiter st.1 hQ
theorem aM6 (lo:(d == sysModules)=false):KdlSrc prog w "dict" d d es.size (λi v=>(es[i]?).map (·.key)=some v) (λh=>DAt h d es ep) where
 type:=λ_ hm=>hm.type
 there:=λ_ hm=>⟨let ⟨_,ho,_⟩:=hm;Heap.lt_size ho,let ⟨_,ho,_⟩:=hm;Heap.lt_size ho⟩
 keep:=λ_ _ hm hk=>hm.at λo e=>hk d (.inl rfl) o e
 notList:=by decide
 notTuple:=by decide
 hint:=λ_ _ _ _ hm hq=>kdl_hint_dict hm.type hq
 iter:=λ_ _ hh hm=>⟨_,_,(λ_ _ hq=>aM4 lo hm hq),aD0 hh _ (Nat.ne_of_lt (let ⟨_,ho,_⟩:=hm;Heap.lt_size ho)),⟨⟨_,Heap.get?_push_size _ rfl,rfl,rfl⟩,hm.at λo e=>Heap.get?_push_of_some _ e⟩⟩
end
section
variable {X:L2.Cx} {cm:Nat->Addr}
def rSortDT:List L2.V->L2.Hp->L2.VK->Prop:=λvs H Q=>∃(a:Addr) (kvs:List (List L2.Key×L2.V)) (ts:List (List Int)),vs=[.ref a]/\H a=some (.dT kvs)/\kvs.map (·.1)=ts.map (List.map (Sum.inl:Int->L2.Key))/\(∀t∈ts,t≠[])/\ts.length<64/\
 ∀(l:Addr) (p:List Nat) (ys:List L2.V),Paired (TupV H) ys ts->R0 ts ys.length p->H l=none->Q (.ref l) (L2.upd H l (.lst (p.map λi=>ys.getD i .non)))
theorem a52 {H:L2.Hp}:∀{kvs:List (List L2.Key×L2.V)} {xs:List (List L2.Key×Addr×Value)} {ts:List (List Int)},L2.KT H kvs xs->kvs.map (·.1)=ts.map (List.map (Sum.inl:Int->L2.Key))->(∀t∈ts,t≠[])->Paired (TupV H) (xs.map λq=>L2.V.ref q.2.1) ts:=by
 intro kvs xs ts r
 unfold L2.KT at r
 induction r generalizing ts with
 | nil=>
   intro e _
   cases ts with
   | nil=>exact .nil
   | cons t ts=>cases e
 | @cons p q _ _ h _ ih=>
   intro e hne
   cases ts with
   | nil=>cases e
   | cons t ts=>
     rw [List.map_cons,List.map_cons] at e
     injection e with e1 e2
     refine .cons ⟨_,rfl,?_,hne t List.mem_cons_self⟩ (ih e2 λu hu=>hne u (List.mem_cons_of_mem _ hu))
     rw [h.2.1,e1,List.map_map];rfl
theorem aw9 (hcalm:X.calm=true):L2.CallR X (.builtin "sorted") rSortDT:=by
 intro pins s σ H xs us Q I r h
 obtain⟨a,kvs,ts,rfl,hH,hkeys,hne,h64,q⟩:=h
 obtain⟨u,rfl,rx⟩:=L2.g7 r
 cases rx
 obtain⟨z,hd,xs,rel,dd⟩:=L2.aE7 I.hok hH
 obtain⟨oo,es,ep,hoo,hc,hdat,hes,his,hnd⟩:=id dd
 have hesz:es.size=xs.length:=size_of_entries hes
 have hl:kvs.length=xs.length:=Paired.length rel
 have hlt:kvs.length=ts.length:=by
  have:=congrArg List.length hkeys
  simpa using this
 have hT:=a52 rel hkeys hne
 refine Calls.call_function_entry kind_sorted plain_sorted entry_sorted (args_sorted1 _) ?_
 unfold Builtin.«sorted»;refine wpAny_bind (m:=checkCount "sorted" 1 1 _) (wpAny_pure ?_)
 refine wpAny_bind (kdu_collect (A:=_) (aM6 (es:=es) (ep:=ep) hd) (I.ok.hd hcalm) ⟨oo,hoo,hc,hdat⟩ (by rw [hesz,←hl];exact z) λh' tk acc hk hacc=>?_)
 have hal:acc.toList=xs.map λq=>Value.ref q.2.1:=by
  refine List.ext_getElem? λj=>?_
  rw [Array.getElem?_toList]
  cases hj:acc[j]? with
  | none=>
    have h1:acc.size<=j:=by simpa using hj
    rw [hacc.1,hesz] at h1
    rw [List.getElem?_eq_none (by simpa using h1)]
  | some v=>
    have h1:(es[j]?).map (·.key)=some v:=hacc.2 j v hj
    rw [entry_at hes j,Option.map_map] at h1
    rw [List.getElem?_map]
    exact h1.symm
 have hlen:acc.toList.length=ts.length:=by rw [hal,List.length_map,←hl,hlt]
 have I1:=I.kept (t':=tk) hk
 have hv:L2.Vals (xs.map λq=>L2.V.ref q.2.1) acc.toList:=by
  rw [hal]
  clear hal hlen hT hes hl rel dd hesz his hnd
  induction xs with
  | nil=>exact .nil
  | cons q r ih=>exact .cons rfl ih
 refine wpAny_bind (wpAny_newList ?_ (by rw [hlen,sizeLine_eq];omega))
 have hoL:(h'.push (seqObj "list" acc.toList.toArray 0)).get? h'.objs.size=some (seqObj "list" acc.toList.toArray 0):=Heap.get?_push_size _ rfl
 have hTA:=ar5 I1 hv hT
 refine wpAny_bind (wpAny_holding (wpAny_call_entry slot_list_sort ⟨_,hoL,rfl⟩ entry_list_sort (b7 hoL (L2.Paired.mapP hTA λv t ⟨b,o,its,k,e,q,r⟩=>⟨b,o,its,k,e,Heap.get?_push_of_some _ q,r⟩) (by omega) λp hp=>⟨_,rfl,?_⟩) (args_list_sort _)))
 refine wpAny_pure ⟨_,rfl,?_⟩
 have hyl:(xs.map λq=>L2.V.ref q.2.1).length=acc.toList.length:=by rw [hal];simp
 have hp':R0 ts (xs.map λq=>L2.V.ref q.2.1).length p:=by rw [hyl];exact hp
 obtain⟨c,hc'⟩:=sortedHeap_at (out:=List.toArray (p.map λi=>acc.toList.getD i Value.none)) hoL
 have hpl:p.length=acc.toList.length:=by rw [hp.1.length_eq];simp
 refine⟨.ref h'.objs.size,_,I1.laid (t':=tk) (a:=h'.objs.size) (o:=.lst (p.map λi=>(xs.map λq=>L2.V.ref q.2.1).getD i .non)) (λb o e2=>?_) (Nat.le_refl _) ?_,rfl,q _ p _ hT hp' (I1.hok.fresh (Nat.le_refl _))⟩
 ·have hlt:=Heap.lt_size e2
  rw [sortedHeap_old (Nat.ne_of_lt hlt) (by rw [size_push'];exact Nat.lt_succ_of_lt hlt)]
  exact Heap.get?_push_of_some _ e2
 ·refine⟨by rw [List.length_map,hpl,hlen,sizeLine_eq];omega,p.map λi=>acc.toList.getD i Value.none,c,u8 hv p λi hi=>?_,hc'⟩
  have:=hp'.1.mem_iff.mp hi
  simpa using this
theorem aM7 {e:Expr} {d:ED} {p pos:Pos} (hcalm:X.calm=true) (he:L2.PE X e (EvE X.K cm d)) (hg:L2.Gl X "sorted") (hm:X.mg "sorted" = none) (hs:starEach [e] X.env=(false,eval e X.env)::starEach [] X.env:=by exact G0 rfl):L2.PE X (.Call (.Name "sorted" p) [e] [] pos) (EvE X.K cm (ad4 d)):=
 D7 (L2.V5 (aw9 hcalm) hg hm PyProof.Rows.boot_sorted (r_cons he r_nil hs) (he:=hs)) λσ H Q h=>a8 (f:=λx=>match x with | .ref n=>bnd (Q0 n) λm=>G5 (m.length<64/\∀p∈m,p.1≠[]) (alloc (.lst ((G6 G3 (m.map (·.1))).map λt=>.tup (t.map .int)))) | _=>stuck) (λ_=>rfl) (λρ A H x z A' v Q rl rx ev k=>by
  cases x with
  | ref n=>
    obtain⟨m,A1,e1,ev1⟩:=B0 ev
    obtain⟨rfl,hA,a,kv,rfl,hn,hH,hp⟩:=N6 rl rx e1
    obtain⟨⟨h64,hne⟩,ev2⟩:=C7 ev1
    cases ev2
    refine⟨a,kv,m.map (·.1),rfl,hH,by rw [hp.keys,List.map_map];rfl,λt ht=>?_,by simpa using h64,λD p ys hT hs hD=>?_⟩
    ·obtain⟨q,hq,rfl⟩:=List.mem_map.mp ht
     exact hne q hq
    generalize m.map (·.1)=ts at hT hs k
    have hyl:ys.length=ts.length:=Paired.length hT
    rw [hyl] at hs
    have es:(p.map λi=>ts.getD i [])=G6 G3 ts:=t5 (lt:=G3) aa6 ((am3 ts [] hs.1).trans (N4 _ _).symm) hs.2 (ac9 ts)
    have hlt:∀i∈p,i<ts.length:=λi hi=>by simpa using hs.1.mem_iff.mp hi
    have hr:RVs ρ H (ts.map λt=>PV.tup (t.map .int)) ys:=by
     clear hs es hlt hyl k
     induction hT with
     | nil=>exact .nil
     | cons h _ ih=>
       obtain⟨b,rfl,hb,_⟩:=h
       exact .cons (.tup hb (RVs.ints _)) ih
    have ep:(G6 G3 ts).map (λt=>PV.tup (t.map .int))=p.map λi=>(ts.map λt=>PV.tup (t.map .int)).getD i .non:=by
     rw [←es,List.map_map]
     refine List.map_congr_left λi hi=>?_
     have:=hlt i hi
     simp [this]
    have ex:Ext ρ H (ρ++[D]) (L2.upd H D (.lst (p.map λi=>ys.getD i .non))):=Ext.new hD
    refine k (ρ++[D]) _ _ ex (rl.alloc hD ⟨_,L2.D2,?_⟩ rfl) (.ref (by rw [←rl.len];simp))
    rw [ep]
    exact (af1 hr p λi hi=>by rw [List.length_map];exact hlt i hi).mono ex
  | _=>cases ev) h
end
end Ws
namespace Ws
open PySem PySem.W PyProof.Rows PySem.Builtin PySem.Builtin.Str
section
variable {X:L2.Cx} {cm:Nat->Addr}
theorem as2 {x z:Str} {pos:Pos} (hg:L2.Gl X x) (hm:∃t,X.mg x=some (.str z t)) (hd:(x == ("__debug__" : Str))=false:=by decide):L2.PE X (.Name x pos) (EvE X.K cm (eK (.str z))):=by
 obtain⟨t,hm⟩:=hm
 exact r_k (L2.aE0 hg hm (show L2.RelV (.str z) (.str z t) from ⟨t,rfl⟩) hd) λ_ _=>.str z
end
end Ws
namespace Ws
open PySem PySem.W PyProof.Rows
end Ws
namespace Ws
open PySem PySem.W PyProof.Rows PySem.SeqAt
open MeetsSeq MeetsSeq2 MeetsSeq3 SeqRoads2
end Ws
namespace Ws
open PySem PySem.W PyProof.Rows
section
variable {prog:Program} {w:World} {K:Type} [DecidableEq K] {knd:HeapKind prog w K} {A:Around} {E:Value->Shared->Prop} {s:Shared}
theorem a53 {d a:Addr} {xs:List (K×Addr×Value)} {k:K} {v:Value} {Q:Value->Shared->Prop} (hu:knd.room A) (hkey:knd.is s.heap k a) (hm:s.heap.DictOfH knd d xs) (hsz:xs.length<=sizeLine)
 (hsome:∀p,atKey xs k=some p->Q p.2 { s with toks:=s.toks+knd.draws k })
 (hnone:atKey xs k=none->∀h',h'.DictOfH knd d (storedH xs k a v)->Heap.SameBut d s.heap h'->Q v { s with heap:=h',toks:=s.toks+knd.draws k }) :
 wpAny (model prog w) A (dictSetDefault d (.ref a) v) Q E s:=by
 obtain⟨o,es,ep,ho,hc,hd,hes,his,hn⟩:=hm
 have hesz:es.size=xs.length:=size_of_entries hes
 unfold dictSetDefault
 refine wpAny_holding ?_
 refine wpAny_bind (knd.pyHash hu hkey ?_)
 refine wpAny_bind (wpAny_dictFind_heap (s:={ s with toks:=s.toks+knd.draws k }) hu hkey ho hd hes his hn (λh=>?_) λj p hj=>?_)
 ·have h0:=atKey_none_of_get h
  have est:storedH xs k a v=xs++[(k,a,v)]:=by
   unfold storedH
   rw [h0];rfl
  refine wpAny_bind (wpAny_rule ?_)
  refine wpAny_bind (wpAny_updateDictKeys (hz:=by rw [hesz];exact hsz) (s:={ s with toks:=s.toks+knd.draws k }) ho hd (wpAny_pure (hnone h0 _ ⟨_,_,ep+1,Heap.get?_update_self _ ho (Obj.isFreed_of_dict (Obj.data_mapDictKeys hd _)),
   hc.mapDictKeys _,Obj.data_mapDictKeys hd _,?_,λx hx=>?_,?_⟩ (Heap.SameBut.update ..))))
  ·rw [est,List.map_append,←hes,Array.toList_push];rfl
  ·rw [est] at hx
   rcases List.mem_append.mp hx with hx | hx
   ·exact knd.keeps (his x hx) ho hd (Heap.SameBut.update ..)
   ·cases List.mem_singleton.mp hx
    exact knd.keeps hkey ho hd (Heap.SameBut.update ..)
  ·rw [est,List.map_append]
   refine List.nodup_append.mpr ⟨hn,by simp,?_⟩
   intro a1 h1 b1 h2 e1
   rw [List.map_cons,List.map_nil,List.mem_singleton] at h2
   obtain⟨y,hy,ey⟩:=List.mem_map.mp h1
   obtain⟨j,hj⟩:=List.getElem?_of_mem hy
   refine h j y.2 ?_
   rw [hj,show k=y.1 from h2.symm.trans (e1.symm.trans ey.symm)]
 ·refine wpAny_bind (wpAny_dictEntries (s:={ s with toks:=s.toks+knd.draws k }) ho hd ?_)
  have he':es[j]?=some (entryOfKey knd (k,p)):=by rw [entry_at hes j,hj];rfl
  rw [he']
  exact wpAny_bind (wpAny_rule (wpAny_pure (hsome p (atKey_of_get hn hj))))
theorem ax0 {d a:Addr} {xs:List (K×Addr×Value)} {k:K} {dflt:Value} {Q:Value->Shared->Prop} (hd:(d == sysModules)=false) (hu:knd.room A.in1) (hkey:knd.is s.heap k a) (hm:s.heap.DictOfH knd d xs) (hsz:xs.length<=sizeLine)
 (hsome:∀p,atKey xs k=some p->∀tk,Q p.2 { s with toks:=tk })
 (hnone:atKey xs k=none->∀h' tk,h'.DictOfH knd d (storedH xs k a dflt)->Heap.SameBut d s.heap h'->Q dflt { s with heap:=h',toks:=tk }) :
 wpAny (model prog w) A (call (.builtin "dict.setdefault") [.ref d,.ref a,dflt]) Q E s:=by
 have hT:=hm.typeIs
 refine wpAny_call_entry PySem.F.slot_dict_setdefault hT PySem.F.entry_dict_setdefault ?_ (PySem.F.args_dict_setdefault_3 _ _ _)
 unfold Builtin.«dict.setdefault»
 refine wpAny_bind ?_
 unfold Builtin.Dict.keyAndDefault
 refine wpAny_bind (wpAny_notOrdered_dict hT ?_)
 show wpAny _ _ (pure (d,Value.ref a,some dflt)) _ _ s
 refine wpAny_pure ?_
 show wpAny _ _ (if (d == sysModules)=true then _ else _) _ _ s
 rw [if_neg (by rw [hd];exact Bool.false_ne_true)]
 refine wpAny_bind (a53 hu hkey hm hsz (λp hp=>?_) λh0 h' dd hs=>?_)
 ·exact wpAny_pure ⟨_,rfl,hsome p hp _⟩
 ·exact wpAny_pure ⟨_,rfl,hnone h0 h' _ dd hs⟩
end
section
variable {X:L2.Cx} {cm:Nat->Addr} {o e f:Expr} {apos cpos:Pos} {td ty tx:L2.TE}
def bf5 (td ty tx:L2.TE):L2.TE:=λσ H Q=>td σ H λx H1=>∃a,x=.ref a/\L2.IsD H1 a/\ty σ H1 λy H2=>tx σ H2 λz H3=>∃kvs k b,H3 a=some (.dT kvs)/\y=.ref b/\H3 b=some (.tup (k.map L2.kV))/\
 (∀v,L2.Y4 kvs k=some v->Q v H3)/\(L2.Y4 kvs k=none->kvs.length<sizeLine/\Q z (L2.upd H3 a (.dT (L2.U3 kvs k z))))
theorem aV7 (hu:X.A.units+1<cLine) (ho:L2.PE X o td) (he:L2.PE X e ty) (hf:L2.PE X f tx) (m:L2.M2 X o "setdefault" apos e f cpos):L2.PE X (.Call (.Attribute o "setdefault" apos) [e,f] [] cpos) (bf5 td ty tx):=by
 intro pins s σ H Q I h
 refine wpAny_Call_method m.base m.few m.line PySem.F.plainAttrs_dict PySem.F.slot_dict_setdefault PySem.F.type_dict_setdefault (L2.thn (ho pins s σ H _ I h) λu s1 ⟨x,H1,I1,rx,a,ex,d,q1⟩=>?_)
 subst ex
 obtain rfl:u=Value.ref a:=rx
 obtain⟨t1,t2,_⟩:=L2.aA7 I1 d
 refine⟨t1,t2,?_⟩
 rw [m.trees]
 refine Calls.callWith_builtin rfl (Calls.evalArgs_plain (Calls.spliced_cons (L2.thn (he pins s1 σ H1 _ I1 q1) λiv s2 ⟨y,H2,I2,ry,q2⟩=>
  Calls.spliced_cons (L2.thn (hf pins s2 σ H2 _ I2 q2) λfv s3 ⟨z,H3,I3,rz,kvs,k,b,ea,ey,eb,q3,q4⟩=>Calls.spliced_nil ?_))))
 subst ey
 cases (show iv=Value.ref b from ry)
 obtain⟨zz,hd,xs,rel,dd⟩:=L2.aE7 I3.hok ea
 have hl:kvs.length=xs.length:=Paired.length rel
 refine ax0 (knd:=TK X.prog X.w) hd (tupleKind_room_in1 hu) (L2.Z0 I3.hok eb) dd (by rw [←hl];exact zz) (λp hp tk=>?_) λh0 h' tk dd' hs=>?_
 ·have:=rel.val k
  rw [hp] at this
  cases hv:L2.Y4 kvs k with
  | none=>rw [hv] at this;exact this.elim
  | some v=>rw [hv] at this;exact⟨v,H3,I3.kept (h':=s3.heap) (t':=tk) (λ_ _ e=>e),this,q3 v hv⟩
 ·have:=rel.val k
  rw [h0] at this
  cases hv:L2.Y4 kvs k with
  | some v=>rw [hv] at this;exact this.elim
  | none=>
    have hlt:=(q4 hv).1
    have hl2:(L2.U3 kvs k z).length<=sizeLine:=by have:=L2.Y9 kvs k z;omega
    obtain⟨qo,es,ep,hq,h2,h3,h4,_,h5⟩:=dd'
    refine⟨z,_,L2.ap4 (ob:=.dT (L2.U3 kvs k z)) (t':=tk) I3 (by rw [ea];exact True.intro) hs ⟨qo,hq⟩ ⟨hl2,hd,_,L2.KT.keeps (rel.put k eb rz) (λc ys ec=>?_),qo,es,ep,hq,h2,h3,h4,h5⟩,rz,(q4 hv).2⟩
    rw [L2.D4 (L2.a74 ec ea (λz=>nomatch z))]
    exact ec
theorem aH1 {d y x:ED} (hu:X.A.units+1<cLine) (ho:L2.PE X o (EvE X.K cm d)) (he:L2.PE X e (EvE X.K cm y)) (hf:L2.PE X f (EvE X.K cm x)) (m:L2.M2 X o "setdefault" apos e f cpos:=by exact⟨rfl,rfl,rfl,rfl⟩):L2.PE X (.Call (.Attribute o "setdefault" apos) [e,f] [] cpos) (EvE X.K cm (t6 d y x)):=
 D7 (aV7 hu ho he hf m) λσ H Q ⟨ρ,A,σp,v,A',rl,rs,ev,k⟩=>by
  obtain⟨xv,A1,e1,ev1⟩:=B0 ev
  refine⟨ρ,A,σp,xv,A1,rl,rs,e1,λρ1 H1 v1 x1 rl1 rv1=>?_⟩
  cases xv with
  | ref n=>
    obtain⟨m0,A2,e2,ev2⟩:=B0 ev1
    obtain⟨rfl,hA,a,kv,rfl,hn,hH,hp⟩:=N6 rl1 rv1 e2
    obtain⟨kx,A3,e3,ev3⟩:=B0 ev2
    obtain⟨z,A4,e4,ev4⟩:=B0 ev3
    refine⟨a,rfl,.inr ⟨kv,.inl hH⟩,ρ1,_,σp,kx,A3,rl1,rs.mono x1,e3,λρ2 H2 v2 x2 rl2 rv2=>⟨ρ2,A3,σp,z,A4,rl2,(rs.mono x1).mono x2,e4,λρ3 H3 v3 x3 rl3 rv3=>?_⟩⟩
    rcases hkj:O1 kx with _ | j <;> rw [hkj] at ev4
    ·cases ev4
    obtain⟨mm,A5,e5,ev5⟩:=B0 ev4
    obtain⟨rfl,hA3,a3,kv3,e6,hn3,hH3,hp3⟩:=N6 rl3 ((rv1.mono x2).mono x3) e5
    cases e6
    obtain⟨b,rfl,hb⟩:=T8 hkj (rv2.mono x3)
    refine⟨kv3,j.map Sum.inl,b,hH3,rfl,hb,λw hw=>?_,λhw=>?_⟩
    ·rcases PT2.val j hp3 with ⟨g1,g2⟩ | ⟨w',u,g1,g2,g3⟩
     ·rw [g2] at hw;cases hw
     ·rw [g2] at hw
      cases hw
      rw [g1] at ev5
      cases ev5
      exact k ρ3 _ _ ((x1.trans x2).trans x3) rl3 g3
    ·rcases PT2.val j hp3 with ⟨g1,g2⟩ | ⟨w',u,g1,g2,g3⟩
     ·rw [g1] at ev5
      obtain⟨c,ev6⟩:=C7 ev5
      cases ev6
      have ex:Ext ρ3 H3 ρ3 (L2.upd H3 a (.dT (L2.U3 kv3 (j.map Sum.inl) v3))):=Ext.put rl3 hn3 hA3 rfl
      exact⟨by rw [←hp3.len];exact aq9 c,k ρ3 _ _ (((x1.trans x2).trans x3).trans ex) (rl3.put hn3 hA3 rfl rfl ⟨_,L2.D2,PT2.put (rv3.mono ex) j (hp3.mono ex)⟩) (rv3.mono ex)⟩
     ·rw [g2] at hw;cases hw
  | _=>cases ev1
end
end Ws
namespace Ws
open PySem PySem.W PyProof.Rows PySem.Calls
end Ws
namespace Ws
open PySem PySem.W PyProof.Rows
def foldH {K:Type} [DecidableEq K] (ws:List (K×Addr×Value)):List (K×Addr×Value):=ws.foldl (λacc p=>storedH acc p.1 p.2.1 p.2.2) []
theorem aD1 {K:Type} [DecidableEq K] (ws:List (K×Addr×Value)) (p:K×Addr×Value):foldH (ws++[p])=storedH (foldH ws) p.1 p.2.1 p.2.2:=by
 unfold foldH;rw [List.foldl_append];rfl
theorem ax1 {K:Type} [DecidableEq K] (xs:List (K×Addr×Value)) (k:K) (a:Addr) (v:Value):(storedH xs k a v).length<=xs.length+1:=by
 unfold storedH;split <;> simp
theorem am9 {K:Type} [DecidableEq K] (ws:List (K×Addr×Value)):(foldH ws).length<=ws.length:=by
 have key:∀(l acc:List (K×Addr×Value)),(l.foldl (λacc p=>storedH acc p.1 p.2.1 p.2.2) acc).length<=acc.length+l.length:=by
  intro l
  induction l with
  | nil=>intro acc;simp
  | cons p l ih=>
    intro acc
    have h1:=ih (storedH acc p.1 p.2.1 p.2.2)
    have h2:=ax1 acc p.1 p.2.1 p.2.2
    simp only [List.foldl_cons,List.length_cons]
    omega
 simpa [foldH] using key ws []
theorem aM8 {K:Type} [DecidableEq K] (ws:List (K×Addr×Value)):∀x∈foldH ws,∃q∈ws,x.1=q.1/\x.2.1=q.2.1:=by
 have key:∀(l acc:List (K×Addr×Value)),∀x∈l.foldl (λacc p=>storedH acc p.1 p.2.1 p.2.2) acc,(∃q∈acc,x.1=q.1/\x.2.1=q.2.1)\/∃q∈l,x.1=q.1/\x.2.1=q.2.1:=by
  intro l
  induction l with
  | nil=>intro acc x hx;exact .inl ⟨x,hx,rfl,rfl⟩
  | cons p l ih=>
    intro acc x hx
    rcases ih _ x hx with ⟨q,hq,e⟩ | ⟨q,hq,e⟩
    ·have hq:q∈storedH acc p.1 p.2.1 p.2.2:=hq
     unfold storedH at hq
     split at hq
     ·obtain⟨q',hq',rfl⟩:=List.mem_map.mp hq
      refine .inl ⟨q',hq',?_⟩
      unfold putAt at e
      split at e <;> exact e
     ·rcases List.mem_append.mp hq with z | z
      ·exact .inl ⟨q,z,e⟩
      ·cases List.mem_singleton.mp z
       exact .inr ⟨p,List.mem_cons_self,e⟩
    ·exact .inr ⟨q,List.mem_cons_of_mem _ hq,e⟩
 intro x hx
 rcases key ws [] x hx with ⟨q,hq,_⟩ | h
 ·cases hq
 ·exact h
theorem o8 {P:Program} {w:World} {h h':Heap} {k:List L2.Key} {a:Addr} (hi:(TK P w).is h k a) (hk:∀o,h.get? a=some o->h'.get? a=some o):(TK P w).is h' k a:=by
 obtain⟨ot,its,n,h1,h2⟩:=hi
 exact⟨ot,its,n,hk _ h1,h2⟩
theorem X6 {P:Program} {w:World} {h h':Heap} {D:Addr} {xs:List (List L2.Key×Addr×Value)} (hD:h.DictOfH (TK P w) D xs) (hk:∀o,h.get? D=some o->h'.get? D=some o) (hi:∀x∈xs,(TK P w).is h' x.1 x.2.1):h'.DictOfH (TK P w) D xs:=by
 obtain⟨o,es,ep,ho,h1,h2,h3,_,h5⟩:=hD
 exact⟨o,es,ep,hk _ ho,h1,h2,h3,hi,h5⟩
theorem aH2 {P:Program} {w:World} {h:Heap} {ws:List (List L2.Key×Addr×Value)} (hw:∀j (hj:j<ws.length),(TK P w).is h ws[j].1 ws[j].2.1) (i:Nat):∀x∈foldH (ws.take i),(TK P w).is h x.1 x.2.1:=by
 intro x hx
 obtain⟨q,hq,e1,e2⟩:=aM8 _ x hx
 obtain⟨j,hj,rfl⟩:=List.getElem_of_mem (List.mem_of_mem_take hq)
 rw [e1,e2]
 exact hw j hj
section
variable {prog:Program} {w:World} {A:Around} {R:Result->Shared->Prop} {E:Value->Shared->Prop} {s:Shared}
theorem aM9 {I D:Addr} {fp wr:List Addr} {G:Array GenState->Array GenState->Prop} {P:Nat->Value->Prop} {St:Nat->Shared->Prop} {ws:List (List L2.Key×Addr×Value)}
 (W:WalksS prog w A.in1 I fp wr G ws.length P St) (hDf:D∉fp) (res:Value) (tp:Nat->Addr) (htp:∀i v,P i v->v=.ref (tp i)) (hne:∀i,i<ws.length->tp i≠D/\tp i∉wr) (hnk:∀i (hi:i<ws.length),ws[i].2.1≠D/\ws[i].2.1∉wr) (hu:(TK prog w).room A.in1) (hz:ws.length<=sizeLine) :
 ∀(k i:Nat) (s:Shared),ws.length - i=k->i<=ws.length->St i s->s.heap.DictOfH (TK prog w) D (foldH (ws.take i))->
  (∀j (hj:j<ws.length),s.heap.IsTuple (tp j) #[.ref ws[j].2.1,ws[j].2.2]/\(TK prog w).is s.heap ws[j].1 ws[j].2.1)->
  (∀s',Moved (D::wr) G s s'->s'.heap.DictOfH (TK prog w) D (foldH ws)->R (.ok (.ret res)) s')->
  codeAny (model prog w) A (.builtin "dict.update.loop" ⟨[.ref D,.ref I,rawInt i,res],[]⟩) R s:=by
 have hDw:D∉wr:=λh=>hDf (W.sub _ h)
 have hsub:∀b∈wr,b∈D::wr:=λb hb=>List.mem_cons_of_mem _ hb
 intro k
 induction k with
 | zero=>
   intro i s hk hi hst hD htup hR
   have hin:i=ws.length:=by omega
   subst hin
   rw [List.take_length] at hD
   refine codeAny_builtin am8 ?_
   rw [Around.under_plainId f6 _]
   show wpAny _ A.in1 (pyNext (.ref I)>>=_) _ _ s
   refine wpAny_bind (W.done s _ _ hst λs' hm=>?_)
   show wpAny _ A.in1 (Builtin.Dict.addKeywords D []>>=_) _ _ s'
   refine wpAny_bind (wpAny_pure ?_)
   refine wpAny_pure (hR s' (hm.mono hsub) ?_)
   refine X6 hD (λo ho=>hm.heap D o hDw ho) ?_
   have:=aH2 (i:=ws.length) λj hj=>o8 (htup j hj).2 λo ho=>hm.heap _ o (hnk j hj).2 ho
   rw [List.take_length] at this
   exact this
 | succ k ih=>
   intro i s hk hi hst hD htup hR
   have hlt:i<ws.length:=by omega
   refine codeAny_builtin am8 ?_
   rw [Around.under_plainId f6 _]
   show wpAny _ A.in1 (pyNext (.ref I)>>=_) _ _ s
   refine wpAny_bind (W.item i s _ _ hlt hst λv s' hP hst' hm=>?_)
   obtain rfl:=htp i v hP
   have htup':∀j (hj:j<ws.length),s'.heap.IsTuple (tp j) #[.ref ws[j].2.1,ws[j].2.2]/\(TK prog w).is s'.heap ws[j].1 ws[j].2.1:=by
    intro j hj
    obtain⟨⟨o,ho,r⟩,h2⟩:=htup j hj
    exact⟨⟨o,hm.heap _ o (hne j hj).2 ho,r⟩,o8 h2 λo ho=>hm.heap _ o (hnk j hj).2 ho⟩
   have hD':s'.heap.DictOfH (TK prog w) D (foldH (ws.take i)):=X6 hD (λo ho=>hm.heap D o hDw ho) (aH2 (i:=i) λj hj=>(htup' j hj).2)
   obtain⟨⟨ot,hot,hct,nt,hdt⟩,hkey⟩:=htup' i hlt
   have hT:s'.TypeIs (.ref (tp i)) "tuple":=⟨ot,hot,hct⟩
   show wpAny _ A.in1 (holding [Value.ref (tp i)] _>>=_) _ _ s'
   refine wpAny_bind (wpAny_holding ?_)
   refine wpAny_bind (wpAny_tryCatch ?_)
   unfold Builtin.Dict.pairItems
   refine wpAny_bind (wpAny_typeOf hT ?_)
   rw [if_pos (by decide)]
   refine wpAny_bind (wpAny_seqItems hot hdt ?_)
   refine wpAny_pure ?_
   show wpAny _ A.in1 (holding [Value.ref ws[i].2.1,ws[i].2.2] (dictSet D (.ref ws[i].2.1) ws[i].2.2)) _ _ s'
   refine wpAny_holding ?_
   refine wpAny_dictSet_heap hu hkey hD' (λh' hD2 hsb=>?_) (by have:=am9 (ws.take i);have:(ws.take i).length<=ws.length:=(by rw [List.length_take];omega);omega)
   have htk:ws.take (i+1)=ws.take i++[ws[i]]:=by rw [List.take_succ,List.getElem?_eq_getElem hlt];rfl
   have hc:((i:Int)+1)=((i+1:Nat):Int):=by push_cast;rfl
   show wpAny _ A.in1 (again (.builtin "dict.update.loop" ⟨[.ref D,.ref I,rawInt ((i:Int)+1),res],[]⟩)) _ _ _
   rw [hc]
   refine wpAny_pure ⟨plainId_quiet f6 _,ih (i+1) _ (by omega) hlt (W.frame _ s' _ _ hst' (Nat.le_add_right _ _) λb hb o e=>?_) (by rw [htk,aD1];exact hD2) (λj hj=>?_) λs'' hm'' hD''=>?_⟩
   ·rw [hsb.2 b (λh:b=D=>hDf (by rw [←h];exact hb))];exact e
   ·obtain⟨⟨o,ho,r⟩,h2⟩:=htup' j hj
    exact⟨⟨o,by rw [hsb.2 _ (hne j hj).1];exact ho,r⟩,o8 h2 λo ho=>by rw [hsb.2 _ (hnk j hj).1];exact ho⟩
   ·refine hR s'' (Moved.trans W.gtrans ((hm.mono hsub).then_heap (Nat.le_add_right _ _) λb o hb e=>?_) hm'') hD''
    rw [hsb.2 b (λh:b=D=>hb (by rw [h];exact List.mem_cons_self))];exact e
theorem v9 {l:Addr} {items:Array Value} {ws:List (List L2.Key×Addr×Value)} {Q:Value->Shared->Prop} (hh:A.handled=none) (hu:(TK prog w).room A.in1.in1) (hl:PlainL s.heap l items) (tp:Nat->Addr) (hsz:items.size=ws.length) (hz:ws.length<=sizeLine)
 (hit:∀j (hj:j<ws.length),items[j]?=some (.ref (tp j))/\s.heap.IsTuple (tp j) #[.ref ws[j].2.1,ws[j].2.2]/\(TK prog w).is s.heap ws[j].1 ws[j].2.1)
 (h:∀h' tk,h'.DictOfH (TK prog w) s.heap.objs.size (foldH ws)->(∀b o,s.heap.get? b=some o->h'.get? b=some o)->Q (.ref s.heap.objs.size) { s with heap:=h',toks:=tk }) :
 wpAny (model prog w) A (call (.type "dict") [.ref l]) Q E s:=by
 refine callType_codes (Q₁:=λobj s₁=>obj=.ref s.heap.objs.size/\s₁={ s with heap:=s.heap.push { cls:=.type "dict",data:=.dict #[] } }) PySem.F.kt_called_dict (PySem.F.kt_typeCall_dict_1 _) PySem.F.entry_dict_init (kt_code_dict_new _ ⟨rfl,rfl⟩) ?_
 rintro obj s₁ ⟨rfl,rfl⟩
 have hnew:(s.heap.push { cls:=.type "dict",data:=.dict #[] }).DictOfH (TK prog w) s.heap.objs.size []:=⟨_,#[],0,Heap.get?_push_size _ rfl,⟨rfl,rfl,rfl⟩,rfl,rfl,λx hx=>(nomatch hx),List.nodup_nil⟩
 obtain⟨ol,n,hlo,hlc,hld,hldat⟩:=id hl
 have hlo':(s.heap.push { cls:=.type "dict",data:=.dict #[] }).get? l=some _:=Heap.get?_push_of_some _ hlo
 have hT:Shared.TypeIs { s with heap:=s.heap.push { cls:=.type "dict",data:=.dict #[] } } (.ref l) "list":=⟨_,hlo',hlc⟩
 refine⟨hnew.typeIs,PySem.F.args_dict_init_2 _ _,?_⟩
 unfold Builtin.«dict.__init__»
 refine wpAny_bind ?_
 unfold Builtin.Dict.selfAndRest
 refine wpAny_bind (wpAny_notOrdered_dict hnew.typeIs ?_)
 show wpAny _ _ (pure (s.heap.objs.size,[Value.ref l])) _ _ _
 refine wpAny_pure ?_
 show wpAny _ _ (Builtin.Dict.updateFrom "dict.__init__" s.heap.objs.size (.ref l) [] .none) _ _ _
 unfold Builtin.Dict.updateFrom
 refine wpAny_bind (wpAny_typeOf hT ?_)
 rw [if_pos (by decide)]
 refine wpAny_bind (ak0 hlo' hlc hldat hld keys_miss (by decide) (by simpa using hh) λh1 tk1 e1 ne=>?_)
 simp only [Option.isNone_none,if_true]
 refine wpAny_bind (wpAny_rule ?_)
 have hl1:h1.IsList l items:=⟨_,ne.keeps _ _ hlo',hlc,n,hldat⟩
 refine wpAny_bind (wpAny_pyIter_list (s:={ s with heap:=h1,toks:=tk1 }) hl1 ?_)
 have hDlt:s.heap.objs.size<h1.objs.size:=by
  obtain⟨o,_,_,ho,_⟩:=hnew
  exact Heap.lt_size (ne.keeps _ _ ho)
 have hnew1:h1.DictOfH (TK prog w) s.heap.objs.size (foldH (ws.take 0)):=by
  exact X6 hnew (λo ho=>ne.keeps _ _ ho) λx hx=>nomatch hx
 have hlS:l<s.heap.objs.size:=Heap.lt_size hlo
 have hneI:l≠h1.objs.size:=Nat.ne_of_lt (Nat.lt_trans hlS hDlt)
 have WW:=(Walks.list (prog:=prog) (w:=w) (A:=A.in1.in1) (by simpa using hh) h1.objs.size l hneI items).toS
 rw [hsz] at WW
 have hDf:s.heap.objs.size∉[h1.objs.size,l]:=by
  simp only [List.mem_cons,List.mem_singleton,List.not_mem_nil,or_false,not_or]
  exact⟨Nat.ne_of_lt hDlt,Nat.ne_of_gt hlS⟩
 have htlt:∀i,i<ws.length->tp i<s.heap.objs.size:=by
  intro i hi
  obtain⟨_,⟨o,ho,_⟩,_⟩:=hit i hi
  exact Heap.lt_size ho
 have hklt:∀i (hi:i<ws.length),ws[i].2.1<s.heap.objs.size:=by
  intro i hi
  obtain⟨_,_,ot,its,n,h1,h2⟩:=hit i hi
  exact Heap.lt_size h1
 refine wpAny_pure ⟨plainId_quiet f6 _,aM9 WW hDf .none tp (λi v hv=>?_) (λi hi=>⟨Nat.ne_of_lt (htlt i hi),?_⟩) (λi hi=>⟨Nat.ne_of_lt (hklt i hi),?_⟩) hu hz ws.length 0 _ (by omega) (Nat.zero_le _)
  ⟨⟨_,Heap.get?_push_size _ rfl,rfl,rfl⟩,hl1.push _⟩ ?_ (λj hj=>?_) λs' hm hD=>?_⟩
 ·have hi:i<ws.length:=by
   rcases Nat.lt_or_ge i items.size with z | z
   ·rw [←hsz];exact z
   ·rw [Array.getElem?_eq_none z] at hv;cases hv
  have:=(hit i hi).1
  rw [hv] at this
  exact Option.some.inj this
 ·rw [List.mem_singleton]
  exact Nat.ne_of_lt (Nat.lt_trans (htlt i hi) hDlt)
 ·rw [List.mem_singleton]
  exact Nat.ne_of_lt (Nat.lt_trans (hklt i hi) hDlt)
 ·exact X6 hnew1 (λo ho=>Heap.get?_push_of_some _ ho) λx hx=>nomatch hx
 ·obtain⟨_,⟨o,ho,r⟩,h2⟩:=hit j hj
  exact⟨⟨o,Heap.get?_push_of_some _ (ne.keeps _ _ (Heap.get?_push_of_some _ ho)),r⟩,o8 h2 λo ho=>Heap.get?_push_of_some _ (ne.keeps _ _ (Heap.get?_push_of_some _ ho))⟩
 ·obtain⟨h',g',d',tk',os'⟩:=s'
  have eg:g'=s.gens:=hm.gens
  have ed:d'=s.drawn:=hm.drawn
  have eo:os'=s.os:=hm.os
  subst eg;subst ed;subst eo
  refine⟨rfl,h h' tk' hD λb o e=>?_⟩
  have hb:=Heap.lt_size e
  refine hm.heap b o ?_ (Heap.get?_push_of_some _ (ne.keeps _ _ (Heap.get?_push_of_some _ e)))
  simp only [List.mem_cons,List.mem_singleton,List.not_mem_nil,or_false,not_or]
  exact⟨Nat.ne_of_lt hb,Nat.ne_of_lt (Nat.lt_trans hb hDlt)⟩
end
abbrev TripT:=Addr×Addr×List Int×L2.V
def aH3 (H:L2.Hp) (t:TripT):Prop:=H t.1=some (.tup [.ref t.2.1,t.2.2.2])/\H t.2.1=some (.tup ((t.2.2.1.map Sum.inl).map L2.kV))
theorem z6 {ρ:List Addr} {H:L2.Hp}:∀{l:List PV} {xs:List L2.V} {m:List (List Int×PV)},RVs ρ H l xs->t7 l=some m->∃tr:List TripT,xs=tr.map (λt=>L2.V.ref t.1)/\(∀t∈tr,aH3 H t)/\m.map (·.1)=tr.map (·.2.2.1)/\RVs ρ H (m.map (·.2)) (tr.map (·.2.2.2))
 | [],xs,m,r,h=>by
   cases r
   cases h
   exact⟨[],rfl,by simp,rfl,.nil⟩
 | x::l,xs,m,r,h=>by
   cases r with
   | cons hx hr=>
     match x,hx,h with
     | .tup [k,v],hx,h=>
       rcases hk:O1 k with _ | i
       ·simp [t7,hk] at h
       rcases hm:t7 l with _ | m'
       ·simp [t7,hk,hm] at h
       ·simp only [t7,hk,hm,Option.map_some,Option.bind_some,Option.some.injEq] at h
        subst h
        obtain⟨tr,e1,e2,e3,e4⟩:=z6 hr hm
        cases hx with
        | tup ha r1=>
          cases r1 with
          | cons h1 r1=>
            obtain⟨b,rfl,hb⟩:=T8 hk h1
            cases r1 with
            | cons h2 r1=>
              cases r1
              refine⟨(_,b,i,_)::tr,by rw [e1];rfl,λt ht=>?_,by simp [e3],.cons h2 e4⟩
              rcases List.mem_cons.mp ht with z | z
              ·subst z;exact⟨ha,hb⟩
              ·exact e2 t z
def X7 (tr:List TripT) (acc:List (List L2.Key×L2.V)):List (List L2.Key×L2.V):=tr.foldl (λacc t=>L2.U3 acc (t.2.2.1.map Sum.inl) t.2.2.2) acc
theorem aH4 {ρ:List Addr} {H:L2.Hp}:∀(m:List (List Int×PV)) (tr:List TripT) (am:List (List Int×PV)) (ak:List (List L2.Key×L2.V)),m.map (·.1)=tr.map (·.2.2.1)->RVs ρ H (m.map (·.2)) (tr.map (·.2.2.2))->PT2 ρ H am ak->PT2 ρ H (m.foldl (λacc p=>R4 acc p.1 p.2) am) (X7 tr ak)
 | [],[],am,ak,_,_,h=>h
 | [],_::_,_,_,e,_,_=>by simp at e
 | _::_,[],_,_,e,_,_=>by simp at e
 | p::m,t::tr,am,ak,e,r,h=>by
   simp only [List.map_cons,List.cons.injEq] at e
   cases r with
   | cons h1 r1=>
     show PT2 ρ H (m.foldl _ (R4 am p.1 p.2)) (X7 tr (L2.U3 ak (t.2.2.1.map Sum.inl) t.2.2.2))
     rw [←e.1]
     exact aH4 m tr _ _ e.2 r1 (PT2.put h1 p.1 h)
def bl1 (s:Shared) (t:TripT) (q:List L2.Key×Addr×Value):Prop:=q.1=t.2.2.1.map Sum.inl/\q.2.1=t.2.1/\L2.RelV t.2.2.2 q.2.2/\s.heap.IsTuple t.1 #[.ref q.2.1,q.2.2]
section
variable {X:L2.Cx} {cm:Nat->Addr} {pins:List (Addr×Obj)} {σ:L2.St} {H:L2.Hp} {s:Shared}
theorem a88 (I:L2.Inv X pins σ H s):∀(tr:List TripT),(∀t∈tr,aH3 H t)->∃ws:List (List L2.Key×Addr×Value),ws.length=tr.length/\∀j (h1:j<ws.length) (h2:j<tr.length),bl1 s tr[j] ws[j]
 | [],_=>⟨[],rfl,λj h1=>absurd h1 (by simp)⟩
 | t::tr,h=>by
   obtain⟨ws,e1,e2⟩:=a88 I tr λx hx=>h x (List.mem_cons_of_mem _ hx)
   obtain⟨_,its,ri,pi⟩:=I.hok _ _ (h t List.mem_cons_self).1
   obtain⟨u0,u1,rfl,r0,r1⟩:=L2.aQ1 ri
   cases (show u0=Value.ref t.2.1 from r0)
   refine⟨(t.2.2.1.map Sum.inl,t.2.1,u1)::ws,by simp [e1],λj h1 h2=>?_⟩
   cases j with
   | zero=>exact⟨rfl,rfl,r1,pi⟩
   | succ j=>exact e2 j (by simpa using h1) (by simpa using h2)
theorem aH5:∀(tr:List TripT) (ws:List (List L2.Key×Addr×Value)) (ak:List (List L2.Key×L2.V)) (av:List (List L2.Key×Addr×Value)),ws.length=tr.length->(∀j (h1:j<ws.length) (h2:j<tr.length),bl1 s tr[j] ws[j])->(∀t∈tr,aH3 H t)->L2.KT H ak av->L2.KT H (X7 tr ak) (ws.foldl (λacc p=>storedH acc p.1 p.2.1 p.2.2) av)
 | [],[],ak,av,_,_,_,h=>h
 | [],_::_,_,_,e,_,_,_=>by simp at e
 | _::_,[],_,_,e,_,_,_=>by simp at e
 | t::tr,q::ws,ak,av,e,hw,ht,h=>by
   have h0:=hw 0 (by simp) (by simp)
   obtain⟨g1,g2,g3,_⟩:=h0
   simp only [List.getElem_cons_zero] at g1 g2 g3
   show L2.KT H (X7 tr (L2.U3 ak (t.2.2.1.map Sum.inl) t.2.2.2)) (ws.foldl _ (storedH av q.1 q.2.1 q.2.2))
   refine aH5 tr ws _ _ (by simpa using e) (λj h1 h2=>by have:=hw (j+1) (by simpa using h1) (by simpa using h2);simpa using this) (λx hx=>ht x (List.mem_cons_of_mem _ hx)) ?_
   rw [g1,g2]
   exact h.put _ (ht t List.mem_cons_self).2 g3
theorem an0 {e:Expr} {d:ED} {p q:Pos} (hcalm:X.calm=true) (hu:X.A.units+64<cLine) (he:L2.PE X e (EvE X.K cm d)) (hg:L2.Gl X "dict") (hm:X.mg "dict" = none)
 (hs:starEach [e] X.env=(false,eval e X.env)::starEach [] X.env:=by exact G0 rfl) :
 L2.PE X (.Call (.Name "dict" p) [e] [] q) (EvE X.K cm (n0 d)):=by
 intro pins s σ H Q I h
 obtain⟨ρ,A,σp,v,A',rl,rs,ev,k⟩:=h
 obtain⟨x,A1,e1,ev1⟩:=B0 ev
 refine Call_ (L2.Q1 I hg hm (show bootBuiltins "dict" = some (.type "dict") from by rfl) (callWith_type1 (X5 hs ?_) hs rfl))
 refine L2.thn (he pins s σ H (λv H1=>∃(a:Addr) (tr:List TripT),v=.ref a/\L2.SqL X.K H1 a (tr.map λt=>L2.V.ref t.1)/\(∀t∈tr,aH3 H1 t)/\tr.length<=sizeLine/\∀l,H1 l=none->Q (.ref l) (L2.upd H1 l (.dT (X7 tr [])))) I ⟨ρ,A,σp,x,A1,rl,rs,e1,λρ1 H1 v1 x1 rl1 rv1=>?_⟩) λu s1 ⟨w1,H1,I1,r1,a,tr,ew,hq,htr,hz,qq⟩=>?_
 ·cases x with
  | ref n=>
    obtain⟨l,A2,e2,ev2⟩:=B0 ev1
    obtain⟨rfl,hA,a,xs,rfl,hn,hH,r0⟩:=R5 rl1 rv1 e2
    cases hi:t7 l with
    | none=>rw [hi] at ev2;cases ev2
    | some m=>
      rw [hi] at ev2
      obtain⟨c,ev3⟩:=C7 ev2
      cases ev3
      obtain⟨tr,f1,f2,f3,f4⟩:=z6 r0 hi
      have hl:tr.length=m.length:=by
       have:=congrArg List.length f3
       simpa using this.symm
      refine⟨a,tr,rfl,by rw [←f1];exact L2.SqL.of hH,f2,by rw [hl];exact Nat.le_of_lt (aq9 c),λD hD=>?_⟩
      have ex:Ext ρ1 H1 (ρ1++[D]) (L2.upd H1 D (.dT (X7 tr []))):=Ext.new hD
      refine k (ρ1++[D]) _ _ (x1.trans ex) (rl1.alloc hD ⟨_,L2.D2,?_⟩ rfl) (.ref (by rw [←rl1.len];simp))
      exact aH4 m tr [] [] f3 (f4.mono ex) ⟨rfl,.nil⟩
  | _=>cases ev1
 ·subst ew
  obtain rfl:u=Value.ref a:=r1
  obtain⟨its,ri,pl,_⟩:=I1.list hq
  obtain⟨ws,w1',w2⟩:=a88 I1 tr htr
  have hlen:its.length=tr.length:=by rw [←ri.length];simp
  refine v9 (ws:=ws) (I1.ok.hd hcalm) (tupleKind_room_in1 (M5 X.A 1 (by omega))) pl (λj=>(tr.getD j (0,0,[],.non)).1) (by rw [List.size_toArray,hlen,w1']) (by rw [w1'];exact hz) (λj hj=>?_) λh' tk dd hk=>?_
  ·have hj2:j<tr.length:=by rw [←w1'];exact hj
   have e0:tr.getD j (0,0,[],.non)=tr[j]:=by simp [hj2]
   rw [e0]
   obtain⟨g1,g2,g3,g4⟩:=w2 j hj hj2
   refine⟨?_,g4,?_⟩
   ·obtain⟨u,hu,ru⟩:=ri.get (i:=j) (x:=.ref tr[j].1) (by rw [List.getElem?_map,List.getElem?_eq_getElem hj2];rfl)
    cases (show u=Value.ref tr[j].1 from ru)
    simpa using hu
   ·rw [g1,g2]
    exact L2.Z0 I1.hok (htr _ (List.getElem_mem hj2)).2
  ·have rel:L2.KT H1 (X7 tr []) (foldH ws):=aH5 (s:=s1) tr ws [] [] w1' w2 htr .nil
   have hz2:(X7 tr []).length<=sizeLine:=by
    rw [Paired.length rel]
    exact Nat.le_trans (am9 ws) (by rw [w1'];exact hz)
   obtain⟨qo,es,ep,hq',h2,h3,h4,_,h5⟩:=dd
   refine⟨.ref s1.heap.objs.size,_,I1.laid (t':=tk) (a:=s1.heap.objs.size) (o:=.dT (X7 tr [])) (λb o e2=>hk b o e2) (Nat.le_refl _) ⟨hz2,beq_eq_false_iff_ne.mpr (Ne.symm (Nat.ne_of_lt I1.big)),_,L2.KT.keeps rel (λc ys ec=>?_),qo,es,ep,hq',h2,h3,h4,h5⟩,rfl,qq _ (I1.hok.fresh (Nat.le_refl _))⟩
   rw [L2.D4 (λz=>by rw [z,I1.hok.fresh (Nat.le_refl _)] at ec;cases ec)]
   exact ec
end
end Ws
namespace Ws
open PySem PySem.W PyProof.Rows PySem.Calls
end Ws
namespace Ws
open PySem PySem.W PyProof.Rows PySem.Spec PySem.Calls
theorem bl2 {x:Int} (h:0<=x/\x<=5):hashInt x=x:=by
 have:x=0\/x=1\/x=2\/x=3\/x=4\/x=5:=by omega
 rcases this with rfl | rfl | rfl | rfl | rfl | rfl <;> decide +kernel
def an1 (led:Bool) (M:List Int) (x:Int):Bool:=
 match (I9 led M).freeSlot x with
 | some (slot,false)=>
   ((I9 led M).put slot).2 == Z9 M x&&((I9 led M).put slot).1.fits (M.length+1)&&((I9 led M).put slot).1.plain&&
     (if ((I9 led M).put slot).1.tooFull then (match ((I9 led M).put slot).1.relaid (T2 M x).toArray (SetTable.grown (M.length+1)) with
      | some (t2,order)=>M.length == 4&&decide (order=#[0,1,2,3,4])&&t2.fits 5&&decide (t2=I9 led (T2 M x))
      | none=>false)
     else decide (((I9 led M).put slot).1=I9 led (T2 M x)))
 | _=>false
theorem a54:sixes.all (λM=>([0,1,2,3,4,5]:List Int).all λx=>decide (x∈M)||(an1 true M x&&an1 false M x&&decide (T2 M x∈sixes)))=true:=by decide +kernel
theorem in5 {x:Int} (h:0<=x/\x<=5):x∈([0,1,2,3,4,5]:List Int):=by
 have:x=0\/x=1\/x=2\/x=3\/x=4\/x=5:=by omega
 simp;omega
theorem ax2 {M:List Int} {x:Int} (hn:M∈sixes) (hx:0<=x/\x<=5) (hxM:x∉M):(an1 true M x=true/\an1 false M x=true)/\T2 M x∈sixes:=by
 have:=List.all_eq_true.mp (List.all_eq_true.mp a54 M hn) x (in5 hx)
 simp only [hxM,decide_false,Bool.false_or,Bool.and_eq_true,decide_eq_true_eq] at this
 exact this
theorem bf6 {M:List Int} {x:Int} (hn:M∈sixes) (hx:0<=x/\x<=5) (hxM:x∉M) (led:Bool):an1 led M x=true:=by
 have:=(ax2 hn hx hxM).1
 cases led
 ·exact this.2
 ·exact this.1
theorem bf7 {M:List Int} {x:Int}:Z9 M x<=M.length:=by
 unfold Z9;exact (List.takeWhile_prefix _).length_le
theorem ag2 {α:Type} {es:Array α} {p:Nat} {y:α} (h:p<=es.size):(SetTable.insertAt es p y).size=es.size+1:=by
 unfold SetTable.insertAt
 simp;omega
theorem ag3:∀{vs:List Value} {ns:List Int} {us:List Value} {ms:List Int},IntsAre vs ns->IntsAre us ms->IntsAre (vs++us) (ns++ms)
 | _,_,_,_,.nil,h=>h
 | _,_,_,_,.cons n t h,h'=>.cons n t (ag3 h h')
theorem an3:∀{vs:List Value} {ns:List Int} (k:Nat),IntsAre vs ns->IntsAre (vs.take k) (ns.take k)
 | _,_,0,_=>.nil
 | _,_,k+1,.nil=>.nil
 | _,_,k+1,.cons n t h=>.cons n t (an3 k h)
theorem an4:∀{vs:List Value} {ns:List Int} (k:Nat),IntsAre vs ns->IntsAre (vs.drop k) (ns.drop k)
 | _,_,0,h=>h
 | _,_,k+1,.nil=>.nil
 | _,_,k+1,.cons n t h=>an4 k h
theorem aH6 (M:List Int) (x:Int):T2 M x=M.take (Z9 M x)++([x]++M.drop (Z9 M x)):=by
 unfold T2 Z9
 have e:=List.takeWhile_append_dropWhile (p:=λy:Int=>decide (y<x)) (l:=M)
 generalize M.takeWhile (λy=>decide (y<x))=T at e ⊢
 generalize M.dropWhile (λy=>decide (y<x))=D at e ⊢
 subst e
 simp
theorem ax3 {α:Type} {es:Array α} {p:Nat} {y:α}:(SetTable.insertAt es p y).toList=es.toList.take p++([y]++es.toList.drop p):=by
 unfold SetTable.insertAt
 simp
 exact List.take_of_length_le (by simp)
theorem EsOf.ins {es:Array (Int×Value)} {M:List Int} (h:EsOf es M) (x:Int) (t:Nat):EsOf (SetTable.insertAt es (Z9 M x) (x,.int x t)) (T2 M x):=by
 refine⟨?_,?_⟩
 ·rw [ax3,aH6,List.map_append,List.map_append,List.map_take,List.map_drop,h.hs];rfl
 ·rw [ax3,aH6,List.map_append,List.map_append,List.map_take,List.map_drop]
  exact ag3 (an3 _ h.vs) (ag3 (.cons x t .nil) (an4 _ h.vs))
section
variable {prog:Program} {w:World} {A:Around} {E:Value->Shared->Prop} {s:Shared}
theorem a55 {a:Addr} {es:Array (Int×Value)} {ep:Nat} {M:List Int} {x:Int} {led:Bool} {tok:Nat} {Q:Bool->Shared->Prop} (hn:M∈sixes) (hx5:0<=x/\x<=5) (hxM:x∉M)
 (ho:s.heap.get? a=some (S7 es ep (I9 led M))) (he:EsOf es M)
 (h:∀es' ep' h',Heap.SameBut a s.heap h'->h'.get? a=some (S7 es' ep' (I9 led (T2 M x)))->EsOf es' (T2 M x)->Q true { s with heap:=h' }) :
 wpAny (model prog w) A (setAddHashed a (.int x tok) ((intKind prog w).hash x)) Q E s:=by
 obtain⟨hH,hL6,hlt⟩:=o5 hn
 have hhx:(intKind prog w).hash x=x:=bl2 hx5
 have hsz:es.size=M.length:=he.size
 have hE:=aC5 hn (Nat.le_refl _) led
 rw [List.take_length] at hE
 have hS:=bf6 hn hx5 hxM led
 have hf:(I9 led M).fits es.size=true:=by
  unfold am6 at hE
  simp only [Bool.and_eq_true] at hE
  rw [hsz]
  exact hE.1.1.1.1
 have hel:ElemsOf (intKind prog w) es.toList:=he.elems λx hx=>hH x hx
 have hb:es.size<scanBound:=by unfold scanBound;omega
 have habs:es.toList.findIdx? (λe=>(intKind prog w).is x e.2)=none:=by
  rw [List.findIdx?_eq_none_iff]
  intro e hem
  obtain⟨h1,t,h2⟩:=he.ent hem
  cases hc:(intKind prog w).is x e.2 with
  | false=>rfl
  | true=>
    exfalso
    rw [h2] at hc
    have e1:x=e.1:=by
     have hc':Value.isInt x (.int e.1 t)=true:=hc
     obtain⟨t',e1⟩:=Value.isInt_shape hc'
     injection e1 with e1
     exact e1.symm
    rw [←e1] at h1
    exact hxM h1
 have hle:Z9 M x<=es.size:=by rw [hsz];exact bf7
 generalize ht0:I9 led M=t at *
 unfold an1 at hS
 rw [ht0] at hS
 split at hS
 ·rename_i slot hfs
  simp only [Bool.and_eq_true,beq_iff_eq] at hS
  obtain⟨⟨⟨h2,h3⟩,h4⟩,h5⟩:=hS
  have hL:layNew t es x (.int x tok)=((SetTable.insertAt es (Z9 M x) (x,.int x tok)),(t.put slot).1,false,false):=by
   have e0:layNew t es x (.int x tok)=(SetTable.insertAt es (t.put slot).2 (x,.int x tok),(t.put slot).1.orStandIn (SetTable.insertAt es (t.put slot).2 (x,.int x tok)).size,false,!(t.put slot).1.fits (SetTable.insertAt es (t.put slot).2 (x,.int x tok)).size):=by
    unfold layNew
    rw [hfs]
   rw [e0,h2,ag2 hle,hsz]
   unfold SetTable.orStandIn
   rw [h3];rfl
  have hnew:EsOf (SetTable.insertAt es (Z9 M x) (x,.int x tok)) (T2 M x):=he.ins x tok
  unfold setAddHashed setAddHashedIn
  refine wpAny_holding (wpAny_bind (wpAny_setState_of ho rfl hf ?_))
  dsimp only
  rw [byScan_of (knd:=intKind prog w) rfl hb hel]
  simp only [↓reduceIte]
  unfold setAddByScan
  refine wpAny_bind ?_
  refine wpAny_bind (wpAny_rule ?_)
  refine wpAny_bind (wpAny_setScan_of (knd:=intKind prog w) (k:=x) (intKind_is _ _ _ _) ho rfl hf hel ?_)
  rw [habs,hhx,hL]
  dsimp only
  refine wpAny_bind (wpAny_pure ?_)
  rw [if_pos h4]
  refine wpAny_bind ?_
  rw [hashByValue_scannable 8 rfl]
  refine wpAny_pure ?_
  simp only [show plainKind (Value.int x tok)=true from rfl,if_true]
  refine wpAny_bind (wpAny_storeSet_of ho rfl ?_ (by rw [ag2 hle,hsz,sizeLine_eq];omega))
  have ho1:=Heap.get?_update_self (Obj.putSet (SetTable.insertAt es (Z9 M x) (x,.int x tok)) (t.put slot).1) ho rfl
  have hsb1:=Heap.SameBut.update s.heap a (Obj.putSet (SetTable.insertAt es (Z9 M x) (x,.int x tok)) (t.put slot).1)
  cases hfull:(t.put slot).1.tooFull with
  | false=>
    rw [hfull] at h5
    simp only [Bool.false_eq_true,if_false,decide_eq_true_eq] at h5
    simp only [Bool.not_false,Bool.true_and,Bool.false_eq_true,if_false]
    refine wpAny_pure ?_
    refine wpAny_pure ?_
    refine h _ (ep+1) _ hsb1 ?_ hnew
    rw [←h5];exact ho1
  | true=>
    rw [hfull] at h5
    simp only [if_true] at h5
    split at h5
    ·rename_i t2 order hrl
     simp only [Bool.and_eq_true,beq_iff_eq,decide_eq_true_eq] at h5
     obtain⟨⟨⟨h6,h7⟩,h8⟩,h9⟩:=h5
     have hm:(SetTable.insertAt es (Z9 M x) (x,Value.int x tok)).map (·.1)=(T2 M x).toArray:=by
      apply Array.toList_inj.mp
      rw [Array.toList_map,hnew.hs]
     have hsz1:(SetTable.insertAt es (Z9 M x) (x,Value.int x tok)).size=M.length+1:=by rw [ag2 hle,hsz]
     have hR:relayAll (t.put slot).1 (SetTable.insertAt es (Z9 M x) (x,Value.int x tok)) (SetTable.grown (SetTable.insertAt es (Z9 M x) (x,Value.int x tok)).size)=((SetTable.insertAt es (Z9 M x) (x,Value.int x tok)),t2,false):=by
      unfold relayAll
      rw [hm,hsz1,hrl]
      dsimp only
      rw [h7,aC6 (by rw [hsz1,h6])]
      rw [if_pos (by
       rw [Bool.and_eq_true]
       refine⟨?_,?_⟩
       ·rw [h6];decide +kernel
       ·rw [hsz1,h6];exact h8)]
     simp only [Bool.not_false,Bool.true_and,if_true]
     rw [hR]
     refine wpAny_bind (wpAny_pure ?_)
     refine wpAny_bind (wpAny_storeSet_of ho1 rfl ?_ (by rw [hsz1,sizeLine_eq];omega))
     refine wpAny_pure ?_
     refine wpAny_pure ?_
     refine h _ (ep+1+1) _ (hsb1.trans (Heap.SameBut.update _ a _)) ?_ hnew
     rw [←h9];exact Heap.get?_update_self _ ho1 rfl
    ·cases h5
 ·cases hS
theorem a56 {a:Addr} {es:Array (Int×Value)} {ep:Nat} {M:List Int} {x:Int} {led:Bool} {tok:Nat} {Q:Bool->Shared->Prop} (hn:M∈sixes) (hx5:0<=x/\x<=5) (hxM:x∈M)
 (ho:s.heap.get? a=some (S7 es ep (I9 led M))) (he:EsOf es M) (h:Q false s) :
 wpAny (model prog w) A (setAddHashed a (.int x tok) ((intKind prog w).hash x)) Q E s:=by
 obtain⟨hH,hL6,hlt⟩:=o5 hn
 have hsz:es.size=M.length:=he.size
 have hE:=aC5 hn (Nat.le_refl _) led
 rw [List.take_length] at hE
 have hf:(I9 led M).fits es.size=true:=by
  unfold am6 at hE
  simp only [Bool.and_eq_true] at hE
  rw [hsz]
  exact hE.1.1.1.1
 have hel:ElemsOf (intKind prog w) es.toList:=he.elems λx hx=>hH x hx
 have hb:es.size<scanBound:=by unfold scanBound;omega
 obtain⟨i,hi⟩:∃i,es.toList.findIdx? (λe=>(intKind prog w).is x e.2)=some i:=by
  cases hc:es.toList.findIdx? (λe=>(intKind prog w).is x e.2) with
  | some i=>exact⟨i,rfl⟩
  | none=>
    exfalso
    rw [List.findIdx?_eq_none_iff] at hc
    rw [←he.hs] at hxM
    obtain⟨e,hem,rfl⟩:=List.mem_map.mp hxM
    obtain⟨h1,t,h2⟩:=he.ent hem
    have:=hc e hem
    rw [h2] at this
    rw [intKind_is] at this
    cases this
 unfold setAddHashed setAddHashedIn
 refine wpAny_holding (wpAny_bind (wpAny_setState_of ho rfl hf ?_))
 dsimp only
 rw [byScan_of (knd:=intKind prog w) rfl hb hel]
 simp only [↓reduceIte]
 unfold setAddByScan
 refine wpAny_bind ?_
 refine wpAny_bind (wpAny_rule ?_)
 refine wpAny_bind (wpAny_setScan_of (knd:=intKind prog w) (k:=x) (intKind_is _ _ _ _) ho rfl hf hel ?_)
 rw [hi]
 dsimp only
 refine wpAny_pure ?_
 exact wpAny_pure h
theorem aV8 {M:List Int} {x:Int} (hn:M∈sixes) (hx:0<=x/\x<=5):t8 M x∈sixes:=by
 unfold t8
 by_cases h:x∈M
 ·rw [if_pos h];exact hn
 ·rw [if_neg h];exact (ax2 hn hx h).2
theorem ax4 {l:List Int} (h:∀x∈l,0<=x/\x<=5):setL l∈sixes:=by
 have key:∀(l:List Int) (M:List Int),M∈sixes->(∀x∈l,0<=x/\x<=5)->l.foldl t8 M∈sixes:=by
  intro l
  induction l with
  | nil=>intro M h _;exact h
  | cons a r ih=>intro M h h';exact ih _ (aV8 h (h' a List.mem_cons_self)) λx hx=>h' x (List.mem_cons_of_mem _ hx)
 exact key l [] (by decide) h
theorem aN0 (l:List Int) (x:Int):setL (l++[x])=t8 (setL l) x:=by
 unfold setL;rw [List.foldl_append];rfl
end
section
variable {prog:Program} {w:World} {A:Around} {R:Result->Shared->Prop} {E:Value->Shared->Prop} {s:Shared}
theorem aV9 {I:Addr} {fp wr:List Addr} {G:Array GenState->Array GenState->Prop} {P:Nat->Value->Prop} {St:Nat->Shared->Prop} {ns:List Int} {led:Bool} (hn:∀x∈ns,0<=x/\x<=5)
 (W:WalksS prog w A.in1 I fp wr G ns.length P St) (S:Addr) (hSf:S∉fp) (hval:∀i v,P i v->∃t,v=.int (ns.getD i 0) t) :
 ∀(k i:Nat) (s:Shared) (es:Array (Int×Value)) (ep:Nat),ns.length - i=k->i<=ns.length->St i s->
  s.heap.get? S=some (S7 es ep (I9 led (setL (ns.take i))))->EsOf es (setL (ns.take i))->
  (∀s' es' ep',Moved (S::wr) G s s'->s'.heap.get? S=some (S7 es' ep' (I9 led (setL ns)))->EsOf es' (setL ns)->R (.ok (.ret .none)) s')->
  codeAny (model prog w) A (.builtin "set.update.loop" ⟨[.ref S,.ref I],[]⟩) R s:=by
 have hSw:S∉wr:=λh=>hSf (W.sub _ h)
 have hsub:∀b∈wr,b∈S::wr:=λb hb=>List.mem_cons_of_mem _ hb
 intro k
 induction k with
 | zero=>
   intro i s es ep hk hi hst hS he hR
   have hin:i=ns.length:=by omega
   subst hin
   rw [List.take_length] at hS he
   refine codeAny_builtin F.entry_set_update_loop ?_
   rw [Around.under_plainId F.plain_set_update_loop _]
   show wpAny _ A.in1 (pyNext (.ref I)>>=_) _ _ s
   refine wpAny_bind (W.done s _ _ hst λs' hm=>?_)
   show wpAny _ A.in1 (PySem.ret Value.none) _ _ s'
   exact wpAny_pure (hR s' es ep (hm.mono hsub) (hm.heap S _ hSw hS) he)
 | succ k ih=>
   intro i s es ep hk hi hst hS he hR
   have hlt:i<ns.length:=by omega
   refine codeAny_builtin F.entry_set_update_loop ?_
   rw [Around.under_plainId F.plain_set_update_loop _]
   show wpAny _ A.in1 (pyNext (.ref I)>>=_) _ _ s
   refine wpAny_bind (W.item i s _ _ hlt hst λv s' hP hst' hm=>?_)
   obtain⟨t,rfl⟩:=hval i v hP
   have hS':=hm.heap S _ hSw hS
   show wpAny _ A.in1 (holding [Value.int (ns.getD i 0) t] (setAdd S (.int (ns.getD i 0) t))>>=_) _ _ s'
   refine wpAny_bind (wpAny_holding ?_)
   unfold setAdd
   refine wpAny_holding ?_
   refine wpAny_bind ((intKind prog w).pyHash (k:=ns.getD i 0) (intKind_is _ _ _ _) ?_)
   have hxi:ns.getD i 0=ns[i]:=by simp [hlt]
   have hx5:0<=ns.getD i 0/\ns.getD i 0<=5:=by rw [hxi];exact hn _ (List.getElem_mem hlt)
   have htk:setL (ns.take (i+1))=t8 (setL (ns.take i)) (ns.getD i 0):=by
    rw [List.take_succ,List.getElem?_eq_getElem hlt,hxi];exact aN0 _ _
   have hM:setL (ns.take i)∈sixes:=ax4 λx hx=>hn x (List.mem_of_mem_take hx)
   by_cases hin:ns.getD i 0∈setL (ns.take i)
   ·refine a56 (s:={ s' with toks:=s'.toks+1 }) hM hx5 hin hS' he ?_
    have htk2:setL (ns.take (i+1))=setL (ns.take i):=by rw [htk];unfold t8;rw [if_pos hin]
    refine wpAny_pure ⟨plainId_quiet F.plain_set_update_loop _,ih (i+1) _ es ep (by omega) hlt (W.frame _ s' _ _ hst' (Nat.le_succ _) λb hb o e=>e) (by rw [htk2];exact hS') (by rw [htk2];exact he) λs'' es'' ep'' hm'' hS'' he''=>?_⟩
    exact hR s'' es'' ep'' (Moved.trans W.gtrans ((hm.mono hsub).then_heap (Nat.le_succ _) λb o hb e=>e) hm'') hS'' he''
   ·refine a55 (s:={ s' with toks:=s'.toks+1 }) hM hx5 hin hS' he λes' ep' h' hsb hS2 he2=>?_
    have htk2:setL (ns.take (i+1))=T2 (setL (ns.take i)) (ns.getD i 0):=by rw [htk];unfold t8;rw [if_neg hin]
    refine wpAny_pure ⟨plainId_quiet F.plain_set_update_loop _,ih (i+1) _ es' ep' (by omega) hlt (W.frame _ s' _ _ hst' (Nat.le_succ _) λb hb o e=>?_) (by rw [htk2];exact hS2) (by rw [htk2];exact he2) λs'' es'' ep'' hm'' hS'' he''=>?_⟩
    ·rw [hsb.2 b (λh:b=S=>hSf (by rw [←h];exact hb))];exact e
    ·refine hR s'' es'' ep'' (Moved.trans W.gtrans ((hm.mono hsub).then_heap (Nat.le_succ _) λb o hb e=>?_) hm'') hS'' he''
     rw [hsb.2 b (λh:b=S=>hb (by rw [h];exact List.mem_cons_self))];exact e
set_option maxHeartbeats 3200000 in
theorem as3 {l:Addr} {items:Array Value} {ns:List Int} {Q:Value->Shared->Prop} (hn:∀x∈ns,0<=x/\x<=5)
 (hh:A.handled=none) (hl:s.heap.IsList l items) (hi:IntsAre items.toList ns)
 (h:∀(h':Heap) (tk:Nat) (es:Array (Int×Value)) (ep:Nat),h'.get? s.heap.objs.size=some (S7 es ep (I9 (!w.params.followText "set-order") (setL ns)))->EsOf es (setL ns)->
  (∀b o,b<s.heap.objs.size->s.heap.get? b=some o->h'.get? b=some o)->Q (.ref s.heap.objs.size) { s with heap:=h',toks:=tk }) :
 wpAny (model prog w) A (call (.type "set") [.ref l]) Q E s:=by
 have hlen:items.size=ns.length:=by have:=hi.length;rwa [Array.length_toList] at this
 obtain⟨c,tl,hmro⟩:=PySem.F.called_set.mro
 have hmade:=PySem.F.called_set.made
 have hsub:=PySem.F.called_set.sub
 refine wpAny_call (codeAny_of_tree ?_)
 show wpAny _ _ (callAny (.type "set") _) _ _ _
 refine wpAny_pure ⟨Code.quiet_builtin _ (by decide +kernel),codeAny_builtin PySem.F.entry_type_call ?_⟩
 rw [Around.under_plain (weight_type_call_type "set" [.ref l] []) rfl]
 have h1:=PySem.F.called_set.notType
 have h2:=PySem.F.called_set.canCreate
 have hct:=PySem.F.typeCall_set_1 (.ref l)
 repeat (any_goals (first | assumption | wp_step))
 generalize hled:(!w.params.followText "set-order")=led at *
 refine codeAny_mono (a42 (.ref l) (E:=E) (Q₁:=λobj s₁=>obj=.ref s.heap.objs.size/\s₁={ s with heap:=s.heap.push (S7 #[] 0 (.fresh 0 0 led)) }) (by rw [hled];exact⟨rfl,rfl⟩)) λr s₁ hr=>?_
 cases r with
 | error e=>exact hr
 | ok fl=>
   cases fl with
   | ret obj=>
     obtain⟨rfl,rfl⟩:=hr
     have hS:(s.heap.push (S7 #[] 0 (.fresh 0 0 led))).get? s.heap.objs.size=some (S7 #[] 0 (.fresh 0 0 led)):=Heap.get?_push_size _ rfl
     have hT:Shared.TypeIs { s with heap:=s.heap.push (S7 #[] 0 (.fresh 0 0 led)) } (.ref s.heap.objs.size) "set":=⟨_,hS,rfl⟩
     have hli:=PySem.F.called_set.init.lookup
     have hbi:=PySem.F.called_set.init.bind (.ref s.heap.objs.size)
     repeat (any_goals (first | assumption | wp_step))
     refine codeAny_mono (codeAny_call_builtin (R:=wants (λr s₂=>r=.none/\∃h' tk es ep,s₂={ s with heap:=h',toks:=tk }/\
      h'.get? s.heap.objs.size=some (S7 es ep (I9 led (setL ns)))/\EsOf es (setL ns)/\
      (∀b o,b<s.heap.objs.size->s.heap.get? b=some o->h'.get? b=some o)) E) PySem.F.called_set.init.plain PySem.F.entry_set_init (check_set_init_1 hT ?_)) λr₂ s₂ hr₂=>?_
     ·obtain⟨ol,hol,hcl,nl,hdl⟩:=hl
      obtain⟨ocls,odict,odata,oslots⟩:=ol
      simp only at hcl hdl
      subst hcl;subst hdl
      have hol':(s.heap.push (S7 #[] 0 (.fresh 0 0 led))).get? l=some { cls:=.type "list",dict:=odict,data:=.seq items nl,slots:=oslots }:=Heap.get?_push_of_some _ hol
      have hsls:=PySem.F.sub_list_set
      have hslf:=PySem.F.sub_list_frozenset
      have hne:(Value.type "list" == Value.type "dict")=false:=by decide
      have hl1:(s.heap.push (S7 #[] 0 (.fresh 0 0 led))).IsList l items:=⟨_,hol',rfl,nl,rfl⟩
      unfold Builtin.«set.__init__» noKeywords Builtin.Frozenset.updateFrom
      generalize hPI:pyIter=PI
      wp_walk
      subst hPI
      refine wpAny_pyIter_list hl1 ?_
      refine wpAny_bind (wpAny_runValue ?_)
      have hlS:l<s.heap.objs.size:=Heap.lt_size hol
      have hh3:A.in1.in1.in1.handled=none:=by simp [hh]
      have hneI:l≠(s.heap.push (S7 #[] 0 (.fresh 0 0 led))).objs.size:=by
       rw [Heap.size_push];exact Nat.ne_of_lt (Nat.lt_succ_of_lt hlS)
      have hSf:s.heap.objs.size∉[(s.heap.push (S7 #[] 0 (.fresh 0 0 led))).objs.size,l]:=by
       rw [Heap.size_push];simp only [List.mem_cons,List.mem_singleton,List.not_mem_nil,or_false,not_or]
       exact⟨Nat.ne_of_lt (Nat.lt_succ_self _),Nat.ne_of_gt hlS⟩
      have hval:∀(i:Nat) (v:Value),items[i]?=some v->∃t,v=.int (ns.getD i 0) t:=λi v hv=>
       IntsAre.int_at hi i v (by rw [Array.getElem?_toList];exact hv)
      have WW:=(Walks.list (prog:=prog) (w:=w) hh3 (s.heap.push (S7 #[] 0 (.fresh 0 0 led))).objs.size l hneI items).toS
      rw [hlen] at WW
      refine aV9 (led:=led) hn WW s.heap.objs.size
       hSf hval (ns.length - 0) 0 _ #[] 0 (by omega) (Nat.zero_le _)
       ⟨⟨_,Heap.get?_push_size _ rfl,rfl,rfl⟩,(hl1.push _)⟩ (Heap.get?_push_of_some _ hS) ⟨rfl,.nil⟩ ?hR
      case hR=>
       intro s' es' ep' hm hS' he'
       obtain⟨h',g',d',tk',os'⟩:=s'
       have eg:g'=s.gens:=hm.gens
       have ed:d'=s.drawn:=hm.drawn
       have eo:os'=s.os:=hm.os
       subst eg;subst ed;subst eo
       show wpAny _ _ _ _ _ _
       refine wpAny_pure ?_
       show wpAny _ _ (PySem.ret Value.none) _ _ _
       refine wpAny_pure ⟨rfl,h',tk',es',ep',rfl,hS',he',λb o hb e=>?_⟩
       have hb1:b≠s.heap.objs.size:=Nat.ne_of_lt hb
       have hb2:b≠(s.heap.push (S7 #[] 0 (.fresh 0 0 led))).objs.size:=by
        rw [Heap.size_push];exact Nat.ne_of_lt (Nat.lt_succ_of_lt hb)
       exact hm.heap b o (by simp only [List.mem_cons,List.mem_singleton,List.not_mem_nil,or_false,not_or];exact⟨hb1,hb2⟩) (Heap.get?_push_of_some _ (Heap.get?_push_of_some _ e))
     ·cases r₂ with
      | error e=>exact hr₂
      | ok fl₂=>
        cases fl₂ with
        | ret r=>
          obtain⟨rfl,h',tk,es,ep,rfl,hS',he',hk'⟩:=hr₂
          repeat (any_goals (first | assumption | wp_step))
          exact h _ _ _ _ hS' he' hk'
        | _=>exact hr₂.elim
   | _=>exact hr.elim
end
section
variable {X:L2.Cx} {cm:Nat->Addr}
theorem aD2 {e:Expr} {d:ED} {p1 p2 q1 q2:Pos} (hcalm:X.calm=true) (he:L2.PE X e (EvE X.K cm d)) (hg1:L2.Gl X "sorted") (hm1:X.mg "sorted" = none) (hg2:L2.Gl X "set") (hm2:X.mg "set" = none)
 (hs2:starEach [e] X.env=(false,eval e X.env)::starEach [] X.env:=by exact G0 rfl)
 (hs1:starEach [.Call (.Name "set" p2) [e] [] q2] X.env=(false,eval (.Call (.Name "set" p2) [e] [] q2) X.env)::starEach [] X.env:=by rfl) :
 L2.PE X (.Call (.Name "sorted" p1) [.Call (.Name "set" p2) [e] [] q2] [] q1) (EvE X.K cm (t9 d)):=by
 intro pins s σ H Q I h
 obtain⟨ρ,A,σp,v,A',rl,rs,ev,k⟩:=h
 obtain⟨x,A1,e1,ev1⟩:=B0 ev
 refine Call_ (L2.Q1 I hg1 hm1 PyProof.Rows.boot_sorted (callWith_builtin1 (X5 hs1 ?_) hs1 rfl))
 refine Call_ (L2.Q1 I hg2 hm2 (show bootBuiltins "set" = some (.type "set") from by rfl) (callWith_type1 (X5 hs2 ?_) hs2 rfl))
 refine L2.thn (he pins s σ H (λv H1=>∃(a:Addr) (ns:List Int),v=.ref a/\L2.SqL X.K H1 a (ns.map L2.V.int)/\(∀x∈ns,0<=x/\x<=5)/\∀l,H1 l=none->Q (.ref l) (L2.upd H1 l (.lst ((setL ns).map L2.V.int)))) I ⟨ρ,A,σp,x,A1,rl,rs,e1,λρ1 H1 v1 x1 rl1 rv1=>?_⟩) λu s1 ⟨w1,H1,I1,r1,a,ns,ew,hq,hsix,q⟩=>?_
 ·cases x with
  | ref n=>
    obtain⟨l,A2,e2,ev2⟩:=B0 ev1
    obtain⟨rfl,hA,a,xs,rfl,hn,hH,r0⟩:=R5 rl1 rv1 e2
    cases hi:L6 l with
    | none=>rw [hi] at ev2;cases ev2
    | some ns=>
      rw [hi] at ev2
      obtain⟨c,ev3⟩:=C7 ev2
      cases ev3
      rw [Q6 hi] at r0
      refine⟨a,ns,rfl,by rw [←o4 r0];exact L2.SqL.of hH,c,λD hD=>?_⟩
      have ex:Ext ρ1 H1 (ρ1++[D]) (L2.upd H1 D (.lst ((setL ns).map L2.V.int))):=Ext.new hD
      exact k (ρ1++[D]) _ _ (x1.trans ex) (rl1.alloc hD ⟨_,L2.D2,RVs.ints _⟩ rfl) (.ref (by rw [←rl1.len];simp))
  | _=>cases ev1
 ·subst ew
  obtain rfl:u=Value.ref a:=r1
  obtain⟨its,ri,pl,hz⟩:=I1.list hq
  have hi:IntsAre its ns:=L2.S8 ri
  have hsx:=ax4 hsix
  have h6:=(o5 hsx).2.1
  refine as3 hsix (I1.ok.hd hcalm) pl.isList (by simpa using hi) λh' tk es ep hS hes hold=>?_
  have I2:=I1.kept (h':=h') (t':=tk) (λb ob e=>hold b ob (Heap.lt_size e) e)
  refine Calls.call_function_entry kind_sorted plain_sorted entry_sorted (args_sorted1 _) ?_
  unfold Builtin.«sorted»
  refine wpAny_bind (m:=checkCount "sorted" 1 1 _) (wpAny_pure ?_)
  refine wpAny_bind (kdu_collect (A:=_) (a45 hsx hes) (I2.ok.hd hcalm) hS (by rw [sizeLine_eq];omega) λhp2 tk2 acc hk hacc=>?_)
  have hacc':acc.toList=W4 X.w s1.heap.objs.size ep es:=by
   refine List.ext_getElem? λj=>?_
   rw [Array.getElem?_toList]
   cases hj:acc[j]? with
   | none=>
     have:acc.size<=j:=by simpa using hj
     rw [List.getElem?_eq_none (by rw [v7 hes,←hacc.1];exact this)]
   | some v=>exact (hacc.2 j v hj).symm
  obtain⟨ms,hp,hI⟩:=aL9 (af9 X.w s1.heap.objs.size ep es) hes.vs
  rw [←hacc'] at hI
  have hal:acc.toList.length=(setL ns).length:=by rw [hI.length];exact hp.length_eq
  refine wpAny_bind (wpAny_newList ?_ (by rw [hal,sizeLine_eq];omega))
  have hoL:(hp2.push (seqObj "list" acc.toList.toArray 0)).get? hp2.objs.size=some (seqObj "list" acc.toList.toArray 0):=Heap.get?_push_size _ rfl
  refine wpAny_bind (wpAny_holding (wpAny_call_entry slot_list_sort ⟨_,hoL,rfl⟩ entry_list_sort (list_sort_tree hoL hI (by omega) λout ns' h1 h2 h3=>⟨_,rfl,?_⟩) (args_list_sort _)))
  refine wpAny_pure ⟨_,rfl,?_⟩
  have e:ns'=setL ns:=t4 (h2.trans hp) h3 ((o5 hsx).2.2.imp λh=>Int.le_of_lt h)
  subst e
  obtain⟨c,hc⟩:=sortedHeap_at (out:=out) hoL
  have I3:=I2.kept (t':=tk2) hk
  refine⟨.ref _,_,I3.laid (t':=tk2) (a:=hp2.objs.size) (o:=.lst ((setL ns).map L2.V.int)) (λb o e2=>?_) (Nat.le_refl _) ?_,rfl,q _ (I3.hok.fresh (Nat.le_refl _))⟩
  ·have hlt:=Heap.lt_size e2
   rw [sortedHeap_old (Nat.ne_of_lt hlt) (by rw [size_push'];exact Nat.lt_succ_of_lt hlt)]
   exact Heap.get?_push_of_some _ e2
  ·refine⟨by rw [List.length_map,sizeLine_eq];omega,out.toList,c,L2.d6 h1,?_⟩
   rw [Array.toArray_toList];exact hc
end
end Ws
namespace Ws
open PySem
section
variable {P:Program} {w:World} {K:PySem.W.Frag} {mg:Str->Option Value} {base:Heap} {cm:Nat->Addr} {x qual:Str} {st:Stmt} {f:Addr} {fd:FuncData} {items:Array Value} {N ps:List Str} {k:Nat} {s:SD}
theorem aW0 {n:Nat} (h:n+64<cLine):n+1<cLine:=Nat.lt_of_le_of_lt (Nat.add_le_add_left (by decide) _) h
theorem E1 (F:L2.Fun K x qual st f fd) (S:L2.C9 N ps (L2.B9 st))
 (hb:∀(cdv:Value) (A:Around) (outer:List Env) (s0:Shared) (H:L2.Hp) (E:L2.XK),L2.Room k (A.deeper (PyProof.Rows.envOfC qual (L2.B9 st) s0.heap.objs.size f cdv))->(A.deeper (PyProof.Rows.envOfC qual (L2.B9 st) s0.heap.objs.size f cdv)).units+64<cLine->(A.deeper (PyProof.Rows.envOfC qual (L2.B9 st) s0.heap.objs.size f cdv)).units+1<cLine->
  L2.PSs (L2.aj6 L2.CX0 P w K mg base N qual (L2.B9 st) f cdv A outer s0 H E).nox (L2.C5 st) (EvS K cm s)) :
 L2.FnOk P w K mg base L2.CX0 (k+1) f fd ps (SpF K cm (fn N.length ps.length s) ps.length):=bk4 F S λcdv A outer s0 H E hr=>hb cdv A outer s0 H E hr hr.units (aW0 hr.units)
theorem a57 (F:FunD K x qual st f fd items) (S:L2.C9 N ps (L2.B9 st))
 (hb:∀(cdv:Value) (A:Around) (outer:List Env) (s0:Shared) (H:L2.Hp) (E:L2.XK),L2.Room k (A.deeper (PyProof.Rows.envOfC qual (L2.B9 st) s0.heap.objs.size f cdv))->(A.deeper (PyProof.Rows.envOfC qual (L2.B9 st) s0.heap.objs.size f cdv)).units+64<cLine->(A.deeper (PyProof.Rows.envOfC qual (L2.B9 st) s0.heap.objs.size f cdv)).units+1<cLine->
  L2.PSs (L2.aj6 L2.CX0 P w K mg base N qual (L2.B9 st) f cdv A outer s0 H E).nox (L2.C5 st) (EvS K cm s)) :
 L2.FnOk P w K mg base L2.CX0 (k+1) f fd ps (SpF K cm (fn N.length ps.length s) ps.length):=bf0 F S λcdv A outer s0 H E hr=>hb cdv A outer s0 H E hr hr.units (aW0 hr.units)
end
section
variable {X:L2.Cx} {cm:Nat->Addr} {o value:Expr} {d e:ED} {f:Str} {pos pos':Pos}
theorem r_v (i:Nat) {x:Str} (hN:X.N[i]?=some x:=by rfl) (hv:L2.Vis X.env.scope x:=by first | exact Or.inl rfl | exact Or.inr (Or.inl rfl) | exact Or.inr (Or.inr rfl)) (hd:(x == ("__debug__" : Str))=false:=by decide)
 (hcd:(x == ("__classdict__" : Str))=false:=by decide):L2.PE X (.Name x pos) (EvE X.K cm (eVar i)):=bj4 (L2.pv i hN hv hd hcd)
theorem a89 {K:PySem.W.Frag} {mg:Str->Option Value} {i:Nat} (B:L9 K mg cm) (hf:fnm i=f) (hi:i<19):∀c,c<7->L2.NoAttr K (cm c) f:=λc h=>hf ▸ B.na c i hi h
theorem r_fb (i:Nat) {mg:Str->Option Value} (B:L9 X.K mg cm) (he:L2.PE X o (EvE X.K cm d)) (hf:fnm i=f:=by rfl) (hi:i<19:=by decide) (hb:attributeBase o f X.env (eval o X.env)=eval o X.env:=by rfl):L2.PE X (.Attribute o f pos) (EvE X.K cm (L5 d i)):=bk2 he hf hi B.cls (a89 B hf hi) hb
theorem j8 (i:Nat) {mg:Str->Option Value} (B:L9 X.K mg cm) (ho:L2.PE X o (EvE X.K cm d)) (hv:L2.PE X value (EvE X.K cm e)) (hf:fnm i=f:=by rfl) (hi:i<19:=by decide) (hs:swapsWith value (some (.Attribute o f pos')) pos.line X.env=pure false:=by rfl):L2.PS X (.Assign [.Attribute o f pos'] value pos) (EvS X.K cm (sFld d i e)):=bk3 ho hv hf hi B.cls (a89 B hf hi) hs
theorem bf8 {st:Stmt} {h₀:ExceptHandler} {hs:List ExceptHandler} {b:SD} (hx:X.xe=λ_ _=>False) (hb:L2.PS X st (EvS X.K cm b)):L2.PS X (.Try [st] (h₀::hs) [] [] pos) (EvS X.K cm b):=by
 intro pins s σ H D I h
 refine wpAny_Try_except (wpAny_execs_cons (wpAny_mono (hb pins s σ H D I h) (λfl s1 q=>?_) λe s1 z=>by rw [hx] at z;exact z.elim))
 cases fl with
 | next=>exact wpAny_execs_nil (wpAny_execs_nil q)
 | ret v=>exact q
 | brk=>exact q
 | cont=>exact q
end
end Ws
local macro_rules | `(tactic| walk_at "sc")=>`(tactic| exact⟨rfl,rfl,rfl,by decide +kernel,rfl,by decide +kernel,by decide +kernel⟩)
local macro_rules | `(tactic| walk_at "o2")=>`(tactic| first | exact Or.inl rfl | exact Or.inr rfl)
local macro_rules | `(tactic| walk_at "o3")=>`(tactic| first | exact Or.inl rfl | exact Or.inr (Or.inl rfl) | exact Or.inr (Or.inr rfl))
namespace Ws
abbrev XP:=Nat->PV->PHp->Prop
def Wp {α:Type} (m:M α) (A:PHp) (Q:α->PHp->Prop) (E:XP):Prop:=match m A with
 | .ok a A'=>Q a A'
 | .ex c v A'=>E c v A'
 | .no=>False
abbrev NoX:XP:=λ_ _ _=>False
section
variable {α β:Type} {m:M α} {f:α->M β} {A A' A1 B:PHp} {a:α} {E E':XP} {σ σ':PSt}
theorem w_eq {Q:α->PHp->Prop} (h:m A=.ok a A') (q:Q a A'):Wp m A Q E:=by unfold Wp;rw [h];exact q
theorem a90 {Q:α->PHp->Prop} (h:Wp m A Q NoX):∃a A',m A=.ok a A'/\Q a A':=by
 unfold Wp at h
 cases e:m A with
 | ok a A'=>rw [e] at h;exact⟨a,A',rfl,h⟩
 | ex c v A'=>rw [e] at h;exact h.elim
 | no=>rw [e] at h;exact h.elim
theorem a58 {Q Q':α->PHp->Prop} (h:Wp m A Q E) (hq:∀a A',Q a A'->Q' a A') (he:∀c v A',E c v A'->E' c v A'):Wp m A Q' E':=by
 unfold Wp at h ⊢
 cases e:m A with
 | ok a A'=>rw [e] at h;exact hq _ _ h
 | ex c v A'=>rw [e] at h;exact he _ _ _ h
 | no=>rw [e] at h;exact h.elim
theorem w_mono {Q Q':α->PHp->Prop} (h:Wp m A Q E) (hq:∀a A',Q a A'->Q' a A'):Wp m A Q' E:=a58 h hq λ_ _ _ z=>z
theorem ax5 {Q:α->PHp->Prop} (q:Q a A):Wp (ret a) A Q E:=q
theorem C1 {Q:β->PHp->Prop} (h:Wp m A (λa A1=>Wp (f a) A1 Q E) E):Wp (bnd m f) A Q E:=by
 unfold Wp at h ⊢
 unfold bnd
 cases e:m A with
 | ok a A'=>rw [e] at h;exact h
 | ex c v A'=>rw [e] at h;exact h
 | no=>rw [e] at h;exact h
theorem D3 {P:Prop} {Q:α->PHp->Prop} (p:P) (h:Wp m A Q E):Wp (G5 P m) A Q E:=by rw [d7 p];exact h
variable {Q:PV->PHp->Prop} {e e1 e2 e3:ED} {es:AD} {v x y:PV} {i j:Int} {k n:Nat} {l:List PV}
theorem w_var (h:σ[k]?=some (some v)) (q:Q v A):Wp (eVar k σ) A Q E:=w_eq (a:=v) (by show (eVar k σ) A=_;unfold eVar;rw [h];rfl) q
theorem w_k (q:Q v A):Wp (eK v σ) A Q E:=q
theorem w_nil {Q:List PV->PHp->Prop} (q:Q [] A):Wp (aNil σ) A Q E:=q
theorem w_cons {Q:List PV->PHp->Prop} (h:Wp (e σ) A (λx A1=>Wp (es σ) A1 (λxs A2=>Q (x::xs) A2) E) E):Wp (aCons e es σ) A Q E:=
 C1 (w_mono h λ_ _ h1=>C1 (w_mono h1 λ_ _ h2=>h2))
theorem w_tup (h:Wp (es σ) A (λxs A1=>xs.length<=LIM/\Q (.tup xs) A1) E):Wp (f9 es σ) A Q E:=C1 (w_mono h λ_ _ ⟨h1,h2⟩=>D3 h1 h2)
theorem w_lst (h:Wp (es σ) A (λxs A1=>xs.length<=LIM/\Q (.ref A1.length) (A1++[.lst xs])) E):Wp (g6 es σ) A Q E:=C1 (w_mono h λ_ _ ⟨h1,h2⟩=>D3 h1 h2)
theorem w_bin {f:OD} (h:Wp (e1 σ) A (λx A1=>Wp (e2 σ) A1 (λy A2=>Wp (f x y) A2 Q E) E) E):Wp (D1 f e1 e2 σ) A Q E:=C1 (w_mono h λ_ _ h1=>C1 h1)
theorem w_add (q:Q (.int (i+j)) A):Wp (Z2 (.int i) (.int j)) A Q E:=q
theorem w_addT {l m:List PV} (h:l≠[]/\l.length+m.length<=LIM) (q:Q (.tup (l++m)) A):Wp (Z2 (.tup l) (.tup m)) A Q E:=D3 h q
theorem b8 {Q:List PV->PHp->Prop} (h:A[n]?=some (.lst l)) (q:Q l A):Wp (S9 n) A Q E:=w_eq (aK7 h) q
theorem w_addL {n k:Nat} {l m:List PV} (hn:A[n]?=some (.lst l)) (hk:A[k]?=some (.lst m)) (hl:l.length+m.length<=LIM) (q:Q (.ref A.length) (A++[.lst (l++m)])):Wp (Z2 (.ref n) (.ref k)) A Q E:=
 C1 (b8 hn (C1 (b8 hk (D3 hl q))))
theorem w_mul (h:(-(2 ^ 64)<i/\i<2 ^ 64)\/(-(2 ^ 64)<j/\j<2 ^ 64)) (q:Q (.int (i*j)) A):Wp (aR5 (.int i) (.int j)) A Q E:=D3 h q
theorem w_mod (h:0<j) (q:Q (.int (i%j)) A):Wp (ap5 (.int i) (.int j)) A Q E:=D3 h q
theorem w_fdiv (h:0<j/\j<1073741824) (q:Q (.int (i / j)) A):Wp (au5 (.int i) (.int j)) A Q E:=D3 h q
theorem w_lt (q:Q (.bl (decide (i<j))) A):Wp (oLt (.int i) (.int j)) A Q E:=q
theorem w_gt (q:Q (.bl (decide (j<i))) A):Wp (oGt (.int i) (.int j)) A Q E:=q
theorem w_eqI (q:Q (.bl (decide (i=j))) A):Wp (oEq (.int i) (.int j)) A Q E:=C1 (D3 (.inr ⟨rfl,rfl⟩) q)
theorem w_neI (q:Q (.bl (!decide (i=j))) A):Wp (oNe (.int i) (.int j)) A Q E:=C1 (D3 (.inr ⟨rfl,rfl⟩) q)
theorem w_neB {b c:Bool} (q:Q (.bl (!(b == c))) A):Wp (oNe (.bl b) (.bl c)) A Q E:=C1 (D3 (.inl rfl) q)
theorem bl3 {l m:List PV} (h:plain (.tup l)=true/\plain (.tup m)=true) (q:Q (.bl (R6 l m)) A):Wp (oEq (.tup l) (.tup m)) A Q E:=C1 (D3 (.inr h) q)
theorem bl4 {l m:List PV} (h:plain (.tup l)=true/\plain (.tup m)=true) (q:Q (.bl (!R6 l m)) A):Wp (oNe (.tup l) (.tup m)) A Q E:=C1 (D3 (.inr h) q)
theorem bl5 (hx:plain x=true) (hy:plain y=true) (q:Q (.bl (eqv x y)) A):Wp (oEq x y) A Q E:=by
 cases x with
 | ref n=>cases hx
 | _=>exact C1 (D3 (.inr ⟨hx,hy⟩) q)
theorem w_neP (hx:plain x=true) (hy:plain y=true) (q:Q (.bl (!eqv x y)) A):Wp (oNe x y) A Q E:=by
 cases x with
 | ref n=>cases hx
 | _=>exact C1 (D3 (.inr ⟨hx,hy⟩) q)
theorem R1 {Q:List PV->PHp->Prop} (h:A[n]?=some (.lst l)) (q:Q l A):Wp (E7 n) A Q E:=w_eq (K6 h) q
theorem a91 {n k:Nat} {l m:List PV} (hn:A[n]?=some (.lst l)) (hk:A[k]?=some (.lst m)) (hp:J2 l=true/\J2 m=true) (q:Q (.bl (R6 l m)) A):Wp (oEq (.ref n) (.ref k)) A Q E:=
 C1 (C1 (R1 hn (C1 (R1 hk (D3 hp q)))))
theorem w_neL {n k:Nat} {l m:List PV} (hn:A[n]?=some (.lst l)) (hk:A[k]?=some (.lst m)) (hp:J2 l=true/\J2 m=true) (q:Q (.bl (!R6 l m)) A):Wp (oNe (.ref n) (.ref k)) A Q E:=
 C1 (C1 (R1 hn (C1 (R1 hk (D3 hp q)))))
theorem a92 (hn:A[n]?=some (.lst l)) (hp:plain x=true/\J2 l=true) (q:Q (.bl (pIn x l)) A):Wp (oIn x (.ref n)) A Q E:=C1 (R1 hn (D3 hp q))
theorem bl6 (hp:plain x=true/\J2 l=true) (q:Q (.bl (pIn x l)) A):Wp (oIn x (.tup l)) A Q E:=C1 (ax5 (D3 hp q))
theorem aW1 (hp:plain x=true/\J2 l=true) (q:Q (.bl (!pIn x l)) A):Wp (ac1 x (.tup l)) A Q E:=C1 (ax5 (D3 hp q))
theorem w_isN (h:Wp (e σ) A (λx A1=>Q (.bl (ac2 x)) A1) E):Wp (aK6 e σ) A Q E:=C1 h
theorem w_notN (h:Wp (e σ) A (λx A1=>Q (.bl (!ac2 x)) A1) E):Wp (au6 e σ) A Q E:=C1 h
variable {QB:Bool->PHp->Prop} {t t1 t2:TD} {b:Bool}
theorem w_true (q:QB true A):Wp (T1 σ) A QB E:=q
theorem w_tval (h:Wp (e σ) A (λx A1=>∃b,x=.bl b/\QB b A1) E):Wp (G9 e σ) A QB E:=C1 (w_mono h λx A1 ⟨b,hx,q⟩=>by subst hx;exact q)
theorem w_tand (h:Wp (t1 σ) A (λb A1=>(b=true->Wp (t2 σ) A1 QB E)/\(b=false->QB false A1)) E):Wp (tAnd t1 t2 σ) A QB E:=C1 (w_mono h λb A1 ⟨h1,h2⟩=>by
 cases b with
 | true=>exact h1 rfl
 | false=>exact h2 rfl)
theorem w_tor (h:Wp (t1 σ) A (λb A1=>(b=true->QB true A1)/\(b=false->Wp (t2 σ) A1 QB E)) E):Wp (tOr t1 t2 σ) A QB E:=C1 (w_mono h λb A1 ⟨h1,h2⟩=>by
 cases b with
 | true=>exact h1 rfl
 | false=>exact h2 rfl)
theorem w_tnot (h:Wp (t σ) A (λb A1=>QB (!b) A1) E):Wp (tNot t σ) A QB E:=C1 h
theorem w_and (h:Wp (e1 σ) A (λx A1=>∃b,x=.bl b/\((b=true->Wp (e2 σ) A1 Q E)/\(b=false->Q (.bl false) A1))) E):Wp (Z3 e1 e2 σ) A Q E:=C1 (C1 (w_mono h λx A1 ⟨b,hx,h1,h2⟩=>by
 subst hx
 cases b with
 | true=>exact h1 rfl
 | false=>exact h2 rfl))
theorem w_or (h:Wp (e1 σ) A (λx A1=>∃b,x=.bl b/\((b=true->Q (.bl true) A1)/\(b=false->Wp (e2 σ) A1 Q E))) E):Wp (eOr e1 e2 σ) A Q E:=C1 (C1 (w_mono h λx A1 ⟨b,hx,h1,h2⟩=>by
 subst hx
 cases b with
 | true=>exact h1 rfl
 | false=>exact h2 rfl))
theorem w_ifE (h:Wp (t σ) A (λb A1=>(b=true->Wp (e1 σ) A1 Q E)/\(b=false->Wp (e2 σ) A1 Q E)) E):Wp (eIf t e1 e2 σ) A Q E:=C1 (w_mono h λb A1 ⟨h1,h2⟩=>by
 cases b with
 | true=>exact h1 rfl
 | false=>exact h2 rfl)
theorem w_ixL (hn:A[n]?=some (.lst l)) (hi:atI l i=some v) (q:Q v A):Wp (oIx (.ref n) (.int i)) A Q E:=C1 (R1 hn (by rw [hi];exact q))
theorem w_ixT (hi:atI l i=some v) (q:Q v A):Wp (oIx (.tup l) (.int i)) A Q E:=by
 refine w_eq (a:=v) (A':=A) ?_ q
 simp [hi]
theorem w_len (h:Wp (e σ) A (λx A1=>Wp (N0 x) A1 (λl A2=>Q (.int l.length) A2) E) E):Wp (Z4 e σ) A Q E:=C1 (w_mono h λ_ _ h1=>C1 h1)
theorem w_seqL {Q:List PV->PHp->Prop} (h:A[n]?=some (.lst l)) (q:Q l A):Wp (N0 (.ref n)) A Q E:=R1 h q
theorem w_seqT {Q:List PV->PHp->Prop} (q:Q l A):Wp (N0 (.tup l)) A Q E:=q
theorem w_listOf (h:Wp (e σ) A (λx A1=>Wp (N0 x) A1 (λl A2=>Q (.ref A2.length) (A2++[.lst l])) E) E):Wp (l9 e σ) A Q E:=C1 (w_mono h λ_ _ h1=>C1 h1)
theorem w_tupleOf (h:Wp (e σ) A (λx A1=>∃n l,x=.ref n/\A1[n]?=some (.lst l)/\l.length<=LIM/\Q (.tup l) A1) E):Wp (m8 e σ) A Q E:=C1 (w_mono h λx A1 ⟨n,l,hx,h1,h2,q⟩=>by
 subst hx
 exact C1 (R1 h1 (D3 h2 q)))
variable {QO:Option Int->PHp->Prop} {lo hi:LD}
theorem w_lno (q:QO none A):Wp (lNo σ) A QO E:=q
theorem w_lat (h:Wp (e σ) A (λx A1=>∃i,x=.int i/\QO (some i) A1) E):Wp (lAt e σ) A QO E:=C1 (w_mono h λx A1 ⟨i,hx,q⟩=>by subst hx;exact q)
theorem w_cut (h:Wp (e σ) A (λx A1=>Wp (lo σ) A1 (λl A2=>Wp (hi σ) A2 (λh A3=>(∃n xs,x=.ref n/\E7 n A3=.ok xs A3/\Q (.ref A3.length) (A3++[.lst (cut xs l h)]))\/
 ∃xs,x=.tup xs/\¬(S0 xs.length 0 l=0/\S0 xs.length xs.length h=xs.length)/\Q (.tup (cut xs l h)) A3) E) E) E):Wp (ap8 e lo hi σ) A Q E:=
 C1 (w_mono h λ_ _ h1=>C1 (w_mono h1 λ_ _ h2=>C1 (w_mono h2 λ_ _ h3=>by
  rcases h3 with ⟨n,xs,rfl,hn,q⟩ | ⟨xs,rfl,hn,q⟩
  ·exact C1 (w_eq hn q)
  ·exact D3 hn q)))
theorem an5:∀bs:List Bool,i0 (bs.map PV.bl)=some bs
 | []=>rfl
 | b::r=>by rw [List.map_cons];show (i0 (r.map PV.bl)).map (b :: ·)=_;rw [an5 r];rfl
theorem w_all (h:Wp (e σ) A (λx A1=>∃(n:Nat) (bs:List Bool),x=.ref n/\A1[n]?=some (.lst (bs.map PV.bl))/\Q (.bl (bs.all id)) A1) E):Wp (aq5 e σ) A Q E:=C1 (w_mono h λx A1 ⟨n,bs,hx,h1,q⟩=>by
 subst hx
 refine C1 (R1 h1 ?_)
 rw [an5];exact q)
theorem w_lenSet2 (h:Wp (e σ) A (λx A1=>Wp (N0 x) A1 (λl A2=>∃ns,l=ns.map PV.int/\ns.length<1000/\Q (.int (ad0 ns)) A2) E) E):Wp (ad1 e σ) A Q E:=C1 (w_mono h λx A1 h1=>C1 (w_mono h1 λl A2 ⟨ns,hl,h2,q⟩=>by
 subst hl
 rw [O8]
 exact D3 h2 q))
theorem w_append {e1 e2:ED} (h:Wp (e1 σ) A (λx A1=>∃n l,x=.ref n/\A1[n]?=some (.lst l)/\Wp (e2 σ) A1 (λv A2=>∃l2,A2[n]?=some (.lst l2)/\l2.length<LIM/\Q .non (A2.set n (.lst (l2++[v])))) E) E):Wp (m5 e1 e2 σ) A Q E:=
 C1 (w_mono h λx A1 ⟨n,l,hx,h1,h2⟩=>by
  subst hx
  exact C1 (b8 h1 (C1 (w_mono h2 λv A2 ⟨l2,h3,h4,q⟩=>C1 (b8 h3 (D3 h4 q))))))
theorem w_fld (h:Wp (e σ) A (λx A1=>∃n c fs v,x=.ref n/\A1[n]?=some (.ins c fs)/\U7 k fs=some v/\Q v A1) E):Wp (L5 e k σ) A Q E:=
 C1 (w_mono h λx A1 ⟨n,c,fs,v,hx,h1,h2,q⟩=>by
  subst hx
  refine C1 (w_eq (a:=(c,fs)) (A':=A1) (by show Z1 n A1=_;unfold Z1;rw [h1]) ?_)
  show Wp (match U7 k fs with | some v=>_ | none=>_) _ _ _
  rw [h2];exact q)
theorem w_call {f:Fun} (h:Wp (es σ) A (λvs A1=>Wp (f vs) A1 Q E) E):Wp (J1 f es σ) A Q E:=C1 h
theorem w_meth {c:Nat} {f:Fun} (h:Wp (e σ) A (λx A1=>∃n fs,x=.ref n/\A1[n]?=some (.ins c fs)/\Wp (es σ) A1 (λvs A2=>Wp (f (.ref n::vs)) A2 Q E) E) E):Wp (O3 c f e es σ) A Q E:=
 C1 (w_mono h λx A1 ⟨n,fs,hx,h1,h2⟩=>by
  subst hx
  exact C1 (w_eq (a:=(c,fs)) (A':=A1) (by show Z1 n A1=_;unfold Z1;rw [h1]) (D3 rfl (C1 h2))))
theorem w_make {c:Nat} {f:Fun} (h:Wp (es σ) A (λvs A1=>Wp (f (.ref A1.length::vs)) (A1++[.ins c []]) (λ_ A2=>Q (.ref A1.length) A2) E) E):Wp (ac3 c f es σ) A Q E:=
 C1 (w_mono h λvs A1 h1=>C1 (w_eq (a:=.ref A1.length) (A':=A1++[.ins c []]) rfl (C1 h1)))
variable {QF:Fl->PHp->Prop} {s s1 s2:SD} {g:GD} {QS:PSt->PHp->Prop}
theorem w_pass (q:QF (.nx σ) A):Wp (sPass σ) A QF E:=q
theorem w_seq (h:Wp (s1 σ) A (λo A1=>match o with | .nx σ'=>Wp (s2 σ') A1 QF E | o=>QF o A1) E):Wp (D5 s1 s2 σ) A QF E:=C1 (w_mono h λo A1 h1=>by
 cases o with
 | nx σ'=>exact h1
 | _=>exact h1)
theorem w_exp (h:Wp (e σ) A (λ_ A1=>QF (.nx σ) A1) E):Wp (Y0 e σ) A QF E:=C1 h
theorem w_retS (h:Wp (e σ) A (λv A1=>QF (.rt v) A1) E):Wp (J3 e σ) A QF E:=C1 h
theorem w_if (h:Wp (t σ) A (λb A1=>(b=true->Wp (s1 σ) A1 QF E)/\(b=false->Wp (s2 σ) A1 QF E)) E):Wp (sIf t s1 s2 σ) A QF E:=C1 (w_mono h λb A1 ⟨h1,h2⟩=>by
 cases b with
 | true=>exact h1 rfl
 | false=>exact h2 rfl)
theorem w_asg (h:Wp (e σ) A (λv A1=>Wp (g v σ) A1 (λσ' A2=>QF (.nx σ') A2) E) E):Wp (N2 e g σ) A QF E:=C1 (w_mono h λ_ _ h1=>C1 h1)
theorem w_gname (q:QS (σ.set k (some v)) A):Wp (gName k v σ) A QS E:=q
theorem w_gnil (q:QS σ A):Wp (gNil [] σ) A QS E:=q
theorem w_gcons {r:GDs} {vs:List PV} (h:Wp (g v σ) A (λσ' A1=>Wp (r vs σ') A1 QS E) E):Wp (gCons g r (v::vs) σ) A QS E:=C1 h
theorem w_gtup {r:GDs} (hl:l.length=n) (h:Wp (r l σ) A QS E):Wp (gTup n r (.tup l) σ) A QS E:=D3 hl h
theorem w_sfld (h:Wp (e2 σ) A (λv A1=>Wp (e1 σ) A1 (λx A2=>∃n c fs,x=.ref n/\A2[n]?=some (.ins c fs)/\fs.length<900/\QF (.nx σ) (A2.set n (.ins c (putFld k v fs)))) E) E):Wp (sFld e1 k e2 σ) A QF E:=
 C1 (w_mono h λv A1 h1=>C1 (w_mono h1 λx A2 ⟨n,c,fs,hx,h2,h3,q⟩=>by
  subst hx
  exact C1 (w_eq (a:=(c,fs)) (A':=A2) (by show Z1 n A2=_;unfold Z1;rw [h2]) (D3 h3 q))))
theorem bo9 {n p:Nat} {vs:List PV} (hl:vs.length=p) (h:Wp (s (start n vs)) A (λo A1=>match o with | .rt v=>Q v A1 | .nx _=>Q .non A1 | _=>False) E):Wp (fn n p s vs) A Q E:=
 D3 hl (C1 (w_mono h λo A1 h1=>by
  cases o with
  | rt v=>exact h1
  | nx σ'=>exact h1
  | bk σ'=>exact h1.elim
  | ct σ'=>exact h1.elim))
abbrev an6 (P:PSt->PHp->Prop) (QF:Fl->PHp->Prop):Fl->PHp->Prop:=λo A=>match o with
 | .nx σ=>P σ A
 | .ct σ=>P σ A
 | .bk σ=>QF (.nx σ) A
 | .rt v=>QF (.rt v) A
theorem aa7 {J:It} {n:Nat} (P:Nat->PSt->PHp->Prop) (hend:∀σ A,P n σ A->item J n A=.ok none A/\QF (.nx σ) A)
 (hs:∀i σ A,i<n->P i σ A->∃v,item J i A=.ok (some v) A/\Wp (g v σ) A (λσ1 A1=>Wp (s σ1) A1 (an6 (P (i+1)) QF) E) E) :
 ∀k i σ A,i+k=n->P i σ A->∀m,k<m->Wp (V6 J g s m i σ) A QF E
 | _,_,_,_,_,_,0,hm=>absurd hm (Nat.not_lt_zero _)
 | 0,i,σ,A,e,h,m+1,hm=>by
   obtain rfl:i=n:=by omega
   obtain⟨h1,h2⟩:=hend σ A h
   rw [Q3]
   exact C1 (w_eq h1 h2)
 | k+1,i,σ,A,e,h,m+1,hm=>by
   obtain⟨v,hv,t⟩:=hs i σ A (by omega) h
   rw [Q3]
   refine C1 (w_eq hv ?_)
   refine C1 (w_mono t λσ1 A1 h1=>C1 (w_mono h1 λo A2 h2=>?_))
   cases o with
   | nx σ2=>exact aa7 P hend hs k (i+1) σ2 A2 (by omega) h2 m (by omega)
   | ct σ2=>exact aa7 P hend hs k (i+1) σ2 A2 (by omega) h2 m (by omega)
   | bk σ2=>exact h2
   | rt v=>exact h2
theorem aW2 {it:ID} (P:Nat->PSt->PHp->Prop) (h:Wp (it σ) A (λJ A1=>∃lo n,J=.rng lo n/\P 0 σ A1/\(∀(i:Nat) σ B,i<n->P i σ B->Wp (g (.int (lo+i)) σ) B (λσ1 B1=>Wp (s σ1) B1 (an6 (P (i+1)) QF) E) E)/\∀σ B,P n σ B->QF (.nx σ) B) E) :
 Wp (aa0 it g s σ) A QF E:=C1 (w_mono h λJ A1 ⟨lo,n,hJ,h0,hs,he⟩=>by
 subst hJ
 exact C1 (ax5 (aa7 P (λσ B hP=>⟨by simp,he σ B hP⟩) (λi σ B hi hP=>⟨_,by simp [hi],hs i σ B hi hP⟩) n 0 σ A1 (by omega) h0 (n+1) (Nat.lt_succ_self _))))
theorem as4 {it:ID} (P:Nat->PSt->PHp->Prop) (h:Wp (it σ) A (λJ A1=>∃a l,J=.lst a/\P 0 σ A1/\(∀i σ B,P i σ B->E7 a B=.ok l B)/\(∀(i:Nat) v σ B,l[i]?=some v->P i σ B->Wp (g v σ) B (λσ1 B1=>Wp (s σ1) B1 (an6 (P (i+1)) QF) E) E)/\∀σ B,P l.length σ B->QF (.nx σ) B) E) :
 Wp (aa0 it g s σ) A QF E:=C1 (w_mono h λJ A1 ⟨a,l,hJ,h0,hl,hs,he⟩=>by
 subst hJ
 refine C1 (C1 (w_eq (hl 0 σ A1 h0) (ax5 ?_)))
 refine aa7 P (λσ B hP=>⟨by show bnd (E7 a) _ B=_;rw [bnd_ok (hl _ σ B hP)];simp,he σ B hP⟩) (λi σ B hi hP=>?_) l.length 0 σ A1 (by omega) h0 (l.length+1) (Nat.lt_succ_self _)
 exact⟨l[i],by show bnd (E7 a) _ B=_;rw [bnd_ok (hl _ σ B hP),List.getElem?_eq_getElem hi];rfl,hs i l[i] σ B (List.getElem?_eq_getElem hi) hP⟩)
theorem ag4 (P:Nat->PSt->PHp->Prop) (hs:∀m σ A,P m σ A->Wp (t σ) A (λb A1=>(b=true->Wp (s σ) A1 (an6 (λσ' A'=>∃m',m'<m/\P m' σ' A') QF) E)/\(b=false->QF (.nx σ) A1)) E) :
 ∀f m σ A,m<f->P m σ A->Wp (Z7 t s f σ) A QF E
 | 0,m,σ,A,hm,_=>absurd hm (by omega)
 | f+1,m,σ,A,hm,h=>by
   rw [y6]
   refine C1 (w_mono (hs m σ A h) λb A1 ⟨h1,h2⟩=>?_)
   cases b with
   | false=>exact h2 rfl
   | true=>
     refine C1 (w_mono (h1 rfl) λo A2 h3=>?_)
     cases o with
     | nx σ2=>obtain⟨m',hm',h4⟩:=h3;exact ag4 P hs f m' σ2 A2 (by omega) h4
     | ct σ2=>obtain⟨m',hm',h4⟩:=h3;exact ag4 P hs f m' σ2 A2 (by omega) h4
     | bk σ2=>exact h3
     | rt v=>exact h3
theorem aH7 (P:Nat->PSt->PHp->Prop) {m:Nat} (hm:m<10000) (h0:P m σ A) (hs:∀m σ A,P m σ A->Wp (t σ) A (λb A1=>(b=true->Wp (s σ) A1 (an6 (λσ' A'=>∃m',m'<m/\P m' σ' A') QF) E)/\(b=false->QF (.nx σ) A1)) E) :
 Wp (aq0 t s σ) A QF E:=ag4 P hs LIM m σ A (U6 hm) h0
theorem ag5 {J:It} {g:GD} {t:TD} {e:ED} {l:List PV} {QL:List PV->PHp->Prop} (P:Nat->List PV->PSt->PHp->Prop) (hit:∀i acc σ B,P i acc σ B->item J i B=.ok l[i]? B)
 (hs:∀i v acc σ B,l[i]?=some v->P i acc σ B->Wp (g v σ) B (λσ1 B1=>Wp (t σ1) B1 (λc B2=>(c=true->Wp (e σ1) B2 (λy B3=>P (i+1) (acc++[y]) σ1 B3) E)/\(c=false->P (i+1) acc σ1 B2)) E) E)
 (he:∀acc σ B,P l.length acc σ B->QL acc B):∀k i acc σ B,i<=l.length->l.length<i+k->P i acc σ B->Wp (Z8 J g t e k i σ) B (λys B'=>QL (acc++ys) B') E
 | 0,i,acc,σ,B,h1,h2,_=>absurd h2 (by omega)
 | k+1,i,acc,σ,B,h1,h2,h=>by
   rw [y9]
   refine C1 (w_eq (hit i acc σ B h) ?_)
   cases hv:l[i]? with
   | none=>
     have:l.length=i:=by have:=List.getElem?_eq_none_iff.mp hv;omega
     subst this
     show QL (acc++[]) B
     rw [List.append_nil];exact he acc σ B h
   | some v=>
     have hi:=(List.getElem?_eq_some_iff.mp hv).1
     refine C1 (w_mono (hs i v acc σ B hv h) λσ1 B1 h3=>C1 (w_mono h3 λc B2 ⟨h4,h5⟩=>?_))
     cases c with
     | true=>
       refine C1 (w_mono (h4 rfl) λy B3 h6=>C1 (w_mono (ag5 P hit hs he k (i+1) (acc++[y]) σ1 B3 hi (by omega) h6) λys B4 h7=>?_))
       show QL (acc++(y::ys)) B4
       rw [show acc++(y::ys)=acc++[y]++ys by simp];exact h7
     | false=>exact ag5 P hit hs he k (i+1) acc σ1 B2 hi (by omega) (h5 rfl)
theorem as5 {it:ID} {mk:PSt->PSt} {g:GD} {t:TD} {e:ED} (h:Wp (it σ) A (λJ A1=>∃(l:List PV) (n:Nat) (P:Nat->List PV->PSt->PHp->Prop),Z6 J A1=.ok n A1/\l.length<=n/\P 0 [] (mk σ) A1/\(∀i acc σ B,P i acc σ B->item J i B=.ok l[i]? B)/\
 (∀i v acc σ B,l[i]?=some v->P i acc σ B->Wp (g v σ) B (λσ1 B1=>Wp (t σ1) B1 (λc B2=>(c=true->Wp (e σ1) B2 (λy B3=>P (i+1) (acc++[y]) σ1 B3) E)/\(c=false->P (i+1) acc σ1 B2)) E) E)/\
 ∀acc σ B,P l.length acc σ B->acc.length<=LIM/\Q (.ref B.length) (B++[.lst acc])) E):Wp (O0 it mk g t e σ) A Q E:=
 C1 (w_mono h λJ A1 ⟨l,n,P,hf,hn,h0,hit,hs,he⟩=>C1 (w_eq hf (C1 (w_mono (ag5 P hit hs (QL:=λacc B=>acc.length<=LIM/\Q (.ref B.length) (B++[.lst acc])) he (n+1) 0 [] (mk σ) A1 (Nat.zero_le _) (by omega) h0) λys B h12=>by
  obtain⟨h1,h2⟩:=h12
  rw [List.nil_append] at h1 h2
  exact D3 h1 h2))))
theorem O7 {it:ID} {mk:PSt->PSt} {g:GD} {t:TD} {e:ED} {l:List PV} (S:PSt->Prop) (p:PV->Bool) (f:PV->PV) (h:Wp (it σ) A (λJ A1=>∃n,Z6 J A1=.ok n A1/\l.length<=n/\l.length<=LIM/\S (mk σ)/\(∀i,item J i A1=.ok l[i]? A1)/\
 (∀v σ,v∈l->S σ->Wp (g v σ) A1 (λσ1 B1=>B1=A1/\S σ1/\Wp (t σ1) A1 (λc B2=>B2=A1/\c=p v/\(c=true->Wp (e σ1) A1 (λy B3=>B3=A1/\y=f v) E)) E) E)/\
 Q (.ref A1.length) (A1++[.lst ((l.filter p).map f)])) E):Wp (O0 it mk g t e σ) A Q E:=
 as5 (w_mono h λJ A1 ⟨n,hf,hn,hL,h0,hit,hs,he⟩=>⟨l,n,λi acc σ B=>B=A1/\S σ/\acc=((l.take i).filter p).map f,hf,hn,⟨rfl,h0,by simp⟩,λi acc σ B ⟨h1,_⟩=>by rw [h1];exact hit i,λi v acc σ B hv ⟨h1,h2,h3⟩=>by
  subst h1
  refine w_mono (hs v σ (List.mem_of_getElem? hv) h2) λσ1 B1 ⟨e1,h4,h5⟩=>?_
  subst e1
  refine w_mono h5 λc B2 ⟨e2,h6,h7⟩=>?_
  subst e2
  have tk:l.take (i+1)=l.take i++[v]:=by rw [List.take_succ,hv];rfl
  refine⟨λhc=>w_mono (h7 hc) λy B3 ⟨e3,h8⟩=>⟨e3,h4,?_⟩,λhc=>⟨rfl,h4,?_⟩⟩
  ·rw [tk,List.filter_append,List.map_append,h3,h8,List.filter_cons_of_pos (by rw [←h6];exact hc)];rfl
  ·rw [tk,List.filter_append,List.map_append,h3,List.filter_cons_of_neg (by rw [←h6,hc];simp)];simp,λacc σ B ⟨h1,_,h3⟩=>by
  subst h1
  rw [List.take_of_length_le (Nat.le_refl _)] at h3
  subst h3
  exact⟨by rw [List.length_map];exact Nat.le_trans (List.length_filter_le _ _) hL,he⟩⟩)
theorem P5 {n:Nat} {l:List PV} (h:A[n]?=some (.lst l)):Z6 (.lst n) A=.ok l.length A:=by show bnd (E7 n) _ A=_;rw [bnd_ok (K6 h)];rfl
theorem P6 {n:Nat} {l:List PV} (h:A[n]?=some (.lst l)) (i:Nat):item (.lst n) i A=.ok l[i]? A:=by show bnd (E7 n) _ A=_;rw [bnd_ok (K6 h)];rfl
theorem ag6 (n i:Nat):item (.rng 0 n) i A=.ok ((List.range n).map λ(k:Nat)=>PV.int (k:Int))[i]? A:=by
 by_cases hi:i<n <;> simp [hi]
def Y7:List PV->List PV->List PV
 | x::xs,y::ys=>.tup [x,y]::Y7 xs ys
 | _,_=>[]
theorem as6:∀(l m:List PV) (i:Nat),(match l[i]?,m[i]? with | some u,some v=>some (.tup [u,v]) | _,_=>none)=(Y7 l m)[i]?
 | [],m,i=>by simp [Y7]
 | x::xs,[],i=>by cases h:(x::xs)[i]? <;> simp [Y7]
 | x::xs,y::ys,0=>by simp [Y7]
 | x::xs,y::ys,i+1=>by simpa [Y7] using as6 xs ys i
theorem ax6:∀(l m:List PV),(Y7 l m).length<=l.length
 | [],m=>by simp [Y7]
 | x::xs,[]=>by simp [Y7]
 | x::xs,y::ys=>by simpa [Y7] using ax6 xs ys
theorem aN1 (l m:List PV) (i:Nat):item (.zip (.tup l) (.tup m)) i A=.ok (Y7 l m)[i]? A:=by
 rw [←as6];rfl
theorem aN2 {n k:Nat} {l m:List PV} (hn:A[n]?=some (.lst l)) (hk:A[k]?=some (.lst m)) (i:Nat):item (.zip (.ref n) (.ref k)) i A=.ok (Y7 l m)[i]? A:=by
 rw [←as6]
 show bnd (E7 n) _ A=_
 rw [bnd_ok (K6 hn)]
 show bnd (E7 k) _ A=_
 rw [bnd_ok (K6 hk)];rfl
end
def pv (p:Int×Int):PV:=.tup [.int p.1,.int p.2]
def pvs (ps:List (Int×Int)):List PV:=ps.map pv
theorem aW3 (p:Int×Int):plain (pv p)=true:=rfl
theorem an7 (ps:List (Int×Int)):J2 (pvs ps)=true:=by
 rw [ac6];intro x hx;obtain⟨p,_,rfl⟩:=List.mem_map.mp hx;rfl
theorem bf9 {p q:Int×Int} (h:pv p=pv q):p=q:=by
 obtain⟨a,b⟩:=p;obtain⟨c,d⟩:=q
 simp [pv] at h;simp [h]
theorem aH8 (p:Int×Int) (ps:List (Int×Int)):pIn (pv p) (pvs ps)=decide (p∈ps):=by
 induction ps with
 | nil=>simp [pIn,pvs]
 | cons q r ih=>
   have e:eqv (pv q) (pv p)=decide (q=p):=by
    by_cases h:q=p
    ·subst h;simp [(aq2 (pv q) (pv q) rfl).mpr rfl]
    ·have:¬eqv (pv q) (pv p)=true:=λz=>h (bf9 ((aq2 _ _ rfl).mp z))
     simp [h,this]
   show (eqv (pv q) (pv p)||pIn (pv p) (pvs r))=_
   rw [ih,e]
   by_cases h:q=p <;> by_cases h2:p∈r <;> simp [h,h2]
   intro z;exact h z.symm
theorem aa8 {ps:List (Int×Int)} {v:PV} (h:v∈pvs ps):∃p∈ps,v=pv p:=by
 obtain⟨p,hp,rfl⟩:=List.mem_map.mp h;exact⟨p,hp,rfl⟩
def ax7:PV->Int
 | .tup [.int a,.int b]=>a
 | _=>0
def ak1:PV->Int
 | .tup [.int a,.int b]=>b
 | _=>0
@[simp] theorem bm5 (p:Int×Int):ax7 (pv p)=p.1:=rfl
@[simp] theorem bm6 (p:Int×Int):ak1 (pv p)=p.2:=rfl
theorem as7 (x:Int) (M:List Int):pIn (.int x) (M.map .int)=decide (x∈M):=by
 induction M with
 | nil=>rfl
 | cons a r ih=>
   have:pIn (.int x) ((a::r).map .int)=(eqv (.int a) (.int x)||pIn (.int x) (r.map .int)):=rfl
   rw [this,ih]
   show (decide (a=x)||decide (x∈r))=_
   by_cases h:a=x
   ·subst h;simp
   ·have h':¬x=a:=λz=>h z.symm
    simp [h,h']
section
variable {A:PHp} {Q:PV->PHp->Prop} {E:XP} {n:Nat} {x a b:Int} {M:List Int} {ps:List (Int×Int)}
theorem w_inI (hn:A[n]?=some (.lst (M.map .int))) (q:Q (.bl (decide (x∈M))) A):Wp (oIn (.int x) (.ref n)) A Q E:=a92 hn ⟨rfl,N3 _⟩ (by rw [as7];exact q)
theorem w_inIT (q:Q (.bl (decide (x∈M))) A):Wp (oIn (.int x) (.tup (M.map .int))) A Q E:=bl6 ⟨rfl,N3 _⟩ (by rw [as7];exact q)
theorem w_notInIT (q:Q (.bl (!decide (x∈M))) A):Wp (ac1 (.int x) (.tup (M.map .int))) A Q E:=aW1 ⟨rfl,N3 _⟩ (by rw [as7];exact q)
theorem w_inP (hn:A[n]?=some (.lst (pvs ps))) (q:Q (.bl (decide ((a,b)∈ps))) A):Wp (oIn (.tup [.int a,.int b]) (.ref n)) A Q E:=a92 hn ⟨rfl,an7 _⟩ (by rw [show PV.tup [.int a,.int b]=pv (a,b) from rfl,aH8];exact q)
theorem j9 (l:List Int):plain (.tup (l.map .int))=true:=by
 show (l.map PV.int).all g8=true
 rw [List.all_eq_true];intro x hx;obtain⟨y,_,rfl⟩:=List.mem_map.mp hx;rfl
theorem w_isA {QB:PV->PHp->Prop} {e:ED} {σ:PSt} {t:Ty} (h:Wp (e σ) A (λx A1=>Wp (au7 t x) A1 (λb A2=>QB (.bl b) A2) E) E):Wp (Z5 e t σ) A QB E:=C1 (w_mono h λ_ _ h1=>C1 h1)
theorem w_isTyV {QB:Bool->PHp->Prop} {t:Ty} {x:PV} {b:Bool} (h:au7 t x A=.ok b A) (q:QB b A):Wp (au7 t x) A QB E:=w_eq h q
theorem w_isTyL {QB:Bool->PHp->Prop} {l:List PV} (h:A[n]?=some (.lst l)) (q:QB true A):Wp (au7 .list (.ref n)) A QB E:=C1 (b8 h q)
theorem f7 (l m:List Int):R6 (l.map .int) (m.map .int)=decide (l=m):=by
 have h:=aR6 (l.map .int) (m.map .int) (N3 _)
 have inj:l.map PV.int=m.map PV.int↔l=m:=⟨λz=>by
  have:=congrArg L6 z
  rw [O8,O8] at this
  exact Option.some.inj this,λz=>by rw [z]⟩
 cases e:R6 (l.map .int) (m.map .int) with
 | true=>exact (decide_eq_true (inj.mp (h.mp e))).symm
 | false=>exact (decide_eq_false λz=>by rw [h.mpr (inj.mpr z)] at e;cases e).symm
theorem w_eqT0 {l:List Int} (q:Q (.bl (decide (l=[]))) A):Wp (oEq (.tup (l.map .int)) (.tup [])) A Q E:=bl3 ⟨j9 _,rfl⟩ (by rw [show ([]:List PV)=([]:List Int).map .int from rfl,f7];exact q)
theorem w_neT0 {l:List Int} (q:Q (.bl (!decide (l=[]))) A):Wp (oNe (.tup (l.map .int)) (.tup [])) A Q E:=bl4 ⟨j9 _,rfl⟩ (by rw [show ([]:List PV)=([]:List Int).map .int from rfl,f7];exact q)
theorem w_eqL0 {n k:Nat} {l:List Int} (hn:A[n]?=some (.lst (l.map .int))) (hk:A[k]?=some (.lst [])) (q:Q (.bl (decide (l=[]))) A):Wp (oEq (.ref n) (.ref k)) A Q E:=a91 hn hk ⟨N3 _,rfl⟩ (by rw [show ([]:List PV)=([]:List Int).map .int from rfl,f7];exact q)
theorem w_eqIs {n k:Nat} {l m:List Int} (hn:A[n]?=some (.lst (l.map .int))) (hk:A[k]?=some (.lst (m.map .int))) (q:Q (.bl (decide (l=m))) A):Wp (oEq (.ref n) (.ref k)) A Q E:=a91 hn hk ⟨N3 _,N3 _⟩ (by rw [f7];exact q)
end
section
variable {A:PHp} {E:XP} {σ:PSt} {e e1 e2:ED}
theorem brT {P R:Prop} (h:P):(true=true->P)/\(true=false->R):=⟨λ_=>h,λz=>nomatch z⟩
theorem brNT {P R:Prop} (h:R):((!true)=true->P)/\((!true)=false->R):=⟨λz=>(nomatch z),λ_=>h⟩
theorem brF {P R:Prop} (h:R):(false=true->P)/\(false=false->R):=⟨λz=>(nomatch z),λ_=>h⟩
theorem exL {A:PHp} {n:Nat} {l:List PV} {R:Nat->List PV->Prop} (h:A[n]?=some (.lst l)) (q:R n l):∃n' l',PV.ref n=.ref n'/\A[n']?=some (.lst l')/\R n' l':=⟨n,l,rfl,h,q⟩
theorem exL1 {A:PHp} {n:Nat} {l:List PV} {R:List PV->Prop} (h:A[n]?=some (.lst l)) (q:R l):∃l',A[n]?=some (.lst l')/\R l':=⟨l,h,q⟩
theorem exO {A:PHp} {n c:Nat} {l:List (Nat×PV)} {R:Nat->List (Nat×PV)->Prop} (h:A[n]?=some (.ins c l)) (q:R n l):∃n' l',PV.ref n=.ref n'/\A[n']?=some (.ins c l')/\R n' l':=⟨n,l,rfl,h,q⟩
theorem exO2 {A:PHp} {n c:Nat} {l:List (Nat×PV)} {R:Nat->Nat->List (Nat×PV)->Prop} (h:A[n]?=some (.ins c l)) (q:R n c l):∃n' c' l',PV.ref n=.ref n'/\A[n']?=some (.ins c' l')/\R n' c' l':=⟨n,c,l,rfl,h,q⟩
theorem exF {A:PHp} {n c k:Nat} {l:List (Nat×PV)} {v:PV} {R:PV->Prop} (h:A[n]?=some (.ins c l)) (hv:U7 k l=some v) (q:R v):∃n' c' l' v',PV.ref n=.ref n'/\A[n']?=some (.ins c' l')/\U7 k l'=some v'/\R v':=⟨n,c,l,v,rfl,h,hv,q⟩
theorem exLA {A:PHp} {n:Nat} {l:List PV} {R:Nat->Prop} {R':Prop} (h:A[n]?=some (.lst l)) (q:R n):(∃n' l',PV.ref n=.ref n'/\E7 n' A=.ok l' A/\R n')\/R':=.inl ⟨n,l,rfl,K6 h,q⟩
theorem exTA {l:List PV} {R:List PV->Prop} {R':Prop} (q:R l):R'\/∃l',PV.tup l=.tup l'/\R l':=.inr ⟨l,rfl,q⟩
theorem aW4 {A:PHp} {n:Nat} {l:List PV} (h:A[n]?=some (.ro l)):E7 n A=.ok l A:=by unfold E7;rw [h]
theorem exLC {A:PHp} {n:Nat} {l:List PV} {R:Nat->List PV->Prop} {R':Prop} (h:A[n]?=some (.lst l)) (q:R n l):(∃n' l',PV.ref n=.ref n'/\E7 n' A=.ok l' A/\R n' l')\/R':=.inl ⟨n,l,rfl,K6 h,q⟩
theorem exRC {A:PHp} {n:Nat} {l:List PV} {R:Nat->List PV->Prop} {R':Prop} (h:A[n]?=some (.ro l)) (q:R n l):(∃n' l',PV.ref n=.ref n'/\E7 n' A=.ok l' A/\R n' l')\/R':=.inl ⟨n,l,rfl,aW4 h,q⟩
variable {QI:It->PHp->Prop}
theorem w_iseq (h:Wp (e σ) A (λx A1=>(∃n l,x=.ref n/\E7 n A1=.ok l A1/\QI (.lst n) A1)\/∃l,x=.tup l/\QI (.tup l) A1) E):Wp (Y5 e σ) A QI E:=C1 (w_mono h λx A1 h1=>by
 rcases h1 with ⟨n,l,rfl,h2,q⟩ | ⟨l,rfl,q⟩
 ·exact C1 (w_eq h2 q)
 ·exact q)
theorem w_irng1 (h:Wp (e σ) A (λx A1=>∃n:Nat,x=.int n/\n<=1000000/\QI (.rng 0 n) A1) E):Wp (iRng1 e σ) A QI E:=C1 (w_mono h λx A1 ⟨n,hx,hn,q⟩=>by
 subst hx
 have l1:(n:Int)<=1000000:=Int.ofNat_le.mpr hn
 refine D3 ⟨Int.le_trans (by decide) (Int.natCast_nonneg n),Int.lt_of_le_of_lt l1 (by decide)⟩ (ax5 ?_)
 rw [Int.toNat_natCast];exact q)
theorem w_izip (h:Wp (e1 σ) A (λx A1=>Wp (e2 σ) A1 (λy A2=>Wp (N0 x) A2 (λ_ A3=>Wp (N0 y) A3 (λ_ A4=>QI (.zip x y) A4) E) E) E) E):Wp (a16 e1 e2 σ) A QI E:=
 C1 (w_mono h λ_ _ h1=>C1 (w_mono h1 λ_ _ h2=>C1 (w_mono h2 λ_ _ h3=>C1 h3)))
end
end Ws
local macro_rules | `(tactic| walk_at "st")=>`(tactic| first
 | assumption
 | exact Ws.get_app
 | (refine Ws.get_app_of ?_;walk_at "st")
 | (refine Ws.pre_get (by assumption) ?_;walk_at "st"))
local macro_rules | `(tactic| walk_at "lim")=>`(tactic| first
 | (refine Ws.lim_le ?_;(try simp only [List.length_map,List.length_append,List.length_cons,List.length_nil]);omega)
 | (refine Ws.U6 ?_;(try simp only [List.length_map,List.length_append,List.length_cons,List.length_nil]);omega))
local macro_rules | `(tactic| walk_at "s1")=>`(tactic| first
 | with_reducible refine Ws.w_seq ?_
 | with_reducible refine Ws.w_asg ?_
 | with_reducible refine Ws.w_if ?_
 | with_reducible refine Ws.w_exp ?_
 | with_reducible refine Ws.w_retS ?_
 | with_reducible refine Ws.w_pass ?_
 | with_reducible refine Ws.w_sfld ?_
 | with_reducible refine Ws.w_tval ?_
 | with_reducible refine Ws.w_tand ?_
 | with_reducible refine Ws.w_tor ?_
 | with_reducible refine Ws.w_tnot ?_
 | with_reducible refine Ws.w_bin ?_
 | with_reducible refine Ws.w_and ?_
 | with_reducible refine Ws.w_or ?_
 | with_reducible refine Ws.w_ifE ?_
 | with_reducible refine Ws.w_isN ?_
 | with_reducible refine Ws.w_notN ?_
 | with_reducible refine Ws.w_cons ?_
 | with_reducible refine Ws.w_tup ?_
 | with_reducible refine Ws.w_lst ?_
 | with_reducible refine Ws.w_call ?_
 | with_reducible refine Ws.w_meth ?_
 | with_reducible refine Ws.w_make ?_
 | with_reducible refine Ws.w_fld ?_
 | with_reducible refine Ws.w_len ?_
 | with_reducible refine Ws.w_listOf ?_
 | with_reducible refine Ws.w_tupleOf ?_
 | with_reducible refine Ws.w_cut ?_
 | with_reducible refine Ws.w_lat ?_
 | with_reducible refine Ws.w_append ?_
 | with_reducible refine Ws.w_isA ?_
 | with_reducible refine Ws.w_all ?_
 | with_reducible refine Ws.w_lenSet2 ?_
 | with_reducible refine Ws.w_izip ?_
 | with_reducible refine Ws.w_iseq ?_
 | with_reducible refine Ws.w_irng1 ?_
 | with_reducible refine Ws.w_ienm ?_)
local macro_rules | `(tactic| walk_at "s2")=>`(tactic| first
 | ((with_reducible apply Ws.w_var);(·rfl))
 | with_reducible refine Ws.w_k ?_
 | with_reducible refine Ws.w_true ?_
 | with_reducible refine Ws.w_nil ?_
 | with_reducible refine Ws.w_gname ?_
 | with_reducible refine Ws.w_gnil ?_
 | with_reducible refine Ws.w_gcons ?_
 | ((with_reducible apply Ws.w_gtup);(·rfl))
 | with_reducible refine Ws.w_add ?_
 | ((with_reducible apply Ws.w_mod);(·omega))
 | ((with_reducible apply Ws.w_fdiv);(·omega))
 | with_reducible refine Ws.w_lt ?_
 | with_reducible refine Ws.w_gt ?_
 | with_reducible refine Ws.w_eqI ?_
 | with_reducible refine Ws.w_neI ?_
 | with_reducible refine Ws.w_neB ?_
 | with_reducible refine Ws.w_lno ?_
 | ((with_reducible apply Ws.w_inI);(·walk_at "st"))
 | with_reducible refine Ws.w_inIT ?_
 | with_reducible refine Ws.w_notInIT ?_
 | ((with_reducible apply Ws.w_inP);(·walk_at "st"))
 | ((with_reducible apply Ws.w_isTyL);(·walk_at "st"))
 | ((with_reducible apply Ws.w_isTyV);(·rfl))
 | with_reducible refine Ws.w_eqT0 ?_
 | with_reducible refine Ws.w_neT0 ?_
 | ((with_reducible apply Ws.w_eqL0);(·walk_at "st");(·walk_at "st"))
 | ((with_reducible apply Ws.w_eqIs);(·walk_at "st");(·walk_at "st"))
 | ((with_reducible refine Ws.w_seqT ?_);(try dsimp only);(try rw [List.length_map]))
 | ((with_reducible apply Ws.w_seqL);(·walk_at "st");(try dsimp only);(try rw [List.length_map]))
 | ((with_reducible apply Ws.w_ixL);(·walk_at "st");(·walk_at "ix"))
 | ((with_reducible apply Ws.w_ixT);(·walk_at "ix")))
local macro_rules | `(tactic| walk_at "ix")=>`(tactic| first
 | assumption
 | rfl
 | exact Ws.atl (by omega))
local macro_rules | `(tactic| walk_at "s3")=>`(tactic| first
 | with_reducible refine Ws.brT ?_
 | with_reducible refine Ws.brF ?_
 | with_reducible refine Ws.brNT ?_
 | with_reducible refine⟨_,rfl,?_⟩
 | ((with_reducible apply Ws.exL);(·walk_at "st"))
 | ((with_reducible apply Ws.exL1);(·walk_at "st"))
 | ((with_reducible apply Ws.exO);(·walk_at "st"))
 | ((with_reducible apply Ws.exO2);(·walk_at "st"))
 | ((with_reducible apply Ws.exF);(·walk_at "st");(·rfl))
 | ((with_reducible apply Ws.exLA);(·walk_at "st"))
 | ((with_reducible apply Ws.exLC);(·walk_at "st"))
 | ((with_reducible apply Ws.exRC);(·walk_at "st"))
 | with_reducible apply Ws.exTA
 | ((with_reducible refine And.intro ?h1 ?_);(case h1=>first | walk_at "lim" | omega)))
local macro_rules | `(tactic| walk_at "s")=>`(tactic| (first | walk_at "s1" | walk_at "s2" | walk_at "s3");(try dsimp only [List.set,Ws.an6]))
local macro_rules | `(tactic| walk_at "fn")=>`(tactic| (refine Ws.bo9 (by rfl) ?_;simp only [Ws.start,List.map_cons,List.map_nil,List.length_cons,List.length_nil,Nat.reduceAdd,Nat.reduceSub,List.replicate,List.cons_append,List.nil_append]))
local macro_rules | `(tactic| walk_at "go")=>`(tactic| repeat walk_at "s")
namespace Ws
def L0:Fun:=fn 1 1
 (J3 (Z3 (Z5 (eVar 0) .int) (bd6 (Z5 (eVar 0) .bool))))
def J7:Fun:=fn 2 2
 (J3 (Z3 (J1 L0 (aCons (eVar 1) aNil)) (ap7 oLe oLt (eK (.int 0)) (eVar 1) (eVar 0))))
def G2:Fun:=fn 1 1
 (J3 (Z3 (J1 L0 (aCons (eVar 0) aNil)) (ap7 oLe oLe (eK (.int 2)) (eVar 0) (eK (.int 6)))))
def K8:Fun:=fn 2 2
 (D5 (sIf (tOr (tNot (G9 (Z5 (eVar 1) .tuple))) (G9 (D1 oNe (Z4 (eVar 1)) (eK (.int 2)))))
 (J3 (eK (.bl false)))
 sPass)
 (J3 (Z3 (J1 J7 (aCons (eVar 0) (aCons (D1 oIx (eVar 1) (eK (.int 0))) aNil))) (Z3 (J1 J7 (aCons (eVar 0) (aCons (D1 oIx (eVar 1) (eK (.int 1))) aNil))) (D1 oNe (D1 oIx (eVar 1) (eK (.int 0))) (D1 oIx (eVar 1) (eK (.int 1))))))))
def O5:SD:=
 (sIf (tOr (tNot (G9 (J1 K8 (aCons (eVar 0) (aCons (eVar 3) aNil))))) (G9 (D1 oIn (eVar 3) (ap8 (eVar 1) lNo (lAt (eVar 2))))))
 (J3 (eVar 2))
 sPass)
def L1:SD:=aa0 (bj3 (eVar 1)) (gTup 2 (gCons (gName 2) (gCons (gName 3) gNil))) O5
def E9:Fun:=fn 4 2
 (D5 L1
 (J3 (eK .non)))
def L3:Fun:=fn 3 3
 (D5 (sFld (eVar 0) 6 (eVar 1))
 (D5 (sFld (eVar 0) 7 (eIf (G9 (aK6 (eVar 2))) (g6 aNil) (l9 (eVar 2))))
 (D5 (sFld (eVar 0) 11 (m8 (L5 (eVar 0) 7)))
 (D5 (sFld (eVar 0) 12 (eK (.int 1)))
 (D5 (sFld (eVar 0) 13 al7)
 (D5 (sFld (eVar 0) 14 al7)
 (sFld (eVar 0) 15 al7)))))))
def b9:ED:=O0 (a16 (eVar 0) (ap8 (eVar 0) (lAt (eK (.int 1))) lNo)) (bst [none,none]) (gTup 2 (gCons (gName 0) (gCons (gName 1) gNil))) T1 (D1 oLt (eVar 0) (eVar 1))
def P0:Fun:=fn 1 1
 (J3 (aq5 b9))
def f_are_leaders_c1:ED:=O0 (Y5 (eVar 1)) (bst [none,some 0]) (gName 0) T1 (J1 J7 (aCons (L5 (eVar 1) 0) (aCons (eVar 0) aNil)))
def M6:Fun:=fn 2 2
 (D5 (sIf (tOr (tNot (G9 (Z5 (eVar 1) .list))) (G9 (D1 oEq (eVar 1) (g6 aNil))))
 (J3 (eK (.bl false)))
 sPass)
 (J3 (Z3 (aq5 f_are_leaders_c1) (J1 P0 (aCons (eVar 1) aNil)))))
def Q7:Fun:=fn 1 1
 (J3 (Z3 (J1 L0 (aCons (eVar 0) aNil)) (D1 oGe (eVar 0) (eK (.int 0)))))
def c5:SD:=
 (D5 (sIf (tNot (G9 (J1 Q7 (aCons (aB2 (eVar 3) (eVar 5)) aNil))))
 sNever
 sPass)
 (al6 (eVar 4) (eVar 5) (z0 (eVar 3) (eVar 5))))
def T9:SD:=aa0 (Y5 (L5 (eVar 1) 1)) (gName 5) c5
def N7:Fun:=fn 6 4
 (D5 (sIf (tNot (G9 (J1 M6 (aCons (eVar 1) (aCons (eVar 2) aNil)))))
 sNever
 sPass)
 (D5 (N2 al7 (gName 4))
 (D5 T9
 (D5 (sFld (eVar 0) 3 (eVar 1))
 (D5 (sFld (eVar 0) 4 (l9 (eVar 2)))
 (D5 (sFld (eVar 0) 5 (aB4 (eVar 4)))
 (D5 (sFld (eVar 0) 9 (m8 (eVar 2)))
 (sFld (eVar 0) 10 (eVar 4)))))))))
def N8:Fun:=fn 4 3
 (D5 (sIf (tNot (G9 (J1 G2 (aCons (eVar 1) aNil))))
 sNever
 sPass)
 (D5 (N2 (J1 E9 (aCons (eVar 1) (aCons (eVar 2) aNil))) (gName 3))
 (D5 (sIf (G9 (au6 (eVar 3)))
 sNever
 sPass)
 (D5 (sFld (eVar 0) 0 (eVar 1))
 (sFld (eVar 0) 1 (m3 (eVar 2)))))))
def f_is_chain_c1:ED:=O0 (Y5 (eVar 2)) (bst [none,some 0]) (gName 0) T1 (J1 J7 (aCons (L5 (eVar 1) 0) (aCons (eVar 0) aNil)))
def f_is_chain_c2:ED:=O0 (a16 (eVar 2) (ap8 (eVar 2) (lAt (eK (.int 1))) lNo)) (bst [none,some 0]) (gName 0) T1 (D1 oIn (eVar 0) (L5 (eVar 1) 1))
def Q8:Fun:=fn 3 3
 (D5 (sIf (tOr (G9 (D1 oEq (eVar 2) (f9 aNil))) (G9 (D1 ac1 (D1 oIx (eVar 2) (eK (.int (-1)))) (eVar 1))))
 (J3 (eK (.bl false)))
 sPass)
 (D5 (sIf (tOr (G9 (D1 oLt (ad1 (eVar 2)) (Z4 (eVar 2)))) (tNot (G9 (aq5 f_is_chain_c1))))
 (J3 (eK (.bl false)))
 sPass)
 (J3 (aq5 f_is_chain_c2))))
def W6:Fun:=fn 2 2
 (J3 (Z3 (J1 K8 (aCons (L5 (eVar 0) 0) (aCons (eVar 1) aNil))) (D1 oIn (eVar 1) (L5 (eVar 0) 1))))
def W8:ED:=O0 (Y5 (eVar 1)) (bst [none,some 0]) (gName 0) T1 (J1 J7 (aCons (L5 (L5 (eVar 1) 3) 0) (aCons (eVar 0) aNil)))
def M7:Fun:=fn 2 2
 (D5 (sIf (tOr (tNot (G9 (Z5 (eVar 1) .tuple))) (tNot (G9 (aq5 W8))))
 (J3 (eK (.bl false)))
 sPass)
 (J3 (J1 Q8 (aCons (L5 (eVar 0) 3) (aCons (L5 (eVar 0) 9) (aCons (eVar 1) aNil))))))
def P1:Fun:=fn 2 2
 (D5 (sIf (tOr (tNot (G9 (Z5 (eVar 1) .tuple))) (tOr (G9 (D1 oLt (Z4 (eVar 1)) (eK (.int 2)))) (tNot (G9 (J1 W6 (aCons (L5 (eVar 0) 3) (aCons (D1 oIx (eVar 1) (eK (.int 1))) aNil)))))))
 (J3 (eK (.bl false)))
 sPass)
 (D5 (sIf (G9 (D1 oEq (Z4 (eVar 1)) (eK (.int 2))))
 (J3 (D1 oEq (D1 oIx (eVar 1) (eK (.int 0))) (eK (.str "lay"))))
 sPass)
 (D5 (sIf (tOr (G9 (D1 oNe (Z4 (eVar 1)) (eK (.int 3)))) (G9 (D1 oNe (D1 oIx (eVar 1) (eK (.int 0))) (eK (.str "say")))))
 (J3 (eK (.bl false)))
 sPass)
 (J3 (Z3 (J1 M7 (aCons (eVar 0) (aCons (D1 oIx (eVar 1) (eK (.int 2))) aNil))) (D1 oEq (D1 oIx (D1 oIx (eVar 1) (eK (.int 2))) (eK (.int 0))) (D1 oIx (D1 oIx (eVar 1) (eK (.int 1))) (eK (.int 1)))))))))
def J4:Fun:=fn 1 1
 (sFld (eVar 0) 12 (D1 Z2 (L5 (eVar 0) 12) (eK (.int 1))))
def f_Ledger_take_lay:Fun:=fn 2 2
 (D5 (sIf (G9 (aB1 (D1 oIx (eVar 1) (eK (.int 1))) (L5 (eVar 0) 13)))
 sNever
 sPass)
 (al6 (L5 (eVar 0) 13) (D1 oIx (eVar 1) (eK (.int 1))) (L5 (eVar 0) 12)))
def P7:Fun:=fn 2 2
 (J3 (z0 (L5 (eVar 0) 10) (eVar 1)))
def J8:Fun:=fn 3 3
 (J3 (D1 oGt (L5 (eVar 0) 12) (D1 Z2 (O3 1 P7 (L5 (eVar 0) 6) (aCons (eVar 1) aNil)) (Z4 (eVar 2)))))
def E3:Fun:=fn 2 2
 (J3 (Z3 (aB1 (eVar 1) (L5 (eVar 0) 13)) (D1 oLt (z0 (L5 (eVar 0) 13) (eVar 1)) (L5 (eVar 0) 12))))
def E4:Fun:=fn 2 2
 (J3 (Z3 (aB1 (eVar 1) (L5 (eVar 0) 15)) (D1 oLt (z0 (L5 (eVar 0) 15) (eVar 1)) (L5 (eVar 0) 12))))
def P8:SD:=
 (N2 (ap8 (eVar 2) (lAt (eK (.int 1))) lNo) (gName 2))
def M0:SD:=aq0 (tAnd (G9 (D1 oNe (eVar 2) (f9 aNil))) (G9 (D1 oIn (D1 oIx (eVar 2) (eK (.int 0))) (L5 (eVar 0) 11)))) P8
def G8:Fun:=fn 3 2
 (D5 (N2 (ap8 (eVar 1) (lAt (eK (.int 1))) lNo) (gName 2))
 (D5 M0
 (J3 (eOr (D1 oEq (eVar 2) (f9 aNil)) (O3 2 E4 (eVar 0) (aCons (eVar 2) aNil))))))
def f_Ledger_take_say:Fun:=fn 4 2
 (D5 (N2 (D1 oIx (eVar 1) (eK (.int 1))) (gName 2))
 (D5 (N2 (D1 oIx (eVar 1) (eK (.int 2))) (gName 3))
 (D5 (sIf (tNot (G9 (O3 2 E3 (eVar 0) (aCons (eVar 2) aNil))))
 sNever
 sPass)
 (D5 (sIf (G9 (O3 2 J8 (eVar 0) (aCons (eVar 2) (aCons (eVar 3) aNil))))
 sNever
 sPass)
 (D5 (sIf (tNot (G9 (O3 2 G8 (eVar 0) (aCons (eVar 3) aNil))))
 sNever
 sPass)
 (D5 (Y0 (m5 (t6 (L5 (eVar 0) 14) (eVar 2) (g6 aNil)) (f9 (aCons (L5 (eVar 0) 12) (aCons (eVar 3) aNil)))))
 (Y0 (t6 (L5 (eVar 0) 15) (eVar 3) (L5 (eVar 0) 12)))))))))
def G4:Fun:=fn 2 2
 (D5 (sIf (tNot (G9 (J1 P1 (aCons (L5 (eVar 0) 6) (aCons (eVar 1) aNil)))))
 sNever
 sPass)
 (sIf (G9 (D1 oEq (D1 oIx (eVar 1) (eK (.int 0))) (eK (.str "lay"))))
 (Y0 (O3 2 f_Ledger_take_lay (eVar 0) (aCons (eVar 1) aNil)))
 (Y0 (O3 2 f_Ledger_take_say (eVar 0) (aCons (eVar 1) aNil)))))
def M8:Fun:=fn 2 2
 (J3 (l9 (aB3 (L5 (eVar 0) 14) (eVar 1) (g6 aNil))))
def K5:ED:=O0 (Y5 (O3 2 M8 (eVar 0) (aCons (eVar 1) aNil))) (bst [none,none]) (gTup 2 (gCons (gName 0) (gCons (gName 1) gNil))) T1 (D1 oIx (eVar 1) (eK (.int (-1))))
def f_Ledger_has_all_words_c2:ED:=O0 (Y5 (L5 (L5 (eVar 0) 6) 9)) (bst [none,some 2]) (gName 0) T1 (D1 oIn (eVar 0) (eVar 1))
def E5:Fun:=fn 3 2
 (D5 (N2 K5 (gName 2))
 (J3 (aq5 f_Ledger_has_all_words_c2)))
def J5:Fun:=fn 1 1
 (J3 (ad4 (L5 (eVar 0) 13)))
def U0:ED:=O0 (Y5 (O3 2 J5 (eVar 0) aNil)) (bst [none,some 0]) (gName 0) (G9 (O3 2 E5 (eVar 1) (aCons (eVar 0) aNil))) (eVar 0)
def K7:Fun:=fn 1 1
 (J3 U0)
def L4:Fun:=fn 2 2
 (D5 (sIf (G9 (D1 oLt (eVar 1) (Z4 (eVar 0))))
 (J3 (D1 oIx (eVar 0) (eVar 1)))
 sPass)
 (J3 (eK (.int 0))))
def U1 (rec:Fun):ED:=O0 (iRng1 (Z4 (eVar 1))) (bst [none,some 0,some 1]) (gName 0) T1 (J1 rec (aCons (D1 oIx (eVar 1) (eVar 0)) (aCons (D1 oIx (eVar 2) (eVar 0)) aNil)))
def C8 (rec:Fun):Fun:=fn 2 2
 (D5 (sIf (G9 (aK6 (eVar 1)))
 (J3 (aK6 (eVar 0)))
 sPass)
 (D5 (sIf (G9 (Z5 (eVar 1) .bool))
 (J3 (Z3 (Z5 (eVar 0) .bool) (D1 oEq (eVar 0) (eVar 1))))
 sPass)
 (D5 (sIf (G9 (Z5 (eVar 1) .int))
 (J3 (Z3 (Z5 (eVar 0) .int) (Z3 (bd6 (Z5 (eVar 0) .bool)) (D1 oEq (eVar 0) (eVar 1)))))
 sPass)
 (D5 (sIf (G9 (aq6 (eVar 1)))
 (J3 (Z3 (aq6 (eVar 0)) (D1 oEq (eVar 0) (eVar 1))))
 sPass)
 (D5 (sIf (tOr (G9 (D1 oNe (Z5 (eVar 1) .tuple) (Z5 (eVar 0) .tuple))) (G9 (D1 oNe (Z5 (eVar 1) .list) (Z5 (eVar 0) .list))))
 (J3 (eK (.bl false)))
 sPass)
 (D5 (sIf (G9 (D1 oNe (Z4 (eVar 0)) (Z4 (eVar 1))))
 (J3 (eK (.bl false)))
 sPass)
 (J3 (aq5 (U1 rec)))))))))
def V0:Fun:=λ_=>stuck
def i4:Fun:=C8 V0
def i5:Fun:=C8 i4
def i6:Fun:=C8 i5
def i7:Fun:=C8 i6
def c6:Fun:=C8 i7
def J6:Fun:=fn 3 2
 (D5 (N2 (D1 ap5 (D1 aR5 (D1 Z2 (D1 Z2 (eVar 0) (D1 aR5 (eK (.int 7919)) (eVar 1))) (eK (.int 1))) (eK (.int 48271))) (eK (.int 2147483647))) (gName 2))
 (J3 (D1 ap5 (D1 aR5 (eVar 2) (D1 Z2 (D1 au5 (eVar 2) (eK (.int 1009))) (eK (.int 69621)))) (eK (.int 2147483647)))))
def V1:ED:=O0 (Y5 (eVar 0)) (bst [none,none,some 4]) (gTup 2 (gCons (gName 0) (gCons (gName 1) gNil))) (tAnd (G9 (D1 oEq (eVar 0) (D1 oIx (eVar 2) (eK (.int (-1)))))) (G9 (D1 ac1 (eVar 1) (eVar 2)))) (D1 Z2 (eVar 2) (f9 (aCons (eVar 1) aNil)))
def f_law_ways_b2:SD:=
 (N2 (D1 Z2 (eVar 3) V1) (gName 3))
def V2:SD:=aa0 (Y5 (eVar 1)) (gName 4) f_law_ways_b2
def i8:SD:=
 (D5 (N2 (D1 Z2 (eVar 2) (eVar 1)) (gName 2))
 (D5 (N2 (g6 aNil) (gName 3))
 (D5 V2
 (N2 (eVar 3) (gName 1)))))
def V3:SD:=aq0 (G9 (D1 oNe (eVar 1) (g6 aNil))) i8
def Q9:Fun:=fn 5 2
 (D5 (N2 (g6 aNil) (gName 2))
 (D5 V3
 (J3 (eVar 2))))
def Y2:ED:=O0 (Y5 (J1 Q9 (aCons (eVar 0) (aCons (g6 (aCons (f9 (aCons (eVar 2) aNil)) aNil)) aNil)))) (bst [none,some 1]) (gName 0) (G9 (D1 oIn (D1 oIx (eVar 0) (eK (.int (-1)))) (eVar 1))) (eVar 0)
def N9:Fun:=fn 3 3
 (J3 Y2)
def P2:Fun:=fn 6 2
 (D5 (N2 (eK (.str "none")) (gName 2))
 (D5 (N2 (eVar 1) (gName 3))
 (D5 (N2 (eK (.bl true)) (gName 4))
 (D5 (N2 (D1 oIx (g6 (aCons (eK (.str "none")) (aCons (eK (.str "odd")) aNil))) (aR9 (au6 (O3 2 G4 (eVar 0) (aCons (eVar 1) aNil))))) (gName 2))
 (D5 (sIf (tOr (G9 (D1 oNe (eVar 3) (eVar 1))) (tNot (G9 (eVar 4))))
 (J3 (eK (.str "odd")))
 sPass)
 (J3 (eVar 2)))))))
def ag7:ED:=O0 (iRng1 (eVar 2)) (bst [none,some 4]) (gName 0) (G9 (D1 oNe (eVar 0) (eVar 1))) (f9 (aCons (eVar 1) (aCons (eVar 0) aNil)))
def f_law_b1:SD:=
 (N2 (D1 Z2 (eVar 3) ag7) (gName 3))
def ag8:SD:=aa0 (iRng1 (eVar 2)) (gName 4) f_law_b1
def ag9:ED:=O0 (iRng1 (eVar 2)) (bst [none,some 1]) (gName 0) T1 (f9 (aCons (J1 J6 (aCons (eVar 1) (aCons (D1 Z2 (eK (.int 10)) (eVar 0)) aNil))) (aCons (eVar 0) aNil)))
def ah0:ED:=O0 (Y5 (eVar 5)) (bst [none,none]) (gTup 2 (gCons (gName 0) (gCons (gName 1) gNil))) T1 (eVar 1)
def ah1:ED:=O0 (Y5 (eVar 3)) (bst [none]) (gName 0) T1 (f9 (aCons (eVar 0) (aCons (eK (.int 90)) aNil)))
def f_law_b2:SD:=
 (Y0 (O3 2 G4 (eVar 7) (aCons (f9 (aCons (eK (.str "lay")) (aCons (eVar 8) aNil))) aNil)))
def ah2:SD:=aa0 (Y5 (eVar 3)) (gName 8) f_law_b2
def ah3:ED:=O0 (Y5 (eVar 3)) (bst [none]) (gName 0) T1 (f9 (aCons (eVar 0) (aCons (g6 aNil) aNil)))
def f_law_b4:SD:=
 (Y0 (O3 2 J4 (eVar 7) aNil))
def ah4:SD:=aa0 (iRng1 (D1 oIx (g6 (aCons (eK (.int 0)) (aCons (eK (.int 1)) (aCons (eK (.int 0)) (aCons (eK (.int 2)) aNil))))) (D1 ap5 (eVar 10) (eK (.int 4))))) (gName 11) f_law_b4
def ah5:ED:=O0 (Y5 (eVar 3)) (bst [none,some 9,some 5]) (gName 0) (G9 (D1 oEq (z0 (eVar 1) (eVar 0)) (eVar 2))) (eVar 0)
def ah6:SD:=
 (D5 (N2 (J1 J6 (aCons (eVar 1) (aCons (eK (.int 2)) aNil))) (gName 10))
 (D5 ah4
 (D5 (N2 (D1 oIx (eVar 3) (D1 ap5 (D1 au5 (eVar 10) (eK (.int 4))) (Z4 (eVar 3)))) (gName 8))
 (D5 (N2 (J1 N9 (aCons (eVar 3) (aCons (eVar 5) (aCons (D1 oIx (eVar 8) (eK (.int 1))) aNil)))) (gName 12))
 (D5 (N2 (D1 oIx (eVar 12) (D1 ap5 (D1 au5 (eVar 10) (eK (.int 100))) (Z4 (eVar 12)))) (gName 13))
 (D5 (sIf (G9 (D1 oNe (J1 P2 (aCons (eVar 7) (aCons (f9 (aCons (eK (.str "say")) (aCons (eVar 8) (aCons (eVar 13) aNil)))) aNil))) (eK (.str "none"))))
 (J3 (eK (.bl false)))
 sPass)
 (D5 (al6 (eVar 9) (eVar 8) (t9 (D1 Z2 (z0 (eVar 9) (eVar 8)) (g6 (aCons (D1 oIx (eVar 13) (eK (.int (-1)))) aNil)))))
 (D5 (N2 (O3 2 K7 (eVar 7) aNil) (gName 14))
 (D5 (sIf (tNot (G9 (J1 c6 (aCons (eVar 14) (aCons ah5 aNil)))))
 (J3 (eK (.bl false)))
 sPass)
 (Y0 (m5 (eVar 14) (f9 (aCons (eK (.int 9)) (aCons (eK (.int 9)) aNil))))))))))))))
def f_law_l3:SD:=aa0 (Y5 (ap8 (eVar 0) (lAt (eK (.int 1))) (lAt (eK (.int 17))))) (gName 1) ah6
def aH9:Fun:=fn 15 1
 (D5 (N2 (J1 L4 (aCons (eVar 0) (aCons (eK (.int 0)) aNil))) (gName 1))
 (D5 (N2 (D1 Z2 (eK (.int 2)) (D1 ap5 (J1 J6 (aCons (eVar 1) (aCons (eK (.int 0)) aNil))) (eK (.int 3)))) (gName 2))
 (D5 (N2 (g6 aNil) (gName 3))
 (D5 ag8
 (D5 (N2 (ap8 (m3 ag9) lNo (lAt (D1 Z2 (eK (.int 1)) (D1 ap5 (J1 J6 (aCons (eVar 1) (aCons (eK (.int 1)) aNil))) (eK (.int 3)))))) (gName 5))
 (D5 (N2 (m3 ah0) (gName 5))
 (D5 (N2 (n0 ah1) (gName 6))
 (D5 (N2 (ac3 2 L3 (aCons (ac3 1 N7 (aCons (ac3 0 N8 (aCons (eVar 2) (aCons (eVar 3) aNil))) (aCons (eVar 5) (aCons (eVar 6) aNil)))) (aCons (ad2 (eVar 2)) aNil))) (gName 7))
 (D5 ah2
 (D5 (Y0 (O3 2 J4 (eVar 7) aNil))
 (D5 (N2 (n0 ah3) (gName 9))
 (D5 f_law_l3
 (J3 (D1 oEq (Z4 (O3 2 J5 (eVar 7) aNil)) (Z4 (eVar 3))))))))))))))))
@[simp] theorem a93 (i:Int) (A:PHp):L0 [.int i] A=.ok (.bl true) A:=by simp [L0]
theorem is_hand_eq (n h:Int) (A:PHp):J7 [.int n,.int h] A=.ok (.bl (decide (0<=h/\h<n))) A:=by
 by_cases h0:0<=h <;> simp [J7,h0]
theorem as8 (n:Int) (A:PHp):G2 [.int n] A=.ok (.bl (decide (2<=n/\n<=6))) A:=by
 by_cases h0:2<=n <;> simp [G2,h0]
def good (n:Int) (p:Int×Int):Prop:=(0<=p.1/\p.1<n)/\(0<=p.2/\p.2<n)/\p.1≠p.2
instance (n:Int) (p:Int×Int):Decidable (good n p):=by unfold good;infer_instance
theorem i9 (n:Int) (p:Int×Int) (A:PHp):K8 [.int n,pv p] A=.ok (.bl (decide (good n p))) A:=by
 by_cases h0:0<=p.1/\p.1<n <;> by_cases h1:0<=p.2/\p.2<n <;> simp [K8,pv,good,atI,ixN,plain,eqv,is_hand_eq,h0,h1]
structure L8 (n:Int) (ps:List (Int×Int)):Prop where
 lo:2<=n
 hi:n<=6
 good:∀p∈ps,good n p
 nd:ps.Nodup
 len:ps.length<64
theorem aW5 {α:Type} (xs:List α) (i:Nat):cut xs none (some (i:Int))=xs.take i:=by
 unfold cut S0
 simp only [List.drop_zero,Nat.sub_zero]
 rw [if_neg (by omega)]
 rw [show (min (i:Int) (xs.length:Int)).toNat=min i xs.length by omega,List.take_eq_take_iff]
 omega
theorem ah7 {n:Int} {ps:List (Int×Int)} (W:L8 n ps) {A:PHp} {r:Nat} (hr:A[r]?=some (.lst (pvs ps))) :
 ∃A',E9 [.int n,.ref r] A=.ok .non A'/\A<+:A':=by
 have hl:Comes (L1 [some (.int n),some (.ref r),none,none] A) (λσ A'=>A<+:A') (λ_ _=>False):=by
  unfold L1
  refine (a15 (l:=pvs ps) (a:=r) (A1:=A) (by simp [hr]) (λi σ A'=>A<+:A'/\∃x y,σ=[some (.int n),some (.ref r),x,y]) (λ_ _=>False) ⟨List.prefix_refl _,_,_,rfl⟩ ?_ ?_).mono (λ_ _ h=>h.1) (λ_ _ h=>h)
  ·rintro i σ A' ⟨hp,_⟩
   simp [pre_get hp hr]
  ·rintro i v σ A' hv ⟨hp,x,y,rfl⟩
   have hr':=pre_get hp hr
   obtain⟨p,hp1,rfl⟩:∃p,ps[i]?=some p/\v=pv p:=by
    simp only [pvs,List.getElem?_map] at hv
    cases e:ps[i]? with
    | none=>rw [e] at hv;cases hv
    | some p=>rw [e] at hv;exact⟨p,rfl,(Option.some.inj hv).symm⟩
   have hmem:p∈ps:=List.mem_of_getElem? hp1
   have hg:=W.good p hmem
   have hnin:p∉ps.take i:=by
    intro hm
    have hlt:=(List.getElem?_eq_some_iff.mp hp1).1
    obtain⟨j,hj,e⟩:=List.mem_iff_getElem.mp hm
    rw [List.length_take] at hj
    rw [List.getElem_take] at e
    have e2:ps[i]=p:=(List.getElem?_eq_some_iff.mp hp1).2
    exact List.pairwise_iff_getElem.mp W.nd j i (by omega) hlt (by omega) (e.trans e2.symm)
   have hc:cut (pvs ps) none (some (i:Int))=pvs (ps.take i):=by rw [aW5];simp [pvs,List.map_take]
   refine Turns.nx (σ:=[some (.int n),some (.ref r),some (.int i),some (pv p)]) (A:=A'++[.lst (pvs (ps.take i))]) ?_ ⟨K3 hp,_,_,rfl⟩
   simp [O5,i9,hg,hr',hc,aW3,an7,aH8,hnin]
 obtain⟨σ,A',e,h⟩:=hl.end
 refine⟨A',?_,h⟩
 simp [E9,e]
def l2 (p:Int×Int):List Int:=[p.1,p.2]
def ltP (p q:Int×Int):Bool:=G3 (l2 p) (l2 q)
def srt (ps:List (Int×Int)):List (Int×Int):=G6 ltP ps
theorem an8 {α β:Type} (f:α->β) (lt:β->β->Bool) (a:α):∀l:List α,g9 lt (f a) (l.map f)=(g9 (λx y=>lt (f x) (f y)) a l).map f
 | []=>rfl
 | b::r=>by
   have ih:=an8 f lt a r
   simp only [List.map_cons,g9]
   split
   ·rw [ih];rfl
   ·rfl
theorem k7 {α β:Type} (f:α->β) (lt:β->β->Bool):∀l:List α,G6 lt (l.map f)=(G6 (λx y=>lt (f x) (f y)) l).map f
 | []=>rfl
 | a::r=>by
   simp only [List.map_cons,G6]
   rw [k7 f lt r,an8]
theorem aD3 (ps:List (Int×Int)):pvs ps=(ps.map l2).map λt=>PV.tup (t.map .int):=by
 simp [pvs,pv,l2]
theorem ah8 {ps:List (Int×Int)} {A:PHp} (h:ps.length<64):U4 (pvs ps) A=.ok (pvs (srt ps)) A:=by
 rw [aD3,aq4 (by simpa using h) (by intro t ht;obtain⟨p,_,rfl⟩:=List.mem_map.mp ht;simp [l2]),k7,aD3]
 rfl
theorem M4 (ps:List (Int×Int)):(srt ps).Perm ps:=N4 _ _
structure WebAt (A:PHp) (w r:Nat) (n:Int) (ps:List (Int×Int)):Prop where
 ob:A[w]?=some (.ins 0 [(0,.int n),(1,.ref r)])
 ls:A[r]?=some (.lst (pvs (srt ps)))
theorem WebAt.mono {A B:PHp} {w r:Nat} {n:Int} {ps:List (Int×Int)} (h:WebAt A w r n ps) (e:A<+:B):WebAt B w r n ps:=⟨pre_get e h.ob,pre_get e h.ls⟩
theorem aW6 {n:Int} {ps:List (Int×Int)} (W:L8 n ps) {A B:PHp} {w q:Nat} (hA:A<+:B) (hw:A.length<=w) (ho:B[w]?=some (.ins 0 [])) (hq:B[q]?=some (.lst (pvs ps))) :
 ∃B' r,N8 [.ref w,.int n,.ref q] B=.ok .non B'/\A<+:B'/\WebAt B' w r n ps/\w<r:=by
 obtain⟨B1,e1,h1⟩:=ah7 W hq
 have ho1:=pre_get h1 ho
 have hq1:=pre_get h1 hq
 have hwl:=G1 ho1
 have nqw:q≠w:=by rintro rfl;rw [hq] at ho;cases ho
 have hq2:(B1.set w (.ins 0 [(0,.int n)]))[q]?=some (.lst (pvs ps)):=by rw [D6 nqw];exact hq1
 have ho2:(B1.set w (.ins 0 [(0,.int n)]))[w]?=some (.ins 0 [(0,.int n)]):=get_set ho1
 have ho3:=get_app_of (o:=PO.lst (pvs (srt ps))) ho2
 refine⟨((B1.set w (PO.ins 0 [(0,.int n)]))++[PO.lst (pvs (srt ps))]).set w (PO.ins 0 [(0,.int n),(1,.ref B1.length)]),B1.length,?_,?_,⟨get_set ho3,?_⟩,hwl⟩
 ·simp [N8,as8,W.lo,W.hi,e1,ho1,ho2,hq2,ho3,ah8 W.len]
 ·exact aa5 (K3 (aa5 (hA.trans h1) hw)) hw
 ·rw [D6 (Nat.ne_of_gt hwl)]
  have:=get_app (A:=B1.set w (.ins 0 [(0,.int n)])) (o:=.lst (pvs (srt ps)))
  rwa [List.length_set] at this
theorem aW7 {n:Int} {ps:List (Int×Int)} (W:L8 n ps) {A:PHp} {q:Nat} (hq:A[q]?=some (.lst (pvs ps))) :
 ∃A' r,N8 [.ref A.length,.int n,.ref q] (A++[.ins 0 []])=.ok .non A'/\A<+:A'/\WebAt A' A.length r n ps/\A.length<r:=
 aW6 W (List.prefix_append _ _) (Nat.le_refl _) get_app (get_app_of hq)
theorem a59 {A:PHp} {a:Nat} {ns:List Int} (h:A[a]?=some (.ro (ns.map .int))) (k:Nat):∃c,L4 [.ref a,.int k] A=.ok (.int c) A:=by
 by_cases hk:k<ns.length
 ·refine⟨ns[k],?_⟩
  have hk':(k:Int)<(ns.length:Int):=by omega
  simp [L4,h,hk',hk,atI,ixN]
 ·refine⟨0,?_⟩
  have hk':¬(k:Int)<(ns.length:Int):=by omega
  simp [L4,h,hk',hk]
theorem aD4 {α:Type} {xs:List α} {j:Nat} (h:j<xs.length):atI xs (j:Int)=some xs[j]:=by
 unfold atI ixN
 rw [if_pos (by omega),if_pos (by omega)]
 simp [h]
theorem ax8 {α:Type} (xs:List α) (i:Nat):cut xs (some (i:Int)) none=xs.drop i:=by
 unfold cut S0
 simp only
 rw [if_neg (by omega)]
 rw [show (min (i:Int) (xs.length:Int)).toNat=min i xs.length by omega]
 by_cases h:i<=xs.length
 ·rw [Nat.min_eq_left h,List.take_of_length_le (by simp)]
 ·rw [Nat.min_eq_right (by omega),List.drop_length,List.drop_eq_nil_of_le (by omega)];simp
def H9 (N:Nat):List Int:=(List.range N).map λ(k:Nat)=>(k:Int)
theorem mem_hands {N:Nat} {x:Int}:x∈H9 N↔0<=x/\x<N:=by
 unfold H9
 rw [List.mem_map]
 constructor
 ·rintro⟨k,hk,rfl⟩
  have:=List.mem_range.mp hk
  omega
 ·rintro⟨h1,h2⟩
  exact⟨x.toNat,List.mem_range.mpr (by omega),by omega⟩
theorem hands_len (N:Nat):(H9 N).length=N:=by simp [H9]
theorem c7 (N:Nat):(H9 N).Pairwise (·< ·):=by
 unfold H9
 rw [List.pairwise_map]
 exact List.pairwise_lt_range.imp λh=>by omega
theorem aW8 (N:Nat):(H9 N).Nodup:=(c7 N).imp λh z=>by omega
theorem aW9 {N i:Nat} (h:i<N):(H9 N)[i]?=some (i:Int):=by simp [H9,h]
section
variable {A:PHp} {Q:PV->PHp->Prop} {E:XP} {σ:PSt} {i j:Int} {n k:Nat} {e e1 e2 e3 e4:ED}
abbrev DT:=List (List Int×PV)
variable {m:DT}
theorem c8 {QM:DT->PHp->Prop} (h:A[n]?=some (.dT m)) (q:QM m A):Wp (Q0 n) A QM E:=w_eq (a:=m) (by unfold Q0;rw [h]) q
theorem w_tnew (q:Q (.ref A.length) (A++[.dT []])):Wp (al7 σ) A Q E:=q
theorem w_tin (h:Wp (e1 σ) A (λk A1=>Wp (e2 σ) A1 (λx A2=>∃n i m,x=.ref n/\O1 k=some i/\A2[n]?=some (.dT m)/\Q (.bl (K0 m i).isSome) A2) E) E):Wp (aB1 e1 e2 σ) A Q E:=
 C1 (w_mono h λk A1 h1=>C1 (w_mono h1 λx A2 ⟨n,i,m,hx,hk,hn,q⟩=>by subst hx;rw [hk];exact C1 (c8 hn q)))
theorem w_tget (h:Wp (e1 σ) A (λx A1=>Wp (e2 σ) A1 (λk A2=>∃n i m v,x=.ref n/\O1 k=some i/\A2[n]?=some (.dT m)/\K0 m i=some v/\Q v A2) E) E):Wp (z0 e1 e2 σ) A Q E:=
 C1 (w_mono h λx A1 h1=>C1 (w_mono h1 λk A2 ⟨n,i,m,v,hx,hk,hn,hv,q⟩=>by subst hx;rw [hk];exact C1 (c8 hn (by rw [hv];exact q))))
theorem w_tget1 (h:Wp (e1 σ) A (λx A1=>∃n m0,x=.ref n/\A1[n]?=some (.dT m0)/\Wp (e2 σ) A1 (λk A2=>∃i m,O1 k=some i/\A2[n]?=some (.dT m)/\Q ((K0 m i).getD .non) A2) E) E):Wp (aB2 e1 e2 σ) A Q E:=
 C1 (w_mono h λx A1 ⟨n,m0,hx,h0,h1⟩=>by
  subst hx
  exact C1 (c8 h0 (C1 (w_mono h1 λk A2 ⟨i,m,hk,hn,q⟩=>by rw [hk];exact C1 (c8 hn q)))))
theorem w_tget2 (h:Wp (e1 σ) A (λx A1=>∃n m0,x=.ref n/\A1[n]?=some (.dT m0)/\Wp (e2 σ) A1 (λk A2=>Wp (e3 σ) A2 (λv A3=>∃i m,O1 k=some i/\A3[n]?=some (.dT m)/\Q ((K0 m i).getD v) A3) E) E) E):Wp (aB3 e1 e2 e3 σ) A Q E:=
 C1 (w_mono h λx A1 ⟨n,m0,hx,h0,h1⟩=>by
  subst hx
  exact C1 (c8 h0 (C1 (w_mono h1 λk A2 h2=>C1 (w_mono h2 λv A3 ⟨i,m,hk,hn,q⟩=>by rw [hk];exact C1 (c8 hn q))))))
theorem w_tput {QF:Fl->PHp->Prop} (h:Wp (e3 σ) A (λv A1=>Wp (e1 σ) A1 (λx A2=>Wp (e2 σ) A2 (λk A3=>∃n i m,x=.ref n/\O1 k=some i/\A3[n]?=some (.dT m)/\m.length<LIM/\QF (.nx σ) (A3.set n (.dT (R4 m i v)))) E) E) E):Wp (al6 e1 e2 e3 σ) A QF E:=
 C1 (w_mono h λv A1 h1=>C1 (w_mono h1 λx A2 h2=>C1 (w_mono h2 λk A3 ⟨n,i,m,hx,hk,hn,hm,q⟩=>by
  subst hx;rw [hk]
  exact C1 (c8 hn (D3 hm (C1 (w_eq (a:=()) rfl q)))))))
theorem w_tcopy (h:Wp (e σ) A (λx A1=>∃n m,x=.ref n/\A1[n]?=some (.dT m)/\((m.map (·.1)).Nodup/\∀p∈m,p.1∈small)/\Q (.ref A1.length) (A1++[.dT m])) E):Wp (aB4 e σ) A Q E:=
 C1 (w_mono h λx A1 ⟨n,m,hx,h0,h1,q⟩=>by subst hx;exact C1 (c8 h0 (D3 h1 q)))
theorem w_eqS {x y:PySem.Str} (q:Q (.bl (decide (x=y))) A):Wp (oEq (.str x) (.str y)) A Q E:=bl5 rfl rfl q
theorem w_neS {x y:PySem.Str} (q:Q (.bl (!decide (x=y))) A):Wp (oNe (.str x) (.str y)) A Q E:=w_neP rfl rfl q
theorem w_intB (h:Wp (e σ) A (λx A1=>∃b:Bool,x=.bl b/\Q (.int (if b then 1 else 0)) A1) E):Wp (aR9 e σ) A Q E:=C1 (w_mono h λx A1 ⟨b,hx,q⟩=>by subst hx;exact q)
theorem w_isStr (h:Wp (e σ) A (λx A1=>Wp (ad3 x) A1 (λb A2=>Q (.bl b) A2) E) E):Wp (aq6 e σ) A Q E:=C1 (w_mono h λ_ _ h1=>C1 h1)
theorem w_sorted (h:Wp (e σ) A (λx A1=>∃n l l',x=.ref n/\A1[n]?=some (.lst l)/\U4 l A1=.ok l' A1/\Q (.ref A1.length) (A1++[.lst l'])) E):Wp (m3 e σ) A Q E:=C1 (w_mono h λx A1 ⟨n,l,l',hx,h0,h1,q⟩=>by subst hx;exact C1 (R1 h0 (C1 (w_eq h1 q))))
end
theorem o9 {m:DT} {i:List Int} {v:PV} (h:i∉m.map (·.1)):R4 m i v=m++[(i,v)]:=by
 unfold R4
 rw [if_neg]
 rw [List.any_eq_true]
 rintro⟨p,hp,hd⟩
 exact h (List.mem_map.mpr ⟨p,hp,by simpa using hd⟩)
theorem a60 {m:DT} {i:List Int} {v:PV} (nd:(m.map (·.1)).Nodup) (h:(i,v)∈m):K0 m i=some v:=by
 induction m with
 | nil=>cases h
 | cons p r ih=>
   unfold K0
   rcases List.mem_cons.mp h with z | z
   ·rw [←z,if_pos rfl]
   ·have nd':=List.nodup_cons.mp nd
    have:p.1≠i:=λe=>nd'.1 (List.mem_map.mpr ⟨_,z,e.symm⟩)
    rw [if_neg this];exact ih nd'.2 z
section
variable {A:PHp} {E:XP} {n:Nat} {l:List PV} {m:DT}
theorem w_isStrV {QB:Bool->PHp->Prop} {x:PV} {b:Bool} (h:ad3 x A=.ok b A) (q:QB b A):Wp (ad3 x) A QB E:=w_eq h q
theorem w_isStrL {QB:Bool->PHp->Prop} (h:A[n]?=some (.lst l)) (q:QB false A):Wp (ad3 (.ref n)) A QB E:=C1 (b8 h q)
theorem w_isTyI {QB:Bool->PHp->Prop} (h:A[n]?=some (.lst l)) (q:QB false A):Wp (au7 .int (.ref n)) A QB E:=C1 (b8 h q)
theorem w_isTyB {QB:Bool->PHp->Prop} (h:A[n]?=some (.lst l)) (q:QB false A):Wp (au7 .bool (.ref n)) A QB E:=C1 (b8 h q)
theorem w_isTyT {QB:Bool->PHp->Prop} (h:A[n]?=some (.lst l)) (q:QB false A):Wp (au7 .tuple (.ref n)) A QB E:=C1 (b8 h q)
theorem exD1 {R:Nat->DT->Prop} (h:A[n]?=some (.dT m)) (q:R n m):∃n' m',PV.ref n=.ref n'/\A[n']?=some (.dT m')/\R n' m':=⟨n,m,rfl,h,q⟩
theorem exD2 {k:PV} {i:List Int} {R:List Int->DT->Prop} (hk:O1 k=some i) (h:A[n]?=some (.dT m)) (q:R i m):∃i' m',O1 k=some i'/\A[n]?=some (.dT m')/\R i' m':=⟨i,m,hk,h,q⟩
theorem exD3 {k:PV} {i:List Int} {R:Nat->List Int->DT->Prop} (hk:O1 k=some i) (h:A[n]?=some (.dT m)) (q:R n i m):∃n' i' m',PV.ref n=.ref n'/\O1 k=some i'/\A[n']?=some (.dT m')/\R n' i' m':=⟨n,i,m,rfl,hk,h,q⟩
theorem exD4 {k:PV} {i:List Int} {v:PV} {R:PV->Prop} (hk:O1 k=some i) (h:A[n]?=some (.dT m)) (hv:K0 m i=some v) (q:R v):∃n' i' m' v',PV.ref n=.ref n'/\O1 k=some i'/\A[n']?=some (.dT m')/\K0 m' i'=some v'/\R v':=⟨n,i,m,v,rfl,hk,h,hv,q⟩
theorem get_appL {o:PO} {k:Nat} (h:A.length=k):(A++[o])[k]?=some o:=by subst h;exact get_app
theorem brC {c:Bool} {P R:Prop} (h:c=false) (q:R):(c=true->P)/\(c=false->R):=⟨λz=>(by rw [h] at z;cases z),λ_=>q⟩
theorem brD {c:Bool} {P R:Prop} (h:c=true) (q:P):(c=true->P)/\(c=false->R):=⟨λ_=>q,λz=>by rw [h] at z;cases z⟩
end
end Ws
local macro_rules | `(tactic| walk_at "s1")=>`(tactic| first
 | with_reducible refine Ws.w_isV ?_)
local macro_rules | `(tactic| walk_at "s3")=>`(tactic| ((with_reducible apply Ws.exX);(·walk_at "st");(·decide)))
local macro_rules | `(tactic| walk_at "s1")=>`(tactic| first
 | with_reducible refine Ws.w_isStr ?_
 | with_reducible refine Ws.w_tget ?_
 | with_reducible refine Ws.w_tget1 ?_
 | with_reducible refine Ws.w_tget2 ?_
 | with_reducible refine Ws.w_tput ?_
 | with_reducible refine Ws.w_tin ?_
 | with_reducible refine Ws.w_tcopy ?_
 | with_reducible refine Ws.w_intB ?_
 | with_reducible refine Ws.w_sorted ?_
 | with_reducible refine Ws.w_raise ?_)
local macro_rules | `(tactic| walk_at "s2")=>`(tactic| first
 | with_reducible refine Ws.w_tnew ?_
 | with_reducible refine Ws.w_eqS ?_
 | with_reducible refine Ws.w_neS ?_
 | ((with_reducible apply Ws.w_isStrL);(·walk_at "st"))
 | ((with_reducible apply Ws.w_isStrV);(·rfl))
 | ((with_reducible apply Ws.w_isTyI);(·walk_at "st"))
 | ((with_reducible apply Ws.w_isTyB);(·walk_at "st"))
 | ((with_reducible apply Ws.w_isTyT);(·walk_at "st")))
local macro_rules | `(tactic| walk_at "s3")=>`(tactic| first
 | ((with_reducible apply Ws.exD1);(·walk_at "st"))
 | ((with_reducible apply Ws.exD2);(·rfl);(·walk_at "st"))
 | ((with_reducible apply Ws.exD3);(·rfl);(·walk_at "st"))
 | ((with_reducible apply Ws.exD4);(·rfl);(·walk_at "st");(·first | assumption | rfl)))
local macro_rules | `(tactic| walk_at "pre")=>`(tactic| first
 | assumption
 | exact List.prefix_refl _
 | (refine Ws.K3 ?_;walk_at "pre")
 | ((refine Ws.aa5 ?pp ?nn);(case nn=>walk_at "ne");(case pp=>walk_at "pre"))
 | (refine List.IsPrefix.trans (by assumption) ?_;walk_at "pre"))
local macro_rules | `(tactic| walk_at "s3")=>`(tactic| ((with_reducible refine And.intro (a:=List.IsPrefix _ _) ?h1 ?_);(case h1=>walk_at "pre")))
local macro_rules | `(tactic| walk_at "s3")=>`(tactic| ((with_reducible refine And.intro (a:=_<900) ?h1 ?_);(case h1=>((simp only [List.length_cons,List.length_nil,Ws.putFld,Nat.reduceEqDiff,if_false]);(try omega)))))
local macro_rules | `(tactic| walk_at "ne")=>`(tactic| first
 | assumption
 | omega
 | ((simp only [List.length_set,List.length_append,List.length_cons,List.length_nil]);omega))
local macro_rules | `(tactic| walk_at "st")=>`(tactic| first
 | ((with_reducible refine Ws.get_appL ?_);(first | rfl | ((simp only [List.length_set,List.length_append,List.length_cons,List.length_nil]);done) | ((simp only [List.length_set,List.length_append,List.length_cons,List.length_nil]);omega)))
 | ((with_reducible apply Ws.get_set);walk_at "st")
 | ((with_reducible apply Ws.get_app_of);walk_at "st")
 | ((refine (Ws.D6 ?ne).trans ?_);(case ne=>walk_at "ne");walk_at "st"))
local macro_rules | `(tactic| walk_at "br")=>`(tactic| first
 | ((with_reducible refine Ws.brC ?_ ?_);(·first | rfl | (simp;done) | decide))
 | ((with_reducible refine Ws.brD ?_ ?_);(·first | rfl | (simp;done) | decide)))
local macro_rules | `(tactic| walk_at "gb")=>`(tactic| repeat (first | walk_at "s" | walk_at "br"))
namespace Ws
section
variable {A:PHp} {Q:PV->PHp->Prop} {E:XP} {σ:PSt} {e e1 e2 e3:ED}
theorem w_tsetd (h:Wp (e1 σ) A (λx A1=>∃n m0,x=.ref n/\A1[n]?=some (.dT m0)/\Wp (e2 σ) A1 (λk A2=>Wp (e3 σ) A2 (λv A3=>∃i m,O1 k=some i/\A3[n]?=some (.dT m)/\
 (∀w,K0 m i=some w->Q w A3)/\(K0 m i=none->m.length<LIM/\Q v (A3.set n (.dT (R4 m i v))))) E) E) E):Wp (t6 e1 e2 e3 σ) A Q E:=
 C1 (w_mono h λx A1 hh=>by
  obtain⟨n,m0,hx,h0,h1⟩:=hh
  subst hx
  refine C1 (c8 h0 (C1 (w_mono h1 λk A2 h2=>C1 (w_mono h2 λv A3 hh=>?_))))
  obtain⟨i,m,hk,hn,q1,q2⟩:=hh
  rw [hk]
  refine C1 (c8 hn ?_)
  cases hv:K0 m i with
  | some w=>exact q1 w hv
  | none=>exact D3 (q2 hv).1 (C1 (w_eq (a:=()) rfl (q2 hv).2)))
theorem w_tdictOf (h:Wp (e σ) A (λx A1=>∃n l m,x=.ref n/\A1[n]?=some (.lst l)/\t7 l=some m/\m.length<LIM/\Q (.ref A1.length) (A1++[.dT (m.foldl (λacc p=>R4 acc p.1 p.2) [])])) E):Wp (n0 e σ) A Q E:=
 C1 (w_mono h λx A1 hh=>by
  obtain⟨n,l,m,hx,h0,hp,hm,q⟩:=hh
  subst hx
  refine C1 (b8 h0 ?_)
  rw [hp]
  exact D3 hm q)
end
end Ws
local macro_rules | `(tactic| walk_at "s1")=>`(tactic| first
 | with_reducible refine Ws.w_tsetd ?_
 | with_reducible refine Ws.w_tdictOf ?_)
namespace Ws
section
theorem ax9 {α β:Type} (f:α->β) (xs:List α) (lo hi:Option Int):cut (xs.map f) lo hi=(cut xs lo hi).map f:=by
 unfold cut
 rw [List.length_map,List.map_take,List.map_drop]
end
def X8:List Int->Bool
 | a::b::r=>decide (a<b)&&X8 (b::r)
 | _=>true
def X9 (n:Int) (L:List Int):Bool:=!decide (L=[])&&(L.all λh=>decide (0<=h/\h<n))&&X8 L
theorem ah9:∀L:List Int,(((Y7 (L.map .int) ((L.drop 1).map .int)).map λv=>decide (ax7 v<ak1 v)).all id)=X8 L
 | []=>rfl
 | [a]=>rfl
 | a::b::r=>by
   have ih:=ah9 (b::r)
   show (decide (a<b)&&_)=_
   rw [X8,←ih];rfl
theorem aX0 {L M:List Int} {v:PV} (h:v∈Y7 (L.map .int) (M.map .int)):∃a b:Int,v=.tup [.int a,.int b]:=by
 induction L generalizing M with
 | nil=>cases h
 | cons a r ih=>
   cases M with
   | nil=>cases h
   | cons b s=>
     rcases List.mem_cons.mp h with z | z
     ·exact⟨a,b,z⟩
     ·exact ih z
theorem is_rising_ok {A:PHp} {l:Nat} {L:List Int} (hl:A[l]?=some (.lst (L.map .int))) (hL:L.length<=1000):Wp (P0 [.ref l]) A (λv A'=>A<+:A'/\v=.bl (X8 L)) NoX:=by
 unfold P0
 walk_at "fn"
 walk_at "go"
 unfold b9
 refine O7 (l:=Y7 (L.map .int) ((L.drop 1).map .int)) (λσ=>∃x y,σ=[x,y]) (λ_=>true) (λv=>.bl (decide (ax7 v<ak1 v))) ?_
 walk_at "go"
 have hc:cut (L.map PV.int) (some 1) none=(L.drop 1).map .int:=by rw [ax9];exact congrArg _ (ax8 L 1)
 rw [hc]
 have hl1:(A++[PO.lst ((L.drop 1).map .int)])[l]?=some (.lst (L.map .int)):=get_app_of hl
 have hzl:=ax6 (L.map .int) ((L.drop 1).map .int)
 rw [List.length_map] at hzl
 walk_at "go"
 refine⟨L.length,?_,hzl,lim_le (by omega),⟨_,_,rfl⟩,λi=>aN2 hl1 get_app i,?_,?_⟩
 ·show bnd (E7 l) _ _=_
  rw [bnd_ok (K6 hl1)];simp
 ·rintro v σ hv ⟨x,y,rfl⟩
  obtain⟨a,b,rfl⟩:=aX0 hv
  walk_at "go"
  refine⟨rfl,⟨_,_,rfl⟩,?_⟩
  walk_at "go"
  refine⟨rfl,rfl,λ_=>?_⟩
  walk_at "go"
  exact⟨rfl,rfl⟩
 ·refine⟨_,(Y7 (L.map .int) ((L.drop 1).map .int)).map λv=>decide (ax7 v<ak1 v),rfl,?_,?_⟩
  ·rw [get_app,List.filter_eq_self.mpr (by simp),List.map_map];rfl
  ·rw [ah9];exact⟨K3 (List.prefix_append _ _),rfl⟩
theorem are_leaders_ok {A:PHp} {w r l:Nat} {n:Int} {ps:List (Int×Int)} (W:WebAt A w r n ps) {L:List Int} (hl:A[l]?=some (.lst (L.map .int))) (hL:L.length<=1000):Wp (M6 [.ref w,.ref l]) A (λv A'=>A<+:A'/\v=.bl (X9 n L)) NoX:=by
 unfold M6
 walk_at "fn"
 walk_at "gb"
 refine⟨λh1=>?_,λh1=>?_⟩
 ·walk_at "go"
  have:L=[]:=of_decide_eq_true h1
  simp [X9,this]
 have hne:L≠[]:=of_decide_eq_false h1
 walk_at "go"
 unfold f_are_leaders_c1
 have W1:=W.mono (List.prefix_append A [PO.lst []])
 have hob:=W1.ob
 have hl1:(A++[PO.lst []])[l]?=some (.lst (L.map .int)):=get_app_of hl
 refine O7 (l:=L.map .int) (λσ=>∃x,σ=[x,some (.ref w)]) (λ_=>true) (λv=>match v with | .int h=>.bl (decide (0<=h/\h<n)) | _=>.non) ?_
 walk_at "go"
 refine⟨L.length,by rw [P5 hl1];simp,by simp,by simp;exact lim_le (by omega),⟨_,rfl⟩,λi=>P6 hl1 i,?_,?_⟩
 ·rintro v σ hv ⟨x,rfl⟩
  obtain⟨h,hh,rfl⟩:=List.mem_map.mp hv
  walk_at "go"
  refine⟨rfl,⟨_,rfl⟩,?_⟩
  walk_at "go"
  refine⟨rfl,rfl,λ_=>?_⟩
  walk_at "go"
  exact w_eq (is_hand_eq _ _ _) ⟨rfl,rfl⟩
 ·refine⟨_,L.map λh=>decide (0<=h/\h<n),rfl,?_,?_⟩
  ·rw [get_app,List.filter_eq_self.mpr (by simp),List.map_map,List.map_map];rfl
  ·refine⟨_,rfl,λh2=>?_,λh2=>?_⟩
   ·walk_at "go"
    refine w_mono (is_rising_ok (get_app_of hl1) hL) λv A1 ⟨h3,h4⟩=>⟨(K3 (List.prefix_append _ _)).trans h3,?_⟩
    rw [h4]
    have:(L.all λh=>decide (0<=h/\h<n))=true:=by rw [List.all_map] at h2;exact h2
    simp only [X9,this,hne];simp
   ·refine⟨K3 (List.prefix_append _ _),?_⟩
    have:(L.all λh=>decide (0<=h/\h<n))=false:=by rw [List.all_map] at h2;exact h2
    simp only [X9,this];simp
theorem an9:∀{L:List Int},X8 L=true->L.Pairwise (·< ·)
 | [],_=>.nil
 | [a],_=>by simp
 | a::b::r,h=>by
   rw [X8,Bool.and_eq_true] at h
   have ih:=an9 h.2
   have hab:a<b:=of_decide_eq_true h.1
   refine List.pairwise_cons.mpr ⟨λx hx=>?_,ih⟩
   rcases List.mem_cons.mp hx with z | z
   ·rw [z];exact hab
   ·have:=(List.pairwise_cons.mp ih).1 x z;omega
theorem ao0:∀{L:List Int},L.Pairwise (·< ·)->X8 L=true
 | [],_=>rfl
 | [a],_=>rfl
 | a::b::r,h=>by
   rw [X8,Bool.and_eq_true]
   have h':=List.pairwise_cons.mp h
   exact⟨decide_eq_true (h'.1 b List.mem_cons_self),ao0 h'.2⟩
theorem aa9:∀{L M:List Int},L.Pairwise (·< ·)->M.Pairwise (·< ·)->(∀x,x∈L↔x∈M)->L=M
 | [],[],_,_,_=>rfl
 | [],b::s,_,_,h=>by have:=(h b).mpr List.mem_cons_self;cases this
 | a::r,[],_,_,h=>by have:=(h a).mp List.mem_cons_self;cases this
 | a::r,b::s,h1,h2,h=>by
   have k1:=List.pairwise_cons.mp h1
   have k2:=List.pairwise_cons.mp h2
   have e:a=b:=by
    have m1:=(h a).mp List.mem_cons_self
    have m2:=(h b).mpr List.mem_cons_self
    rcases List.mem_cons.mp m1 with z | z
    ·exact z
    ·rcases List.mem_cons.mp m2 with y | y
     ·exact y.symm
     ·have:=k2.1 a z;have:=k1.1 b y;omega
   subst e
   rw [aa9 k1.2 k2.2 λx=>⟨λhx=>?_,λhx=>?_⟩]
   ·rcases List.mem_cons.mp ((h x).mp (List.mem_cons_of_mem _ hx)) with z | z
    ·have:=k1.1 x hx;omega
    ·exact z
   ·rcases List.mem_cons.mp ((h x).mpr (List.mem_cons_of_mem _ hx)) with z | z
    ·have:=k2.1 x hx;omega
    ·exact z
theorem lead_iff {N:Nat} {L:List Int}:X9 N L=true↔L=(H9 N).filter (λh=>decide (h∈L))/\L≠[]:=by
 unfold X9
 constructor
 ·intro h
  rw [Bool.and_eq_true,Bool.and_eq_true] at h
  refine⟨aa9 (an9 h.2) ((c7 N).filter _) λx=>?_,by simpa using h.1.1⟩
  have ha:=List.all_eq_true.mp h.1.2
  rw [List.mem_filter,mem_hands]
  exact⟨λhx=>⟨of_decide_eq_true (ha x hx),decide_eq_true hx⟩,λhx=>of_decide_eq_true hx.2⟩
 ·rintro⟨h,hne⟩
  have hp:L.Pairwise (·< ·):=by rw [h];exact (c7 N).filter _
  rw [Bool.and_eq_true,Bool.and_eq_true]
  refine⟨⟨by simpa using hne,List.all_eq_true.mpr λx hx=>?_⟩,ao0 hp⟩
  rw [h,List.mem_filter] at hx
  exact decide_eq_true (mem_hands.mp hx.1)
theorem aN3 {a b:Int} (ha:0<=a/\a<10) (hb:0<=b/\b<10):[a,b]∈small:=by
 unfold small
 rw [List.mem_flatten]
 refine⟨_,List.mem_map.mpr ⟨a.toNat,List.mem_range.mpr (by omega),rfl⟩,List.mem_map.mpr ⟨b.toNat,List.mem_range.mpr (by omega),?_⟩⟩
 rw [Int.toNat_of_nonneg ha.1,Int.toNat_of_nonneg hb.1]
theorem c9 {p q:Int×Int} (h:l2 p=l2 q):p=q:=by
 obtain⟨a,b⟩:=p;obtain⟨c,d⟩:=q
 simp [l2] at h;simp [h]
def limOf (m:DT) (p:Int×Int):Int:=match K0 m (l2 p) with
 | some (.int z)=>z
 | _=>0
def limD (qs:List (Int×Int)) (f:Int×Int->Int):DT:=qs.map λp=>(l2 p,PV.int (f p))
theorem ao1 (qs:List (Int×Int)) (f:Int×Int->Int):(limD qs f).map (·.1)=qs.map l2:=by unfold limD;rw [List.map_map];rfl
theorem aI0 {qs:List (Int×Int)} {f:Int×Int->Int} (h:qs.Nodup):((limD qs f).map (·.1)).Nodup:=by
 rw [ao1]
 exact List.Pairwise.map _ (λa b hab z=>hab (c9 z)) h
theorem as9 {qs:List (Int×Int)} {f:Int×Int->Int} (h:qs.Nodup) {p:Int×Int} (hp:p∈qs):K0 (limD qs f) (l2 p)=some (.int (f p)):=a60 (aI0 h) (List.mem_map.mpr ⟨p,hp,rfl⟩)
theorem aD5 {qs:List (Int×Int)} {f:Int×Int->Int} {n:Int} (hn:n<=6) (hg:∀p∈qs,good n p):∀p∈limD qs f,p.1∈small:=λp hp=>by
 obtain⟨q,hq,rfl⟩:=List.mem_map.mp hp
 have:=hg q hq
 exact aN3 ⟨this.1.1,by have:=this.1.2;omega⟩ ⟨this.2.1.1,by have:=this.2.1.2;omega⟩
theorem aX1 {qs:List (Int×Int)} {f:Int×Int->Int} {p:Int×Int} (hp:p∉qs):R4 (limD qs f) (l2 p) (.int (f p))=limD (qs++[p]) f:=by
 rw [o9]
 ·simp [limD]
 ·rw [ao1];intro z
  obtain⟨q,hq,e⟩:=List.mem_map.mp z
  rw [←c9 e] at hp;exact hp hq
structure PlanAt (A:PHp) (P w r:Nat) (n:Int) (ps:List (Int×Int)) (L:List Int) (f:Int×Int->Int) (ll dl dk:Nat):Prop where
 web:WebAt A w r n ps
 ob:A[P]?=some (.ins 1 [(3,.ref w),(4,.ref ll),(5,.ref dl),(9,.tup (L.map .int)),(10,.ref dk)])
 ls:A[ll]?=some (.lst (L.map .int))
 ld:A[dl]?=some (.dT (limD (srt ps) f))
 lk:A[dk]?=some (.dT (limD (srt ps) f))
theorem PlanAt.mono {A B:PHp} {P w r:Nat} {n:Int} {ps:List (Int×Int)} {L:List Int} {f:Int×Int->Int} {ll dl dk:Nat} (h:PlanAt A P w r n ps L f ll dl dk) (e:A<+:B):PlanAt B P w r n ps L f ll dl dk:=
 ⟨h.web.mono e,pre_get e h.ob,pre_get e h.ls,pre_get e h.ld,pre_get e h.lk⟩
theorem aN4 {z:Int} (h:0<=z) (A:PHp):Q7 [.int z] A=.ok (.bl true) A:=by simp [Q7,h]
section
variable {A:PHp} {w r l d:Nat} {n:Int} {ps:List (Int×Int)} {L:List Int} {m:DT}
theorem srt_nd (h:ps.Nodup):(srt ps).Nodup:=(M4 ps).nodup_iff.mpr h
theorem plan_l1 {B:PHp} {P k:Nat} (W:WebAt A w r n ps) (hd:A[d]?=some (.dT m)) (hnd:ps.Nodup) (hlen:ps.length<64) (hm:∀p∈ps,∃z,0<=z/\K0 m (l2 p)=some (.int z))
 (pB:A<+:B) (hk:A.length<=k) (hB:B[k]?=some (.dT [])) (hPk:P≠k) {po:PO} (hP:B[P]?=some po) :
 Wp (T9 [some (.ref P),some (.ref w),some (.ref l),some (.ref d),some (.ref k),none]) B (λo B'=>(∃x,o=.nx [some (.ref P),some (.ref w),some (.ref l),some (.ref d),some (.ref k),x])/\A<+:B'/\B'[P]?=some po/\B'.length=B.length/\B'[k]?=some (.dT (limD (srt ps) (limOf m)))) NoX:=by
 unfold T9
 have hs:∀p∈srt ps,p∈ps:=λp hp=>(M4 ps).mem_iff.mp hp
 refine as4 (λi σ B'=>(∃x,σ=[some (.ref P),some (.ref w),some (.ref l),some (.ref d),some (.ref k),x])/\A<+:B'/\B'[P]?=some po/\B'.length=B.length/\B'[k]?=some (.dT (limD ((srt ps).take i) (limOf m)))) ?_
 have WB:=W.mono pB
 have hwo:=WB.ob
 have hwl:=WB.ls
 walk_at "go"
 refine⟨r,pvs (srt ps),rfl,⟨⟨_,rfl⟩,pB,hP,rfl,hB⟩,λi σ B' ⟨_,h,_⟩=>K6 (W.mono h).ls,?_,?_⟩
 ·rintro i v σ B1 hv ⟨⟨x,rfl⟩,p1,hP1,hl1,hk1⟩
  simp only [pvs,List.getElem?_map] at hv
  cases hp:(srt ps)[i]? with
  | none=>rw [hp] at hv;cases hv
  | some p=>
    rw [hp] at hv;cases hv
    have hmem:p∈srt ps:=List.mem_of_getElem? hp
    have hd1:=pre_get p1 hd
    have hkey:O1 (pv p)=some (l2 p):=rfl
    have tk:(srt ps).take (i+1)=(srt ps).take i++[p]:=by rw [List.take_succ,hp];rfl
    unfold c5
    walk_at "go"
    obtain⟨z,hz,h0⟩:=hm p (hs p hmem)
    have h0':K0 m [p.1,p.2]=some (.int z):=h0
    rw [h0']
    refine w_eq (aN4 hz _) ?_
    walk_at "gb"
    have hnin:p∉(srt ps).take i:=by
     intro hm'
     have hlt:=(List.getElem?_eq_some_iff.mp hp).1
     obtain⟨j,hj,e⟩:=List.mem_iff_getElem.mp hm'
     rw [List.length_take] at hj
     rw [List.getElem_take] at e
     have e2:(srt ps)[i]=p:=(List.getElem?_eq_some_iff.mp hp).2
     exact List.pairwise_iff_getElem.mp (srt_nd hnd) j i (by omega) hlt (by omega) (e.trans e2.symm)
    have hval:limOf m p=z:=by unfold limOf;rw [h0]
    refine⟨?_,?_⟩
    ·refine U6 ?_
     rw [limD,List.length_map,List.length_take]
     have:=(M4 ps).length_eq;omega
    ·refine⟨⟨_,rfl⟩,aa5 p1 hk,by rw [D6 hPk];exact hP1,by simpa using hl1,?_⟩
     rw [get_set hk1,tk,←aX1 hnin,hval];rfl
 ·rintro σ B1 ⟨⟨x,rfl⟩,p1,hP1,hl1,hk1⟩
  rw [pvs,List.length_map,List.take_length] at hk1
  exact⟨⟨x,rfl⟩,p1,hP1,hl1,hk1⟩
theorem aN5 (W:WebAt A w r n ps) (hl:A[l]?=some (.lst (L.map .int))) (hL:L.length<=1000) (hd:A[d]?=some (.dT m)) (hg:L8 n ps) (hle:X9 n L=true) (hm:∀p∈ps,∃z,0<=z/\K0 m (l2 p)=some (.int z)) :
 Wp (N7 [.ref A.length,.ref w,.ref l,.ref d]) (A++[.ins 1 []]) (λv A'=>v=.non/\A<+:A'/\∃ll dl dk,PlanAt A' A.length w r n ps L (limOf m) ll dl dk/\A.length<ll/\A.length<dl/\A.length<dk) NoX:=by
 unfold N7
 walk_at "fn"
 have p0:A<+:A++[PO.ins 1 []]:=List.prefix_append _ _
 walk_at "go"
 refine w_mono (are_leaders_ok (W.mono p0) (pre_get p0 hl) hL) λv A1 ⟨p1,hv⟩=>?_
 subst hv
 have ho1:A1[A.length]?=some (.ins 1 []):=pre_get p1 get_app
 have pA1:A<+:A1:=p0.trans p1
 have hlt1:=G1 ho1
 rw [hle]
 walk_at "gb"
 refine w_mono (plan_l1 (l:=l) (P:=A.length) (k:=A1.length) W hd hg.nd hg.len hm (K3 pA1) (by omega) get_app (by omega) (get_app_of ho1)) λo B ⟨⟨x,ho⟩,pB,hoB,hlB,hkB⟩=>?_
 subst ho
 have hlB':B.length=A1.length+1:=by rw [hlB];simp
 have WB:=W.mono pB
 have hlB1:=pre_get pB hl
 have hlA:=G1 hl
 have hsm:((limD (srt ps) (limOf m)).map (·.1)).Nodup/\∀p∈limD (srt ps) (limOf m),p.1∈small:=⟨aI0 (srt_nd hg.nd),aD5 hg.hi λp hp=>hg.good p ((M4 ps).mem_iff.mp hp)⟩
 walk_at "go"
 simp only [putFld,Nat.reduceEqDiff,if_false,List.length_set,List.length_append,List.length_cons,List.length_nil,Nat.zero_add]
 refine⟨trivial,?pre,B.length,B.length+1,A1.length,⟨W.mono ?pre,?ob,?ls,?ld,?lk⟩,?_,?_,hlt1⟩
 case pre=>walk_at "pre"
 case ob=>walk_at "st"
 case ls=>walk_at "st"
 case ld=>walk_at "st"
 case lk=>walk_at "st"
 ·omega
 ·omega
end
theorem a61 {α:Type} {A:PHp} {Q:PV->PHp->Prop} {E:XP} {σ:PSt} {it:ID} {mk:PSt->PSt} {g:GD} {e:ED} (xs:List α) (vi vo:α->PV) (S:PSt->Prop)
 (h:Wp (it σ) A (λJ A1=>Z6 J A1=.ok xs.length A1/\xs.length<=LIM/\S (mk σ)/\(∀i B,A1<+:B->item J i B=.ok (xs.map vi)[i]? B)/\
  (∀x σ B,x∈xs->S σ->A1<+:B->Wp (g (vi x) σ) B (λσ1 B1=>B1=B/\S σ1/\Wp (e σ1) B (λy B3=>y=vo x/\B<+:B3) E) E)/\
  ∀B,A1<+:B->Q (.ref B.length) (B++[.lst (xs.map vo)])) E):Wp (O0 it mk g T1 e σ) A Q E:=
 as5 (w_mono h λJ A1 ⟨hf,hL,h0,hit,hs,he⟩=>⟨xs.map vi,xs.length,λi acc σ B=>A1<+:B/\S σ/\acc=(xs.take i).map vo,hf,by simp,⟨List.prefix_refl _,h0,by simp⟩,λi acc σ B ⟨h1,_⟩=>hit i B h1,λi v acc σ B hv ⟨h1,h2,h3⟩=>by
  rw [List.getElem?_map] at hv
  obtain⟨x,hx,rfl⟩:=Option.map_eq_some_iff.mp hv
  refine w_mono (hs x σ B (List.mem_of_getElem? hx) h2 h1) λσ1 B1 ⟨e1,h4,h5⟩=>?_
  subst e1
  refine w_true ⟨λ_=>w_mono h5 λy B3 ⟨h8,h7⟩=>⟨h1.trans h7,h4,?_⟩,λhc=>by cases hc⟩
  rw [h3,h8,List.take_succ,hx];simp,λacc σ B ⟨h1,_,h3⟩=>by
  rw [List.length_map,List.take_of_length_le (Nat.le_refl _)] at h3
  subst h3
  exact⟨by rw [List.length_map];exact hL,he B h1⟩⟩)
theorem bl7 {α:Type} (xs:List α):(xs.map λ_=>true).all id=true:=by simp
section
variable {A:PHp} {Q:PV->PHp->Prop} {E:XP} {σ:PSt} {e:ED}
theorem w_sortedT (h:Wp (e σ) A (λx A1=>∃n m,x=.ref n/\A1[n]?=some (.dT m)/\(m.length<64/\∀p∈m,p.1≠[])/\Q (.ref A1.length) (A1++[.lst ((G6 G3 (m.map (·.1))).map λt=>.tup (t.map .int))])) E):Wp (ad4 e σ) A Q E:=
 C1 (w_mono h λx A1 ⟨n,m,hx,hm,hc,q⟩=>by subst hx;exact C1 (c8 hm (D3 hc q)))
end
end Ws
local macro_rules | `(tactic| walk_at "s1")=>`(tactic| first
 | with_reducible refine Ws.w_sortedT ?_)
local macro_rules | `(tactic| walk_at "s2")=>`(tactic| with_reducible refine Ws.w_mk0 ?_)
namespace Ws
def al:Nat->Fun
 | 0=>V0
 | k+1=>C8 (al k)
inductive aD6:Nat->PV->Prop
 | int {k:Nat} {i:Int}:aD6 (k+1) (.int i)
 | str {k:Nat} {x:PySem.Str}:aD6 (k+1) (.str x)
 | tup {k:Nat} {l:List PV}:l.length<=1000->(∀v∈l,aD6 k v)->aD6 (k+1) (.tup l)
theorem atN {α:Type} {xs:List α} {i:Nat} {x:α} (h:xs[i]?=some x):atI xs (i:Int)=some x:=by
 obtain⟨h1,h2⟩:=List.getElem?_eq_some_iff.mp h
 rw [aD4 h1,h2]
theorem ao2 {k:Nat} {l:List PV} {a b:PV} {A:PHp} (hl:l.length<=1000) (hv:∀v∈l,∀B,Wp (al k [v,v]) B (λv A'=>v=.bl true/\B<+:A') NoX)
 (ha:∀B (i:Nat) v {Q:PV->PHp->Prop},A<+:B->l[i]?=some v->Q v B->Wp (oIx a (.int (i:Int))) B Q NoX) (hb:∀B (i:Nat) v {Q:PV->PHp->Prop},A<+:B->l[i]?=some v->Q v B->Wp (oIx b (.int (i:Int))) B Q NoX)
 (hlen:∀{QI:It->PHp->Prop},QI (.rng 0 l.length) A->Wp (iRng1 (Z4 (eVar 1)) [some a,some b]) A QI NoX) :
 Wp (U1 (al k) [some a,some b]) A (λx A1=>∃n bs,x=.ref n/\A1[n]?=some (.lst (List.map .bl bs))/\PV.bl (bs.all id)=.bl true/\A<+:A1) NoX:=by
 unfold U1
 refine a61 (List.range l.length) (λi=>.int (i:Int)) (λ_=>.bl true) (λσ=>∃x,σ=[x,some a,some b]) (hlen ?_)
 refine⟨by simp,by simp;exact lim_le (by omega),⟨_,rfl⟩,λi B p=>ag6 _ _,?_,λB hB=>?_⟩
 ·rintro i σ B hi ⟨x,rfl⟩ pB
  rw [List.mem_range] at hi
  have hx:l[i]?=some l[i]:=List.getElem?_eq_getElem hi
  walk_at "go"
  refine⟨rfl,⟨_,rfl⟩,?_⟩
  walk_at "go"
  refine ha B i _ pB hx ?_
  walk_at "go"
  refine hb B i _ pB hx ?_
  walk_at "go"
  exact hv _ (List.getElem_mem hi) B
 ·refine⟨_,(List.range l.length).map λ_=>true,rfl,by rw [get_app,List.map_map];rfl,?_⟩
  rw [bl7]
  exact⟨rfl,hB.trans (List.prefix_append _ _)⟩
theorem ai0:∀(k:Nat) (x:PV),aD6 k x->∀A,Wp (al k [x,x]) A (λv A'=>v=.bl true/\A<+:A') NoX
 | 0,_,h,_=>by cases h
 | k+1,_,.int (i:=i),A=>by
   refine w_eq (A':=A) (a:=.bl true) ?_ ⟨rfl,List.prefix_refl _⟩
   show C8 (al k) [.int i,.int i] A=_
   simp [C8,plain,eqv]
 | k+1,_,.str (x:=x),A=>by
   show Wp (C8 (al k) [.str x,.str x]) A _ _
   unfold C8
   walk_at "fn"
   walk_at "gb"
   exact⟨by simp,List.prefix_refl _⟩
 | k+1,_,.tup (l:=l) hl hv,A=>by
   show Wp (C8 (al k) [.tup l,.tup l]) A _ _
   unfold C8
   walk_at "fn"
   walk_at "gb"
   refine ao2 hl (λv hm B=>ai0 k v (hv v hm) B) (λB i v Q p h q=>?_) (λB i v Q p h q=>?_) λ{QI} q=>?_
   ·exact w_ixT (atN h) q
   ·exact w_ixT (atN h) q
   ·walk_at "go"
    exact q
theorem ay0 {k:Nat} {l:List PV} {n m:Nat} {A:PHp} (hl:l.length<=1000) (hv:∀v∈l,aD6 k v) (hn:A[n]?=some (.lst l)) (hm:A[m]?=some (.lst l)):Wp (al (k+1) [.ref n,.ref m]) A (λv A'=>v=.bl true/\A<+:A') NoX:=by
 show Wp (C8 (al k) [.ref n,.ref m]) A _ _
 unfold C8
 walk_at "fn"
 walk_at "gb"
 refine ao2 hl (λv hm B=>ai0 k v (hv v hm) B) (λB i v Q p h q=>?_) (λB i v Q p h q=>?_) λ{QI} q=>?_
 ·exact w_ixL (pre_get p hn) (atN h) q
 ·exact w_ixL (pre_get p hm) (atN h) q
 ·walk_at "go"
  exact q
theorem ai1 {A:PHp} (o:PO):A<+:A++[o]:=List.prefix_append _ _
theorem aI1 {c:List Int} (h:c≠[]):atI (c.map PV.int) (-1)=some (.int (c.getLast h)):=by
 have hl:0<c.length:=List.length_pos_iff.mpr h
 unfold atI ixN
 rw [if_neg (by omega),List.length_map,if_pos (by omega)]
 show (c.map PV.int)[((-1:Int)+c.length).toNat]?=_
 rw [show ((-1:Int)+c.length).toNat=c.length - 1 by omega,List.getElem?_map,←List.getLast?_eq_getElem?,List.getLast?_eq_getLast h];rfl
section
variable {A:PHp} {N:Nat} {ps:List (Int×Int)}
def p5 (N:Nat) (ps:List (Int×Int)) (ld c:List Int):Prop:=(∃h:c≠[],c.getLast h∈ld)/\c.Nodup/\(∀x∈c,0<=x/\x<N)/\∀(i:Nat) a b,c[i]?=some a->c[i+1]?=some b->(a,b)∈ps
theorem lt_cut {c:List Int} (h:c≠[]):¬(S0 (c.map PV.int).length 0 (some 1)=0/\S0 (c.map PV.int).length (c.map PV.int).length none=(c.map PV.int).length):=by
 have:0<c.length:=List.length_pos_iff.mpr h
 unfold S0
 rw [List.length_map]
 intro z
 have:=z.1
 simp at this
 omega
theorem cut_1 (c:List PV):cut c (some 1) none=c.drop 1:=by
 have:=ax8 c 1
 exact this
theorem all_map {α:Type} (f:α->Bool) (l:List α):((l.map f).all id=true)↔∀x∈l,f x=true:=by simp
theorem ao3:∀(c:List Int),Y7 (c.map PV.int) ((c.map PV.int).drop 1)=(c.zip (c.drop 1)).map pv
 | []=>rfl
 | [a]=>rfl
 | a::b::r=>by
   have ih:=ao3 (b::r)
   simp only [List.map_cons,List.drop_succ_cons,List.drop_zero,Y7,List.zip_cons_cons,List.map_cons] at ih ⊢
   exact congrArg _ ih
theorem mem_steps {c:List Int} {a b:Int}:(a,b)∈c.zip (c.drop 1)↔∃i:Nat,c[i]?=some a/\c[i+1]?=some b:=by
 rw [List.mem_iff_getElem?]
 constructor
 ·rintro⟨i,h⟩
  rw [List.getElem?_zip_eq_some] at h
  exact⟨i,h.1,by rw [←h.2,List.getElem?_drop,Nat.add_comm]⟩
 ·rintro⟨i,h1,h2⟩
  refine⟨i,?_⟩
  rw [List.getElem?_zip_eq_some]
  exact⟨h1,by rw [List.getElem?_drop,Nat.add_comm];exact h2⟩
theorem chain_okT {w r:Nat} {ld c:List Int} (W:WebAt A w r N ps) (hc:c.length<100) :
 Wp (Q8 [.ref w,.tup (ld.map .int),.tup (c.map .int)]) A (λv A'=>A<+:A'/\∃b,v=.bl b/\(b=true↔p5 N ps ld c)) NoX:=by
 unfold Q8
 have hw:=W.ob
 have hr:=W.ls
 walk_at "fn"
 walk_at "go"
 refine⟨λhb=>?_,λhb=>?_⟩
 ·walk_at "go"
  refine⟨λz=>(nomatch z),λz=>?_⟩
  obtain⟨⟨h,_⟩,_⟩:=z
  exact absurd (of_decide_eq_true hb) h
 have hne:c≠[]:=of_decide_eq_false hb
 have hlast:=aI1 hne
 walk_at "go"
 refine⟨λhb2=>?_,λhb2=>?_⟩
 ·walk_at "go"
  refine⟨λz=>(nomatch z),λz=>?_⟩
  obtain⟨⟨h,h1⟩,_⟩:=z
  simp [h1] at hb2
 have hin:c.getLast hne∈ld:=by simpa using hb2
 walk_at "go"
 refine⟨λhb3=>?_,λhb3=>?_⟩
 ·walk_at "go"
  refine⟨λz=>(nomatch z),λz=>?_⟩
  have:=(aR8 c).mp (by have:=of_decide_eq_true hb3;omega)
  exact absurd z.2.1 this
 have hnd:c.Nodup:=by
  by_cases z:c.Nodup
  ·exact z
  ·have:=(aR8 c).mpr z
   have:=of_decide_eq_false hb3
   omega
 walk_at "go"
 unfold f_is_chain_c1
 refine O7 (l:=c.map .int) (λσ=>∃x,σ=[x,some (.ref w)]) (λ_=>true) (λv=>.bl (match v with | .int x=>decide (0<=x/\x<N) | _=>false)) ?_
 walk_at "go"
 refine⟨⟨_,rfl⟩,λi=>rfl,?_,?_⟩
 ·rintro v σ hv ⟨x,rfl⟩
  obtain⟨y,hy,rfl⟩:=List.mem_map.mp hv
  walk_at "go"
  refine⟨rfl,⟨_,rfl⟩,?_⟩
  walk_at "go"
  refine⟨rfl,rfl,λ_=>?_⟩
  walk_at "go"
  exact w_eq (is_hand_eq N y A) ⟨rfl,rfl⟩
 have e1:((c.map PV.int).filter λ_=>true).map (λv=>PV.bl (match v with | .int x=>decide (0<=x/\x<N) | _=>false))=(c.map λx=>decide (0<=x/\x<(N:Int))).map PV.bl:=by
  rw [List.filter_eq_self.mpr (by simp),List.map_map,List.map_map];rfl
 refine⟨_,_,rfl,by rw [get_app,e1],?_⟩
 walk_at "go"
 refine⟨λhb4=>?_,λhb4=>?_⟩
 ·walk_at "go"
  refine⟨λz=>(nomatch z),λz=>?_⟩
  have:((c.map λx=>decide (0<=x/\x<(N:Int))).all id)=true:=(all_map _ _).mpr λx hx=>decide_eq_true (z.2.2.1 x hx)
  rw [this] at hb4;cases hb4
 have hr4:∀x∈c,0<=x/\x<(N:Int):=by
  have:((c.map λx=>decide (0<=x/\x<(N:Int))).all id)=true:=by
   cases z:((c.map λx=>decide (0<=x/\x<(N:Int))).all id) with
   | true=>rfl
   | false=>rw [z] at hb4;cases hb4
  exact λx hx=>of_decide_eq_true ((all_map _ _).mp this x hx)
 rw [e1]
 generalize hA1:A++[PO.lst ((c.map λx=>decide (0<=x/\x<(N:Int))).map PV.bl)]=A1
 have p1:A<+:A1:=by rw [←hA1];exact ai1 _
 have hwB:=pre_get p1 hw
 have hrB:=pre_get p1 hr
 walk_at "go"
 unfold f_is_chain_c2
 refine O7 (l:=(c.zip (c.drop 1)).map pv) (λσ=>∃x,σ=[x,some (.ref w)]) (λ_=>true) (λv=>.bl (decide ((ax7 v,ak1 v)∈srt ps))) ?_
 walk_at "go"
 refine⟨lt_cut hne,?_⟩
 walk_at "go"
 refine⟨by simp,lim_le (by simp;omega),⟨_,rfl⟩,λi=>by rw [aN1,cut_1,ao3],?_,?_⟩
 ·rintro v σ hv ⟨x,rfl⟩
  obtain⟨y,hy,rfl⟩:=List.mem_map.mp hv
  walk_at "go"
  refine⟨rfl,⟨_,rfl⟩,?_⟩
  walk_at "go"
  refine⟨rfl,rfl,λ_=>?_⟩
  unfold pv
  walk_at "go"
  exact⟨rfl,rfl⟩
 have e2:(((c.zip (c.drop 1)).map pv).filter λ_=>true).map (λv=>PV.bl (decide ((ax7 v,ak1 v)∈srt ps)))=((c.zip (c.drop 1)).map λp=>decide (p∈srt ps)).map PV.bl:=by
  rw [List.filter_eq_self.mpr (by simp),List.map_map,List.map_map];rfl
 refine⟨_,_,rfl,by rw [get_app,e2],?_⟩
 refine⟨p1.trans (ai1 _),_,rfl,?_⟩
 rw [all_map]
 constructor
 ·intro h
  refine⟨⟨hne,hin⟩,hnd,hr4,λi a b ha hb=>?_⟩
  exact (M4 ps).mem_iff.mp (of_decide_eq_true (h (a,b) (mem_steps.mpr ⟨i,ha,hb⟩)))
 ·rintro⟨_,_,_,h⟩ ⟨a,b⟩ hab
  obtain⟨i,h1,h2⟩:=mem_steps.mp hab
  exact decide_eq_true ((M4 ps).mem_iff.mpr (h i a b h1 h2))
end
structure LS where
 now:Int
 lays:List ((Int×Int)×Int)
 says:List ((Int×Int)×Nat×List (Int×List Int))
 first:List (List Int×Int)
 m:Nat
structure Cfg where
 N:Nat
 ps:List (Int×Int)
 L:List Int
 f:Int×Int->Int
 fr:List Int
 P:Nat
 w:Nat
 r:Nat
 ll:Nat
 dl:Nat
 dk:Nat
 G:Nat
def rowS (q:Int×List Int):PV:=.tup [.int q.1,.tup (q.2.map .int)]
def V4 (S:LS):DT:=S.lays.map λp=>(l2 p.1,PV.int p.2)
def R9 (S:LS):DT:=S.says.map λp=>(l2 p.1,PV.ref p.2.1)
def ak2 (S:LS):DT:=S.first.map λp=>(p.1,PV.int p.2)
def sadr (S:LS):List Nat:=S.says.map λe=>e.2.1
def own (c:Cfg) (S:LS):List Nat:=c.G::(c.G+2)::(c.G+3)::(c.G+4)::sadr S
def dom (c:Cfg) (S:LS):List Nat:=c.P::c.w::c.r::c.ll::c.dl::c.dk::(c.G+1)::own c S
structure Led (A:PHp) (c:Cfg) (S:LS):Prop where
 plan:PlanAt A c.P c.w c.r c.N c.ps c.L c.f c.ll c.dl c.dk
 ob:A[c.G]?=some (.ins 2 [(6,.ref c.P),(7,.ref (c.G+1)),(11,.tup (c.fr.map .int)),(12,.int S.now),(13,.ref (c.G+2)),(14,.ref (c.G+3)),(15,.ref (c.G+4))])
 fl:A[c.G+1]?=some (.lst (c.fr.map .int))
 tl:A[c.G+2]?=some (.dT (V4 S))
 sl:A[c.G+3]?=some (.dT (R9 S))
 ul:A[c.G+4]?=some (.dT (ak2 S))
 rows:∀e∈S.says,A[e.2.1]?=some (.lst (e.2.2.map rowS))
 lt:c.P<c.G/\c.w<c.G/\c.r<c.G/\c.ll<c.G/\c.dl<c.G/\c.dk<c.G
 hi:∀a∈sadr S,c.G+4<a
 an:(sadr S).Nodup
 kn:(S.says.map (·.1)).Nodup
 ln:(S.lays.map (·.1)).Nodup
 lp:∀p∈S.lays.map (·.1),p∈c.ps
 pg:L8 c.N c.ps
 sz:S.m<=2000/\S.says.length<=S.m/\S.first.length<=S.m/\∀e∈S.says,e.2.2.length<=S.m
theorem Led.keep {A B:PHp} {c:Cfg} {S:LS} (h:Led A c S) (k:∀a∈dom c S,∀o,A[a]?=some o->B[a]?=some o):Led B c S:=by
 have hd:∀a,a∈[c.P,c.w,c.r,c.ll,c.dl,c.dk,c.G+1,c.G,c.G+2,c.G+3,c.G+4]->a∈dom c S:=λa ha=>by
  simp only [List.mem_cons,List.not_mem_nil,or_false] at ha
  simp only [dom,own,List.mem_cons]
  rcases ha with z | z | z | z | z | z | z | z | z | z | z <;> simp [z]
 refine⟨⟨⟨k _ (hd _ (by simp)) _ h.plan.web.ob,k _ (hd _ (by simp)) _ h.plan.web.ls⟩,k _ (hd _ (by simp)) _ h.plan.ob,k _ (hd _ (by simp)) _ h.plan.ls,k _ (hd _ (by simp)) _ h.plan.ld,k _ (hd _ (by simp)) _ h.plan.lk⟩,k _ (hd _ (by simp)) _ h.ob,k _ (hd _ (by simp)) _ h.fl,k _ (hd _ (by simp)) _ h.tl,k _ (hd _ (by simp)) _ h.sl,k _ (hd _ (by simp)) _ h.ul,λe he=>?_,h.lt,h.hi,h.an,h.kn,h.ln,h.lp,h.pg,h.sz⟩
 refine k _ ?_ _ (h.rows e he)
 simp only [dom,own,List.mem_cons]
 have:e.2.1∈sadr S:=List.mem_map.mpr ⟨e,he,rfl⟩
 simp [this]
theorem Led.mono {A B:PHp} {c:Cfg} {S:LS} (h:Led A c S) (e:A<+:B):Led B c S:=h.keep λa _ o q=>pre_get e q
theorem Led.dlt {A:PHp} {c:Cfg} {S:LS} (h:Led A c S):∀a∈dom c S,a<A.length:=λa ha=>by
 simp only [dom,own,List.mem_cons] at ha
 have hG:=G1 h.ul
 have hl:=h.lt
 rcases ha with z | z | z | z | z | z | z | z | z | z | z | z
 ·omega
 ·omega
 ·omega
 ·omega
 ·omega
 ·omega
 ·omega
 ·omega
 ·omega
 ·omega
 ·omega
 ·obtain⟨e,he,rfl⟩:=List.mem_map.mp z
  exact G1 (h.rows e he)
theorem Led.set {A:PHp} {c:Cfg} {S:LS} {k:Nat} {o:PO} (h:Led A c S) (hk:k∉dom c S):Led (A.set k o) c S:=
 h.keep λa ha u q=>(D6 (λz=>hk (by rw [←z];exact ha))).trans q
theorem Led.setNew {A B:PHp} {c:Cfg} {S:LS} {k:Nat} {o:PO} (h:Led A c S) (e:A<+:B) (hk:A.length<=k):Led (B.set k o) c S:=
 (h.mono e).set λz=>by have:=h.dlt k z;omega
structure Stp (c:Cfg) (S S':LS) (A A':PHp):Prop where
 len:A.length<=A'.length
 keep:∀a o,A[a]?=some o->a∉own c S->A'[a]?=some o
 new:∀a∈sadr S',a∈sadr S\/A.length<=a
theorem Stp.pre {c:Cfg} {S:LS} {A A':PHp} (h:A<+:A'):Stp c S S A A':=⟨h.length_le,λa o q _=>pre_get h q,λa h=>.inl h⟩
theorem Stp.refl {c:Cfg} {S:LS} {A:PHp}:Stp c S S A A:=.pre (List.prefix_refl _)
theorem aI2 {c:Cfg} {S S':LS} {A A':PHp} (h:Stp c S S' A A') {a:Nat} (ha:a<A.length) (hn:a∉own c S):a∉own c S':=λz=>hn (by
 simp only [own,List.mem_cons] at z ⊢
 rcases z with z | z | z | z | z
 ·simp [z]
 ·simp [z]
 ·simp [z]
 ·simp [z]
 ·rcases h.new a z with z | z
  ·simp [z]
  ·omega)
theorem Stp.trans {c:Cfg} {S S' S'':LS} {A A' A'':PHp} (h:Stp c S S' A A') (h':Stp c S' S'' A' A''):Stp c S S'' A A'':=
 ⟨Nat.le_trans h.len h'.len,λa o q n=>h'.keep a o (h.keep a o q n) (aI2 h (G1 q) n),λa ha=>by
  rcases h'.new a ha with z | z
  ·exact h.new a z
  ·exact .inr (Nat.le_trans h.len z)⟩
section
variable {A:PHp} {c:Cfg} {S:LS}
theorem move_ok (H:Led A c S):Wp (J4 [.ref c.G]) A (λv A'=>v=.non/\Led A' c { S with now:=S.now+1 }/\Stp c S { S with now:=S.now+1 } A A') NoX:=by
 unfold J4
 have h1:=H.ob
 walk_at "fn"
 walk_at "gb"
 have hl:=H.lt
 have k:∀a o,A[a]?=some o->a≠c.G->(A.set c.G (PO.ins 2 (putFld 12 (PV.int (S.now+1)) [(6,.ref c.P),(7,.ref (c.G+1)),(11,.tup (c.fr.map .int)),(12,.int S.now),(13,.ref (c.G+2)),(14,.ref (c.G+3)),(15,.ref (c.G+4))])))[a]?=some o:=λa o q n=>(D6 n).trans q
 refine⟨trivial,⟨⟨⟨k _ _ H.plan.web.ob (by omega),k _ _ H.plan.web.ls (by omega)⟩,k _ _ H.plan.ob (by omega),k _ _ H.plan.ls (by omega),k _ _ H.plan.ld (by omega),k _ _ H.plan.lk (by omega)⟩,get_set h1,k _ _ H.fl (by omega),k _ _ H.tl (by omega),k _ _ H.sl (by omega),k _ _ H.ul (by omega),λe he=>k _ _ (H.rows e he) ?_,H.lt,H.hi,H.an,H.kn,H.ln,H.lp,H.pg,H.sz⟩,⟨by simp,λa o q n=>k a o q (λz=>n (by rw [z];exact List.mem_cons_self)),λa h=>.inl h⟩⟩
 have:=H.hi e.2.1 (List.mem_map.mpr ⟨e,he,rfl⟩)
 omega
theorem aX2 {w r:Nat} {N:Nat} {ps:List (Int×Int)} (W:WebAt A w r N ps) (hg:L8 N ps) (p:Int×Int):Wp (W6 [.ref w,pv p]) A (λv A'=>v=.bl (decide (p∈ps))/\A'=A) NoX:=by
 unfold W6
 have h1:=W.ob
 have h2:=W.ls
 walk_at "fn"
 walk_at "gb"
 refine w_eq (i9 _ _ _) ⟨_,rfl,λhb=>?_,λhb=>?_⟩
 ·walk_at "gb"
  refine w_inP h2 ?_
  exact⟨by simp [(M4 ps).mem_iff],rfl⟩
 ·refine⟨?_,rfl⟩
  have:p∉ps:=λz=>by have:=hg.good p z;simp [this] at hb
  simp [this]
def a62 (p:Int×Int):PV:=.tup [.str "lay",pv p]
def sayV (p:Int×Int) (ch:List Int):PV:=.tup [.str "say",pv p,.tup (ch.map .int)]
theorem aX3 (H:Led A c S) (p:Int×Int):Wp (P1 [.ref c.P,a62 p]) A (λv A'=>v=.bl (decide (p∈c.ps))/\A'=A) NoX:=by
 unfold P1 a62
 have h1:=H.plan.ob
 walk_at "fn"
 walk_at "gb"
 refine w_mono (aX2 H.plan.web H.pg p) λv A1 hh=>?_
 obtain⟨rfl,rfl⟩:=hh
 walk_at "gb"
 refine⟨λhb=>?_,λhb=>?_⟩
 ·walk_at "gb"
  have:p∉c.ps:=by simpa using hb
  simp [this]
 ·walk_at "gb"
  have:p∈c.ps:=by simpa using hb
  simp [this]
theorem chain_of (H:Led A c S) {ch:List Int} (hc:ch.length<100):Wp (M7 [.ref c.P,.tup (ch.map .int)]) A (λv A'=>A<+:A'/\∃b,v=.bl b/\(b=true↔p5 c.N c.ps c.L ch)) NoX:=by
 unfold M7
 have h1:=H.plan.ob
 have h2:=H.plan.web.ob
 walk_at "fn"
 walk_at "gb"
 unfold W8
 refine O7 (l:=ch.map .int) (λσ=>∃x,σ=[x,some (.ref c.P)]) (λ_=>true) (λv=>.bl (match v with | .int x=>decide (0<=x/\x<(c.N:Int)) | _=>false)) ?_
 walk_at "go"
 refine⟨⟨_,rfl⟩,λi=>rfl,?_,?_⟩
 ·rintro v σ hv ⟨x,rfl⟩
  obtain⟨y,hy,rfl⟩:=List.mem_map.mp hv
  walk_at "go"
  refine⟨rfl,⟨_,rfl⟩,?_⟩
  walk_at "go"
  refine⟨rfl,rfl,λ_=>?_⟩
  walk_at "go"
  exact w_eq (is_hand_eq c.N y A) ⟨rfl,rfl⟩
 have e1:((ch.map PV.int).filter λ_=>true).map (λv=>PV.bl (match v with | .int x=>decide (0<=x/\x<(c.N:Int)) | _=>false))=(ch.map λx=>decide (0<=x/\x<(c.N:Int))).map PV.bl:=by
  rw [List.filter_eq_self.mpr (by simp),List.map_map,List.map_map];rfl
 refine⟨_,_,rfl,by rw [get_app,e1],?_⟩
 walk_at "go"
 refine⟨λhb=>?_,λhb=>?_⟩
 ·walk_at "gb"
  refine⟨λz=>(nomatch z),λz=>?_⟩
  have:((ch.map λx=>decide (0<=x/\x<(c.N:Int))).all id)=true:=(all_map _ _).mpr λx hx=>decide_eq_true (z.2.2.1 x hx)
  rw [this] at hb;cases hb
 ·rw [e1]
  generalize hA1:A++[PO.lst ((ch.map λx=>decide (0<=x/\x<(c.N:Int))).map PV.bl)]=A1
  have p1:A<+:A1:=by rw [←hA1];exact ai1 _
  have h1:=pre_get p1 h1
  walk_at "gb"
  refine w_mono (chain_okT (H.plan.web.mono p1) hc) λv A2 hh=>?_
  obtain⟨p2,b,rfl,hb⟩:=hh
  exact⟨p1.trans p2,b,rfl,hb⟩
theorem at0 {ch:List Int} {x:Int} (h:ch.head?=some x):atI (ch.map PV.int) 0=some (.int x):=by
 cases ch with
 | nil=>cases h
 | cons a r=>cases h;unfold atI ixN;simp
theorem aX4 (H:Led A c S) (p:Int×Int) {ch:List Int} (hc:ch.length<100):Wp (P1 [.ref c.P,sayV p ch]) A (λv A'=>A<+:A'/\∃b,v=.bl b/\(b=true↔p∈c.ps/\p5 c.N c.ps c.L ch/\ch.head?=some p.2)) NoX:=by
 unfold P1 sayV
 have h1:=H.plan.ob
 walk_at "fn"
 walk_at "gb"
 refine w_mono (aX2 H.plan.web H.pg p) λv A1 hh=>?_
 obtain⟨rfl,rfl⟩:=hh
 walk_at "gb"
 refine⟨λhb=>?_,λhb=>?_⟩
 ·walk_at "gb"
  have:p∉c.ps:=by simpa using hb
  simp [this]
 ·have hp:p∈c.ps:=by simpa using hb
  walk_at "gb"
  refine w_mono (chain_of H hc) λv A2 hh=>?_
  obtain⟨p2,b,rfl,hb⟩:=hh
  refine⟨b,rfl,λhbt=>?_,λhbf=>?_⟩
  ·have hch:=hb.mp hbt
   obtain⟨x,hx⟩:∃x,ch.head?=some x:=by
    obtain⟨⟨hne,_⟩,_⟩:=hch
    cases ch with
    | nil=>exact absurd rfl hne
    | cons a r=>exact⟨a,rfl⟩
   have h0:=at0 hx
   unfold pv
   walk_at "gb"
   rw [hx]
   simp [hp,hch]
  ·refine⟨p2,false,rfl,λz=>(nomatch z),λz=>?_⟩
   rw [hb.mpr z.2.1] at hbf;cases hbf
end
def look {α β:Type} [DecidableEq α]:List (α×β)->α->Option β
 | [],_=>none
 | e::r,k=>if e.1=k then some e.2 else look r k
def Y3 (S:LS) (p:Int×Int):Option Int:=look S.lays p
def j0 (S:LS) (ch:List Int):Option Int:=look S.first ch
def P9 (S:LS) (p:Int×Int):Option (Nat×List (Int×List Int)):=look S.says p
def rowsAt (S:LS) (p:Int×Int):List (Int×List Int):=((P9 S p).map (·.2)).getD []
theorem ab0 {β:Type} (f:β->PV):∀(l:List ((Int×Int)×β)) (p:Int×Int),K0 (l.map λe=>(l2 e.1,f e.2)) (l2 p)=(look l p).map f
 | [],_=>rfl
 | e::r,p=>by
   show (if l2 e.1=l2 p then some (f e.2) else K0 (r.map _) (l2 p))=(if e.1=p then some e.2 else look r p).map f
   by_cases h:e.1=p
   ·rw [if_pos (by rw [h]),if_pos h];rfl
   ·rw [if_neg (λz=>h (c9 z)),if_neg h];exact ab0 f r p
theorem aX5 {β:Type} (f:β->PV):∀(l:List (List Int×β)) (p:List Int),K0 (l.map λe=>(e.1,f e.2)) p=(look l p).map f
 | [],_=>rfl
 | e::r,p=>by
   show (if e.1=p then some (f e.2) else K0 (r.map _) p)=(if e.1=p then some e.2 else look r p).map f
   by_cases h:e.1=p
   ·rw [if_pos h,if_pos h];rfl
   ·rw [if_neg h,if_neg h];exact aX5 f r p
theorem aI3 (S:LS) (p:Int×Int):K0 (V4 S) (l2 p)=(Y3 S p).map .int:=ab0 _ _ _
theorem aI4 (S:LS) (ch:List Int):K0 (ak2 S) ch=(j0 S ch).map .int:=aX5 _ _ _
theorem aI5 (S:LS) (p:Int×Int):K0 (R9 S) (l2 p)=(P9 S p).map λe=>.ref e.1:=ab0 (λe:Nat×List (Int×List Int)=>PV.ref e.1) _ _
section
variable {α β:Type} [DecidableEq α]
theorem O6:∀{l:List (α×β)} {k:α} {v:β},look l k=some v->(k,v)∈l
 | e::r,k,v,h=>by
   unfold look at h
   by_cases c:e.1=k
   ·rw [if_pos c] at h;cases h;rw [←c];exact List.mem_cons_self
   ·rw [if_neg c] at h;exact List.mem_cons_of_mem _ (O6 h)
theorem at1:∀{l:List (α×β)} {k:α} {v:β},(l.map (·.1)).Nodup->(k,v)∈l->look l k=some v
 | e::r,k,v,nd,h=>by
   have nd':=List.nodup_cons.mp nd
   unfold look
   rcases List.mem_cons.mp h with z | z
   ·rw [←z,if_pos rfl]
   ·rw [if_neg (λq=>nd'.1 (by show e.1∈_;rw [q];exact List.mem_map.mpr ⟨_,z,rfl⟩)),at1 nd'.2 z]
theorem look_none:∀{l:List (α×β)} {k:α},look l k=none↔k∉l.map (·.1)
 | [],k=>by simp [look]
 | e::r,k=>by
   unfold look
   by_cases c:e.1=k
   ·rw [if_pos c];simp [c]
   ·rw [if_neg c,look_none]
    have:k≠e.1:=λz=>c z.symm
    simp [this]
theorem aX6 {l m:List (α×β)} {k:α}:look (l++m) k=(look l k).or (look m k):=by
 induction l with
 | nil=>rfl
 | cons e r ih=>
   show (if e.1=k then some e.2 else look (r++m) k)=(if e.1=k then some e.2 else look r k).or _
   by_cases c:e.1=k
   ·rw [if_pos c,if_pos c];rfl
   ·rw [if_neg c,if_neg c,ih]
theorem ay1 {k j:α} {v:β}:look [(k,v)] j=if k=j then some v else none:=rfl
end
def aheadB (S:LS) (p:Int×Int):Bool:=match Y3 S p with
 | some t=>decide (t<S.now)
 | none=>false
def ai2 (c:Cfg) (S:LS) (p:Int×Int) (ch:List Int):Bool:=decide (c.f p+ch.length<S.now)
def w4 (fr ch:List Int):List Int:=(ch.drop 1).dropWhile λh=>decide (h∈fr)
def saidB (S:LS) (ch:List Int):Bool:=match j0 S ch with
 | some t=>decide (t<S.now)
 | none=>false
def at2 (c:Cfg) (S:LS) (ch:List Int):Bool:=decide (w4 c.fr ch=[])||saidB S (w4 c.fr ch)
open Classical in
def vSay (c:Cfg) (S:LS) (p:Int×Int) (ch:List Int):Nat:=
 if p∈c.ps/\p5 c.N c.ps c.L ch/\ch.head?=some p.2 then (if aheadB S p=true then (if ai2 c S p ch=true then 15 else if at2 c S ch=true then 0 else 16) else 14) else 12
def aa2 (S:LS) (p:Int×Int):LS:={ S with lays:=S.lays++[(p,S.now)] }
def M9 (S:LS) (p:Int×Int) (ch:List Int):(Int×Int)×Nat×List (Int×List Int)->(Int×Int)×Nat×List (Int×List Int):=λe=>if e.1=p then (e.1,e.2.1,e.2.2++[(S.now,ch)]) else e
def sayS (S:LS) (p:Int×Int) (ch:List Int) (a:Nat):LS:=
 { S with says:=if (P9 S p).isSome=true then S.says.map (M9 S p ch) else S.says++[(p,a,[(S.now,ch)])],
          first:=if (j0 S ch).isSome=true then S.first else S.first++[(ch,S.now)],m:=S.m+1 }
section
variable {A:PHp} {c:Cfg} {S:LS}
theorem bp0 (p:Int×Int):O1 (pv p)=some (l2 p):=rfl
theorem bg0 (ch:List Int):O1 (.tup (ch.map .int))=some ch:=O8 ch
theorem aX7 (H:Led A c S) (p:Int×Int):Wp (E3 [.ref c.G,pv p]) A (λv A'=>v=.bl (aheadB S p)/\A'=A) NoX:=by
 unfold E3
 have h1:=H.ob
 have h2:=H.tl
 walk_at "fn"
 walk_at "gb"
 have hv:K0 (V4 S) [p.1,p.2]=(Y3 S p).map .int:=aI3 S p
 refine⟨λhb=>?_,λhb=>?_⟩
 ·rw [hv] at hb
  obtain⟨t,ht⟩:∃t,Y3 S p=some t:=by
   cases h:Y3 S p with
   | none=>rw [h] at hb;cases hb
   | some t=>exact⟨t,rfl⟩
  rw [ht] at hv
  have hv':K0 (V4 S) [p.1,p.2]=some (.int t):=hv
  walk_at "gb"
  exact⟨by unfold aheadB;rw [ht],rfl⟩
 ·rw [hv] at hb
  refine⟨?_,rfl⟩
  unfold aheadB
  cases h:Y3 S p with
  | none=>rfl
  | some t=>rw [h] at hb;cases hb
theorem late_ok (H:Led A c S) {p:Int×Int} (hp:p∈c.ps) (ch:List Int):Wp (J8 [.ref c.G,pv p,.tup (ch.map .int)]) A (λv A'=>v=.bl (ai2 c S p ch)/\A'=A) NoX:=by
 unfold J8
 have h1:=H.ob
 have h2:=H.plan.ob
 walk_at "fn"
 walk_at "gb"
 unfold P7
 walk_at "fn"
 walk_at "gb"
 have hs:p∈srt c.ps:=(M4 c.ps).mem_iff.mpr hp
 refine⟨_,_,_,_,rfl,bp0 p,H.plan.lk,as9 (srt_nd H.pg.nd) hs,?_⟩
 walk_at "gb"
 exact⟨rfl,rfl⟩
theorem said_ahead (H:Led A c S) (ch:List Int):Wp (E4 [.ref c.G,.tup (ch.map .int)]) A (λv A'=>v=.bl (saidB S ch)/\A'=A) NoX:=by
 unfold E4
 have h1:=H.ob
 have h2:=H.ul
 walk_at "fn"
 walk_at "gb"
 have hv:=aI4 S ch
 refine⟨_,_,_,rfl,bg0 ch,h2,_,rfl,λhb=>?_,λhb=>?_⟩
 ·rw [hv] at hb
  obtain⟨t,ht⟩:∃t,j0 S ch=some t:=by
   cases h:j0 S ch with
   | none=>rw [h] at hb;cases hb
   | some t=>exact⟨t,rfl⟩
  rw [ht] at hv
  walk_at "gb"
  refine⟨_,_,_,_,rfl,bg0 ch,h2,hv,?_⟩
  walk_at "gb"
  exact⟨by unfold saidB;rw [ht],rfl⟩
 ·rw [hv] at hb
  refine⟨?_,rfl⟩
  unfold saidB
  cases h:j0 S ch with
  | none=>rfl
  | some t=>rw [h] at hb;cases hb
theorem can_ok (H:Led A c S) {ch:List Int} (hne:ch≠[]) (hc:ch.length<100):Wp (G8 [.ref c.G,.tup (ch.map .int)]) A (λv A'=>v=.bl (at2 c S ch)/\A'=A) NoX:=by
 unfold G8
 have h1:=H.ob
 walk_at "fn"
 walk_at "gb"
 refine⟨lt_cut hne,?_⟩
 walk_at "gb"
 rw [cut_1,←List.map_drop]
 have hw:Wp (M0 [some (.ref c.G),some (.tup (ch.map .int)),some (.tup ((ch.drop 1).map .int))]) A (λo A'=>o=.nx [some (.ref c.G),some (.tup (ch.map .int)),some (.tup ((w4 c.fr ch).map .int))]/\A'=A) NoX:=by
  unfold M0
  refine aH7 (λm σ B=>B=A/\∃l:List Int,l.length<=m/\σ=[some (.ref c.G),some (.tup (ch.map .int)),some (.tup (l.map .int))]/\l.dropWhile (λh=>decide (h∈c.fr))=w4 c.fr ch) (m:=100) (by decide) ⟨rfl,ch.drop 1,by rw [List.length_drop];omega,rfl,rfl⟩ ?_
  rintro m σ B ⟨rfl,l,hl,rfl,hr⟩
  walk_at "gb"
  refine⟨λhb=>?_,λhb=>?_⟩
  ·cases l with
   | nil=>cases hb
   | cons a l=>
     have h0:atI ((a::l).map PV.int) 0=some (.int a):=at0 rfl
     walk_at "gb"
     refine⟨λhb2=>?_,λhb2=>?_⟩
     ·unfold P8
      walk_at "gb"
      refine⟨lt_cut (by simp),?_⟩
      walk_at "gb"
      rw [cut_1,←List.map_drop]
      have hmem:a∈c.fr:=of_decide_eq_true hb2
      rw [List.dropWhile_cons_of_pos (by simpa using hmem)] at hr
      exact⟨m - 1,by simp at hl;omega,rfl,l,by simp at hl;omega,rfl,hr⟩
     ·have hmem:a∉c.fr:=of_decide_eq_false hb2
      rw [List.dropWhile_cons_of_neg (by simpa using hmem)] at hr
      exact⟨by rw [←hr],rfl⟩
  ·have:l=[]:=by simpa using hb
   subst this
   refine brF ⟨by rw [←hr];rfl,rfl⟩
 refine w_mono hw λo A1 hh=>?_
 obtain⟨rfl,rfl⟩:=hh
 walk_at "gb"
 refine⟨λhb=>?_,λhb=>?_⟩
 ·refine⟨?_,rfl⟩
  unfold at2;rw [hb];rfl
 ·walk_at "gb"
  refine w_mono (said_ahead H _) λv A2 hh=>?_
  obtain⟨rfl,rfl⟩:=hh
  exact⟨by unfold at2;rw [hb];rfl,rfl⟩
end
theorem aX8 {S:LS} {p:Int×Int} (h:Y3 S p=none):R4 (V4 S) (l2 p) (.int S.now)=V4 (aa2 S p):=by
 rw [o9]
 ·simp [V4,aa2]
 ·intro z
  have e:(V4 S).map (·.1)=(S.lays.map (·.1)).map l2:=by unfold V4;simp [Function.comp_def]
  rw [e] at z
  obtain⟨q,hq,e⟩:=List.mem_map.mp z
  rw [c9 e] at hq
  exact look_none.mp h hq
theorem aX9 {S:LS} {ch:List Int} {p:Int×Int} {a:Nat} (h:P9 S p=none):R4 (R9 S) (l2 p) (.ref a)=R9 (sayS S p ch a):=by
 rw [o9]
 ·unfold R9 sayS;simp only;rw [h];simp
 ·intro z
  have e:(R9 S).map (·.1)=(S.says.map (·.1)).map l2:=by unfold R9;simp [Function.comp_def]
  rw [e] at z
  obtain⟨q,hq,e⟩:=List.mem_map.mp z
  rw [c9 e] at hq
  exact look_none.mp h hq
theorem d0 {S:LS} {p:Int×Int} {ch:List Int} (e:(Int×Int)×Nat×List (Int×List Int)):(M9 S p ch e).1=e.1/\(M9 S p ch e).2.1=e.2.1:=by
 unfold M9
 by_cases h:e.1=p
 ·rw [if_pos h];exact⟨rfl,rfl⟩
 ·rw [if_neg h];exact⟨rfl,rfl⟩
theorem aN6 {S:LS} {ch:List Int} {p:Int×Int} {a:Nat} (h:(P9 S p).isSome=true):R9 (sayS S p ch a)=R9 S:=by
 unfold R9 sayS;simp only;rw [if_pos h,List.map_map]
 refine List.map_congr_left λe _=>?_
 show (l2 (M9 S p ch e).1,PV.ref (M9 S p ch e).2.1)=_
 rw [(d0 e).1,(d0 e).2]
theorem aN7 {S:LS} {ch:List Int} {p:Int×Int} {a:Nat} (h:(P9 S p).isSome=true):sadr (sayS S p ch a)=sadr S:=by
 unfold sadr sayS;simp only;rw [if_pos h,List.map_map]
 exact List.map_congr_left λe _=>(d0 e).2
theorem aY0 {S:LS} {ch:List Int} {p:Int×Int} {a:Nat} (h:P9 S p=none):sadr (sayS S p ch a)=sadr S++[a]:=by
 unfold sadr sayS;simp only;rw [h];simp
theorem bg1 {α:Type} {l:List α} (nd:l.Nodup) {i j:Nat} (hi:i<l.length) (hj:j<l.length) (e:l[i]=l[j]):i=j:=by
 rcases Nat.lt_trichotomy i j with z | z | z
 ·exact absurd e (List.pairwise_iff_getElem.mp nd i j hi hj z)
 ·exact z
 ·exact absurd e.symm (List.pairwise_iff_getElem.mp nd j i hj hi z)
section
variable {A:PHp} {c:Cfg} {S:LS}
def S4 (S:LS) (p:Int×Int) (ch:List Int) (a:Nat):LS:=
 { S with says:=if (P9 S p).isSome=true then S.says.map (M9 S p ch) else S.says++[(p,a,[(S.now,ch)])],m:=S.m+1 }
def q9 (S:LS) (ch:List Int):LS:={ S with first:=if (j0 S ch).isSome=true then S.first else S.first++[(ch,S.now)] }
theorem bl8 (p:Int×Int) (ch:List Int) (a:Nat):q9 (S4 S p ch a) ch=sayS S p ch a:=rfl
theorem aY1 {p:Int×Int} {ch:List Int} {a:Nat}:R9 (S4 S p ch a)=R9 (sayS S p ch a):=rfl
theorem aY2 {p:Int×Int} {ch:List Int} {a:Nat}:sadr (S4 S p ch a)=sadr (sayS S p ch a):=rfl
theorem a63 (H:Led A c S) {p:Int×Int} {ch:List Int} (hm:S.m<2000) {d:PV}:Wp (Y0 (m5 (t6 (L5 (eVar 0) 14) (eVar 2) (g6 aNil)) (f9 (aCons (L5 (eVar 0) 12) (aCons (eVar 3) aNil)))) [some (.ref c.G),some d,some (pv p),some (.tup (ch.map .int))]) A
 (λo A'=>o=.nx [some (.ref c.G),some d,some (pv p),some (.tup (ch.map .int))]/\∃a,Led A' c (S4 S p ch a)/\Stp c S (S4 S p ch a) A A') NoX:=by
 have h1:=H.ob
 have h2:=H.sl
 have hl:=H.lt
 have hv:K0 (R9 S) (l2 p)=(P9 S p).map λe=>.ref e.1:=aI5 S p
 have hG:=G1 H.ul
 have hsz:=H.sz
 refine w_exp (w_append (w_tsetd ?_))
 walk_at "gb"
 have h3:(A++[PO.lst []])[c.G+3]?=some (.dT (R9 S)):=get_app_of h2
 have h1':(A++[PO.lst []])[c.G]?=some _:=get_app_of h1
 have hv':K0 (R9 S) [p.1,p.2]=(P9 S p).map λe=>.ref e.1:=hv
 refine⟨λw hw=>?_,λhw=>?_⟩
 ·rw [hv'] at hw
  obtain⟨⟨a0,rows⟩,hs,rfl⟩:=Option.map_eq_some_iff.mp hw
  have hmem:(p,a0,rows)∈S.says:=O6 hs
  have hr:A[a0]?=some (.lst (rows.map rowS)):=H.rows _ hmem
  have hr':(A++[PO.lst []])[a0]?=some (.lst (rows.map rowS)):=get_app_of hr
  have hisS:(P9 S p).isSome=true:=by rw [hs];rfl
  refine⟨_,_,rfl,hr',?_⟩
  walk_at "gb"
  have hlen:(rows.map rowS).length<LIM:=by
   refine U6 ?_
   have:=hsz.2.2.2 _ hmem
   rw [List.length_map];simp at this;omega
  refine⟨hlen,rfl,a0,?_⟩
  have ha0:=H.hi a0 (List.mem_map.mpr ⟨_,hmem,rfl⟩)
  have ha0l:=G1 hr
  have e1:rows.map rowS++[PV.tup [.int S.now,.tup (ch.map .int)]]=(rows++[(S.now,ch)]).map rowS:=by rw [List.map_append];rfl
  rw [e1]
  have k:∀a o,A[a]?=some o->a≠a0->((A++[PO.lst []]).set a0 (PO.lst ((rows++[(S.now,ch)]).map rowS)))[a]?=some o:=λa o q n=>(D6 n).trans (get_app_of q)
  have hD:R9 (S4 S p ch a0)=R9 S:=by rw [aY1];exact aN6 hisS
  have hA:sadr (S4 S p ch a0)=sadr S:=by rw [aY2];exact aN7 hisS
  have hS:(S4 S p ch a0).says=S.says.map (M9 S p ch):=by unfold S4;simp only;rw [if_pos hisS]
  refine⟨⟨⟨⟨k _ _ H.plan.web.ob (by omega),k _ _ H.plan.web.ls (by omega)⟩,k _ _ H.plan.ob (by omega),k _ _ H.plan.ls (by omega),k _ _ H.plan.ld (by omega),k _ _ H.plan.lk (by omega)⟩,k _ _ H.ob (by omega),k _ _ H.fl (by omega),k _ _ H.tl (by omega),(by rw [hD];exact k _ _ H.sl (by omega)),k _ _ H.ul (by omega),?_,H.lt,(by rw [hA];exact H.hi),(by rw [hA];exact H.an),?_,H.ln,H.lp,H.pg,?_⟩,?_⟩
  ·rw [hS]
   intro e he
   obtain⟨e0,he0,rfl⟩:=List.mem_map.mp he
   unfold M9
   by_cases hk:e0.1=p
   ·rw [if_pos hk]
    have:look S.says e0.1=some e0.2:=at1 H.kn he0
    rw [hk] at this
    have e2:e0.2=(a0,rows):=Option.some.inj (this.symm.trans hs)
    rw [e2]
    exact get_set hr'
   ·rw [if_neg hk]
    refine k _ _ (H.rows e0 he0) λz=>hk ?_
    obtain⟨i,hi,e3⟩:=List.mem_iff_getElem.mp he0
    obtain⟨j,hj,e4⟩:=List.mem_iff_getElem.mp hmem
    by_cases hij:i=j
    ·subst hij;rw [e3] at e4;rw [e4]
    ·exfalso
     refine hij (bg1 H.an (i:=i) (j:=j) (by unfold sadr;rw [List.length_map];exact hi) (by unfold sadr;rw [List.length_map];exact hj) ?_)
     unfold sadr
     rw [List.getElem_map,List.getElem_map,e3,e4];exact z
  ·rw [hS,List.map_map]
   have:S.says.map ((·.1) ∘ M9 S p ch)=S.says.map (·.1):=List.map_congr_left λe _=>(d0 e).1
   rw [this];exact H.kn
  ·refine⟨show S.m+1<=2000 by omega,?_,show S.first.length<=S.m+1 by omega,?_⟩
   ·rw [hS,List.length_map];show S.says.length<=S.m+1;omega
   ·rw [hS]
    intro e he
    obtain⟨e0,he0,rfl⟩:=List.mem_map.mp he
    have:=hsz.2.2.2 e0 he0
    show (M9 S p ch e0).2.2.length<=S.m+1
    unfold M9
    by_cases hk:e0.1=p
    ·rw [if_pos hk];simp;omega
    ·rw [if_neg hk];omega
  ·refine⟨by simp,λa o q n=>k a o q λz=>n ?_,λa h=>.inl (by rw [hA] at h;exact h)⟩
   rw [z]
   refine .tail _ (.tail _ (.tail _ (.tail _ ?_)))
   exact List.mem_map.mpr ⟨_,hmem,rfl⟩
 ·rw [hv'] at hw
  have hn:P9 S p=none:=by simpa using hw
  have hlenS:(R9 S).length<LIM:=by
   refine U6 ?_
   unfold R9;rw [List.length_map];omega
  refine⟨hlenS,?_⟩
  have hput:R4 (R9 S) [p.1,p.2] (.ref A.length)=R9 (S4 S p ch A.length):=by rw [aY1];exact aX9 hn
  rw [hput]
  have hne:A.length≠c.G+3:=by omega
  have h4:((A++[PO.lst []]).set (c.G+3) (PO.dT (R9 (S4 S p ch A.length))))[A.length]?=some (.lst []):=(D6 hne).trans get_app
  have h5:((A++[PO.lst []]).set (c.G+3) (PO.dT (R9 (S4 S p ch A.length))))[c.G]?=some _:=(D6 (by omega)).trans h1'
  refine⟨_,_,rfl,h4,?_⟩
  walk_at "gb"
  refine⟨rfl,A.length,?_⟩
  have k:∀a o,A[a]?=some o->a≠c.G+3->(((A++[PO.lst []]).set (c.G+3) (PO.dT (R9 (S4 S p ch A.length)))).set A.length (PO.lst ([]++[PV.tup [.int S.now,.tup (ch.map .int)]])))[a]?=some o:=λa o q n=>(D6 (by have:=G1 q;omega)).trans ((D6 n).trans (get_app_of q))
  have hA:sadr (S4 S p ch A.length)=sadr S++[A.length]:=by rw [aY2];exact aY0 hn
  have hS:(S4 S p ch A.length).says=S.says++[(p,A.length,[(S.now,ch)])]:=by unfold S4;simp only;rw [hn];rfl
  have hlt:∀e∈S.says,e.2.1<A.length:=λe he=>G1 (H.rows e he)
  refine⟨⟨⟨⟨k _ _ H.plan.web.ob (by omega),k _ _ H.plan.web.ls (by omega)⟩,k _ _ H.plan.ob (by omega),k _ _ H.plan.ls (by omega),k _ _ H.plan.ld (by omega),k _ _ H.plan.lk (by omega)⟩,k _ _ H.ob (by omega),k _ _ H.fl (by omega),k _ _ H.tl (by omega),(D6 (Ne.symm hne)).trans (get_set h3),k _ _ H.ul (by omega),?_,H.lt,?_,?_,?_,H.ln,H.lp,H.pg,?_⟩,?_⟩
  ·rw [hS]
   intro e he
   rcases List.mem_append.mp he with z | z
   ·have:=H.hi e.2.1 (List.mem_map.mpr ⟨e,z,rfl⟩)
    exact k _ _ (H.rows e z) (by omega)
   ·rw [List.mem_singleton.mp z]
    exact get_set h4
  ·rw [hA]
   intro a ha
   rcases List.mem_append.mp ha with z | z
   ·exact H.hi a z
   ·rw [List.mem_singleton.mp z];omega
  ·rw [hA,List.nodup_append]
   refine⟨H.an,by simp,λx hx y hy z=>?_⟩
   rw [List.mem_singleton.mp hy] at z
   obtain⟨e,he,rfl⟩:=List.mem_map.mp hx
   have:=hlt e he
   omega
  ·rw [hS,List.map_append,List.nodup_append]
   refine⟨H.kn,by simp,λx hx y hy z=>?_⟩
   have hy':y=p:=by simpa using hy
   rw [z,hy'] at hx
   exact look_none.mp hn hx
  ·refine⟨show S.m+1<=2000 by omega,?_,show S.first.length<=S.m+1 by omega,?_⟩
   ·rw [hS,List.length_append];show S.says.length+1<=S.m+1;omega
   ·rw [hS]
    intro e he
    show e.2.2.length<=S.m+1
    rcases List.mem_append.mp he with z | z
    ·have:=hsz.2.2.2 e z;omega
    ·rw [List.mem_singleton.mp z];simp
  ·refine⟨by simp,λa o q n=>k a o q λz=>n ?_,λa h=>?_⟩
   ·rw [z];exact .tail _ (.tail _ List.mem_cons_self)
   ·rw [hA] at h
    rcases List.mem_append.mp h with z | z
    ·exact .inl z
    ·rw [List.mem_singleton.mp z];exact .inr (Nat.le_refl _)
theorem a64 (H:Led A c S) {ch:List Int} (hf:S.first.length<S.m) {d x:PV}:Wp (Y0 (t6 (L5 (eVar 0) 15) (eVar 3) (L5 (eVar 0) 12)) [some (.ref c.G),some d,some x,some (.tup (ch.map .int))]) A
 (λo A'=>o=.nx [some (.ref c.G),some d,some x,some (.tup (ch.map .int))]/\Led A' c (q9 S ch)/\Stp c S (q9 S ch) A A') NoX:=by
 have h1:=H.ob
 have h2:=H.ul
 have hl:=H.lt
 have hv:K0 (ak2 S) ch=(j0 S ch).map .int:=aI4 S ch
 have hsz:=H.sz
 refine w_exp (w_tsetd ?_)
 walk_at "gb"
 refine⟨_,_,bg0 ch,h2,λw hw=>?_,λhw=>?_⟩
 ·rw [hv] at hw
  have hi:(j0 S ch).isSome=true:=by
   obtain⟨t,ht,_⟩:=Option.map_eq_some_iff.mp hw
   rw [ht];rfl
  have e:q9 S ch=S:=by unfold q9;rw [if_pos hi]
  rw [e]
  exact⟨rfl,H,.refl⟩
 ·rw [hv] at hw
  have hn:j0 S ch=none:=by simpa using hw
  refine⟨U6 (by unfold ak2;rw [List.length_map];omega),rfl,?_⟩
  have e:(q9 S ch).first=S.first++[(ch,S.now)]:=by unfold q9;simp only;rw [hn];rfl
  have hput:R4 (ak2 S) ch (.int S.now)=ak2 (q9 S ch):=by
   rw [o9]
   ·unfold ak2;rw [e];simp
   ·intro z
    have e:(ak2 S).map (·.1)=S.first.map (·.1):=by unfold ak2;simp [Function.comp_def]
    rw [e] at z
    exact look_none.mp hn z
  rw [hput]
  have k:∀a o,A[a]?=some o->a≠c.G+4->(A.set (c.G+4) (PO.dT (ak2 (q9 S ch))))[a]?=some o:=λa o q n=>(D6 n).trans q
  refine⟨⟨⟨⟨k _ _ H.plan.web.ob (by omega),k _ _ H.plan.web.ls (by omega)⟩,k _ _ H.plan.ob (by omega),k _ _ H.plan.ls (by omega),k _ _ H.plan.ld (by omega),k _ _ H.plan.lk (by omega)⟩,k _ _ H.ob (by omega),k _ _ H.fl (by omega),k _ _ H.tl (by omega),k _ _ H.sl (by omega),get_set h2,λe he=>k _ _ (H.rows e he) ?_,H.lt,H.hi,H.an,H.kn,H.ln,H.lp,H.pg,⟨hsz.1,hsz.2.1,?_,hsz.2.2.2⟩⟩,⟨by simp,λa o q n=>k a o q λz=>n ?_,λa h=>.inl h⟩⟩
  ·have:=H.hi e.2.1 (List.mem_map.mpr ⟨e,he,rfl⟩)
   omega
  ·rw [e,List.length_append];show S.first.length+1<=S.m;omega
  ·rw [z];exact .tail _ (.tail _ (.tail _ List.mem_cons_self))
def aI6 (c:Cfg) (S:LS) (p:Int×Int) (ch:List Int):Nat:=if aheadB S p=true then (if ai2 c S p ch=true then 15 else if at2 c S ch=true then 0 else 16) else 14
theorem aI7 {p:Int×Int} {ch:List Int} (h:p∈c.ps/\p5 c.N c.ps c.L ch/\ch.head?=some p.2):vSay c S p ch=aI6 c S p ch:=by
 unfold vSay aI6;rw [if_pos h]
theorem bl9 (H:Led A c S):(G6 G3 ((V4 S).map (·.1))).map (λt=>PV.tup (t.map .int))=pvs (srt (S.lays.map (·.1))):=by
 have e:(V4 S).map (·.1)=(S.lays.map (·.1)).map l2:=by unfold V4;simp [Function.comp_def]
 rw [e,k7,aD3]
 rfl
theorem laid_ok (H:Led A c S):Wp (J5 [.ref c.G]) A (λv A'=>v=.ref A.length/\A'=A++[.lst (pvs (srt (S.lays.map (·.1))))]) NoX:=by
 unfold J5
 have h1:=H.ob
 have h2:=H.tl
 walk_at "fn"
 walk_at "gb"
 refine⟨⟨?_,λq hq=>?_⟩,?_⟩
 ·have:=H.ln.length_le_of_subset (l₂:=c.ps) H.lp
  rw [List.length_map] at this
  have:=H.pg.len
  unfold V4;rw [List.length_map];omega
 ·obtain⟨e,_,rfl⟩:=List.mem_map.mp hq
  simp [l2]
 ·rw [bl9 H];exact⟨rfl,rfl⟩
theorem said_ok (H:Led A c S) (p:Int×Int):Wp (M8 [.ref c.G,pv p]) A (λv A'=>∃n,v=.ref n/\A.length<=n/\A<+:A'/\A'[n]?=some (.lst ((rowsAt S p).map rowS))/\A'.length=n+1) NoX:=by
 unfold M8
 have h1:=H.ob
 have h2:=H.sl
 walk_at "fn"
 refine w_retS (w_listOf (w_tget2 ?_))
 walk_at "gb"
 have hv:K0 (R9 S) [p.1,p.2]=(P9 S p).map λe=>.ref e.1:=aI5 S p
 rw [hv]
 cases hs:P9 S p with
 | none=>
   have e:rowsAt S p=[]:=by unfold rowsAt;rw [hs];rfl
   rw [e]
   show Wp (N0 (.ref A.length)) _ _ _
   refine w_seqL get_app ?_
   exact⟨_,rfl,by simp,(List.prefix_append _ _).trans (List.prefix_append _ _),get_app,by simp⟩
 | some e=>
   have hmem:(p,e)∈S.says:=O6 hs
   have hr:=H.rows _ hmem
   have e1:rowsAt S p=e.2:=by unfold rowsAt;rw [hs];rfl
   rw [e1]
   show Wp (N0 (.ref e.1)) _ _ _
   refine w_seqL (get_app_of hr) ?_
   exact⟨_,rfl,by simp,(List.prefix_append _ _).trans (List.prefix_append _ _),get_app,by simp⟩
end
theorem at3 {α:Type} {A:PHp} {Q:PV->PHp->Prop} {E:XP} {σ:PSt} {it:ID} {mk:PSt->PSt} {g:GD} {t:TD} {e:ED} (xs:List α) (vi vo:α->PV) (pf:α->Bool) (S:PSt->Prop)
 (h:Wp (it σ) A (λJ A1=>∃n,Z6 J A1=.ok n A1/\xs.length<=n/\xs.length<=LIM/\S (mk σ)/\(∀i B,A1<+:B->item J i B=.ok (xs.map vi)[i]? B)/\
  (∀x σ B,x∈xs->S σ->A1<+:B->Wp (g (vi x) σ) B (λσ1 B1=>B1=B/\S σ1/\Wp (t σ1) B (λb B2=>b=pf x/\B<+:B2/\(b=true->Wp (e σ1) B2 (λy B3=>y=vo x/\B2<+:B3) E)) E) E)/\
  ∀B,A1<+:B->Q (.ref B.length) (B++[.lst ((xs.filter pf).map vo)])) E):Wp (O0 it mk g t e σ) A Q E:=
 as5 (w_mono h λJ A1 hh=>by
  obtain⟨n,hf,hn,hL,h0,hit,hs,he⟩:=hh
  refine⟨xs.map vi,n,λi acc σ B=>A1<+:B/\S σ/\acc=((xs.take i).filter pf).map vo,hf,by simpa using hn,⟨List.prefix_refl _,h0,by simp⟩,λi acc σ B h1=>hit i B h1.1,λi v acc σ B hv h1=>?_,λacc σ B h1=>?_⟩
  ·obtain⟨h1,h2,h3⟩:=h1
   rw [List.getElem?_map] at hv
   obtain⟨x,hx,rfl⟩:=Option.map_eq_some_iff.mp hv
   refine w_mono (hs x σ B (List.mem_of_getElem? hx) h2 h1) λσ1 B1 hh=>?_
   obtain⟨e1,h4,h5⟩:=hh
   subst e1
   refine w_mono h5 λb B2 hh=>?_
   obtain⟨hb,p2,h6⟩:=hh
   have tk:xs.take (i+1)=xs.take i++[x]:=by rw [List.take_succ,hx];rfl
   refine⟨λhbt=>w_mono (h6 hbt) λy B3 hh=>?_,λhbf=>?_⟩
   ·obtain⟨h7,p3⟩:=hh
    refine⟨h1.trans (p2.trans p3),h4,?_⟩
    rw [h3,h7,tk,List.filter_append,List.map_append]
    have:pf x=true:=by rw [←hb];exact hbt
    simp [this]
   ·refine⟨h1.trans p2,h4,?_⟩
    rw [h3,tk,List.filter_append,List.map_append]
    have:pf x=false:=by rw [←hb];exact hbf
    simp [this]
  ·obtain⟨h1,_,h3⟩:=h1
   rw [List.length_map,List.take_of_length_le (Nat.le_refl _)] at h3
   subst h3
   refine⟨?_,he B h1⟩
   rw [List.length_map]
   exact Nat.le_trans (List.length_filter_le _ _) hL)
section
variable {A:PHp} {c:Cfg} {S:LS}
def lastsOf (S:LS) (p:Int×Int):List Int:=(rowsAt S p).map λq=>q.2.getLast?.getD 0
def ay2 (c:Cfg) (S:LS) (p:Int×Int):Bool:=c.L.all λl=>decide (l∈lastsOf S p)
theorem aY3 (H:Led A c S) (p:Int×Int):(rowsAt S p).length<=2000:=by
 unfold rowsAt
 cases h:P9 S p with
 | none=>simp
 | some e=>
   have:=H.sz.2.2.2 _ (O6 h)
   have:=H.sz.1
   simp at *;omega
theorem r6 {ch:List Int} (h:ch≠[]):atI (ch.map PV.int) (-1)=some (.int (ch.getLast?.getD 0)):=by
 rw [aI1 h,List.getLast?_eq_getLast h];rfl
theorem words_ok (H:Led A c S) (p:Int×Int) (hne:∀q∈rowsAt S p,q.2≠[]) (hL:c.L.length<=1000):Wp (E5 [.ref c.G,pv p]) A (λv A'=>v=.bl (ay2 c S p)/\A<+:A') NoX:=by
 unfold E5
 have h1:=H.ob
 walk_at "fn"
 refine w_seq (w_asg ?_)
 have hc1:Wp (K5 [some (.ref c.G),some (pv p),none]) A (λv A'=>∃n,v=.ref n/\A<+:A'/\A'[n]?=some (.lst ((lastsOf S p).map .int))) NoX:=by
  unfold K5
  refine at3 (rowsAt S p) rowS (λq=>.int (q.2.getLast?.getD 0)) (λ_=>true) (λσ=>∃x y,σ=[x,y]) ?_
  walk_at "gb"
  refine w_mono (said_ok H p) λv A1 hh=>?_
  obtain⟨n,rfl,hn,p1,hl,_⟩:=hh
  walk_at "gb"
  refine⟨_,P5 hl,by simp,lim_le (by have:=aY3 H p;omega),⟨_,_,rfl⟩,λi B pB=>P6 (pre_get pB hl) i,?_,?_⟩
  ·rintro q σ B hq ⟨x,y,rfl⟩ pB
   have hla:=r6 (hne q hq)
   unfold rowS
   walk_at "go"
   refine⟨rfl,⟨_,_,rfl⟩,?_⟩
   walk_at "go"
   refine⟨rfl,List.prefix_refl _,λ_=>?_⟩
   walk_at "go"
   exact⟨rfl,List.prefix_refl _⟩
  ·intro B pB
   refine⟨_,rfl,K3 (p1.trans pB),?_⟩
   rw [get_app,List.filter_eq_self.mpr (by simp)]
   unfold lastsOf;rw [List.map_map];rfl
 refine w_mono hc1 λv A1 hh=>?_
 obtain⟨n,rfl,p1,hl⟩:=hh
 have H1:=H.mono p1
 have h1:=H1.ob
 have h2:=H1.plan.ob
 walk_at "gb"
 unfold f_Ledger_has_all_words_c2
 refine O7 (l:=c.L.map .int) (λσ=>∃x,σ=[x,some (.ref n)]) (λ_=>true) (λv=>.bl (match v with | .int l=>decide (l∈lastsOf S p) | _=>false)) ?_
 walk_at "go"
 refine⟨⟨_,rfl⟩,λi=>rfl,?_,?_⟩
 ·rintro v σ hv ⟨x,rfl⟩
  obtain⟨y,hy,rfl⟩:=List.mem_map.mp hv
  walk_at "go"
  refine⟨rfl,⟨_,rfl⟩,?_⟩
  walk_at "go"
  refine⟨rfl,rfl,λ_=>?_⟩
  walk_at "go"
  exact⟨rfl,rfl⟩
 have e1:((c.L.map PV.int).filter λ_=>true).map (λv=>PV.bl (match v with | .int l=>decide (l∈lastsOf S p) | _=>false))=(c.L.map λl=>decide (l∈lastsOf S p)).map PV.bl:=by
  rw [List.filter_eq_self.mpr (by simp),List.map_map,List.map_map];rfl
 refine⟨_,_,rfl,by rw [get_app,e1],?_,K3 p1⟩
 unfold ay2
 rw [List.all_map];rfl
def ao4 (c:Cfg) (S:LS):List (Int×Int):=(srt (S.lays.map (·.1))).filter (ay2 c S)
theorem opened_ok (H:Led A c S) (hne:∀p,∀q∈rowsAt S p,q.2≠[]) (hL:c.L.length<=1000):Wp (K7 [.ref c.G]) A (λv A'=>∃n,v=.ref n/\A.length<=n/\A<+:A'/\A'[n]?=some (.lst (pvs (ao4 c S)))) NoX:=by
 unfold K7
 have h1:=H.ob
 walk_at "fn"
 refine w_retS ?_
 unfold U0
 refine at3 (srt (S.lays.map (·.1))) pv pv (ay2 c S) (λσ=>∃x,σ=[x,some (.ref c.G)]) ?_
 walk_at "gb"
 refine w_mono (laid_ok H) λv A1 hh=>?_
 obtain⟨rfl,rfl⟩:=hh
 have hl:(A++[PO.lst (pvs (srt (S.lays.map (·.1))))])[A.length]?=some (.lst (pvs (srt (S.lays.map (·.1))))):=get_app
 have hlen:(srt (S.lays.map (·.1))).length<64:=by
  rw [(M4 _).length_eq]
  have:=H.ln.length_le_of_subset (l₂:=c.ps) H.lp
  have:=H.pg.len
  omega
 have pA:A<+:A++[PO.lst (pvs (srt (S.lays.map (·.1))))]:=List.prefix_append _ _
 have hlA:A.length<(A++[PO.lst (pvs (srt (S.lays.map (·.1))))]).length:=by simp
 generalize A++[PO.lst (pvs (srt (S.lays.map (·.1))))]=A1 at *
 walk_at "gb"
 refine⟨_,P5 hl,by simp [pvs],lim_le (by omega),⟨_,rfl⟩,λi B pB=>P6 (pre_get pB hl) i,?_,?_⟩
 ·rintro p σ B hp ⟨x,rfl⟩ pB
  have HB:=H.mono (pA.trans pB)
  have h1:=HB.ob
  walk_at "go"
  refine⟨rfl,⟨_,rfl⟩,?_⟩
  walk_at "go"
  refine w_mono (words_ok HB p (hne p) hL) λv B1 hh=>?_
  obtain⟨rfl,p2⟩:=hh
  refine⟨_,rfl,rfl,p2,λ_=>?_⟩
  walk_at "go"
  exact⟨rfl,List.prefix_refl _⟩
 ·intro B pB
  refine⟨_,rfl,by have:=pB.length_le;omega,K3 (pA.trans pB),get_app⟩
end
def tv (w:List Int):PV:=.tup (w.map .int)
def tvs (W:List (List Int)):List PV:=W.map tv
def lastD (w:List Int):Int:=w.getLast?.getD 0
def ai3 (ps:List (Int×Int)) (w:List Int):List (List Int):=(ps.filter λp=>decide (p.1=lastD w)&&!decide (p.2∈w)).map λp=>w++[p.2]
def lev (ps:List (Int×Int)):Nat->List (List Int)->List (List Int)
 | 0,W=>W
 | k+1,W=>lev ps k (W.flatMap (ai3 ps))
theorem d3 (ps:List (Int×Int)):∀(k:Nat) (W:List (List Int)),lev ps (k+1) W=(lev ps k W).flatMap (ai3 ps)
 | 0,W=>rfl
 | k+1,W=>by
   show lev ps (k+1) (W.flatMap (ai3 ps))=_
   rw [d3 ps k];rfl
structure IsWay (N:Nat) (ps:List (Int×Int)) (h:Int) (w:List Int):Prop where
 hd:w.head?=some h
 nd:w.Nodup
 inn:∀x∈w,0<=x/\x<N
 st:∀(i:Nat) a b,w[i]?=some a->w[i+1]?=some b->(a,b)∈ps
theorem IsWay.ne {N:Nat} {ps:List (Int×Int)} {h:Int} {w:List Int} (x:IsWay N ps h w):w≠[]:=λz=>by have:=x.hd;rw [z] at this;cases this
theorem IsWay.len {N:Nat} {ps:List (Int×Int)} {h:Int} {w:List Int} (x:IsWay N ps h w):w.length<=N:=by
 have:=x.nd.length_le_of_subset (l₂:=H9 N) λy hy=>mem_hands.mpr (x.inn y hy)
 rw [hands_len] at this;exact this
theorem ay3 {w:List Int} (h:w≠[]):w[w.length - 1]?=some (lastD w):=by
 unfold lastD
 rw [←List.getLast?_eq_getElem?,List.getLast?_eq_getLast h];rfl
theorem w5 {w:List Int} (h:w≠[]):w.getLast h=lastD w:=by
 unfold lastD;rw [List.getLast?_eq_getLast h];rfl
section
variable {N:Nat} {ps:List (Int×Int)} {h:Int}
theorem a65 (hh:0<=h/\h<N):IsWay N ps h [h]:=⟨rfl,by simp,by simpa using hh,λi a b h1 h2=>by cases i <;> simp at h2⟩
theorem a66 (hg:∀p∈ps,good N p) {w:List Int} (x:IsWay N ps h w) {y:Int} (hp:(lastD w,y)∈ps) (hy:y∉w):IsWay N ps h (w++[y]):=by
 refine⟨?_,?_,λz hz=>?_,λi a b h1 h2=>?_⟩
 ·have:=x.hd
  cases w with
  | nil=>cases this
  | cons a r=>exact this
 ·rw [List.nodup_append]
  exact⟨x.nd,by simp,λa ha b hb=>by rw [List.mem_singleton.mp hb];exact λz=>hy (z ▸ ha)⟩
 ·rcases List.mem_append.mp hz with q | q
  ·exact x.inn z q
  ·rw [List.mem_singleton.mp q];exact (hg _ hp).2.1
 ·by_cases hi:i+1<w.length
  ·rw [List.getElem?_append_left (by omega)] at h1
   rw [List.getElem?_append_left hi] at h2
   exact x.st i a b h1 h2
  ·have hl:i+1=w.length:=by
    have:=(List.getElem?_eq_some_iff.mp h2).1
    simp at this;omega
   rw [hl,List.getElem?_append_right (Nat.le_refl _)] at h2
   simp at h2
   rw [List.getElem?_append_left (by omega)] at h1
   have:i=w.length - 1:=by omega
   rw [this,ay3 x.ne] at h1
   cases h1
   rw [←h2];exact hp
theorem mem_exts {w v:List Int}:v∈ai3 ps w↔∃y,v=w++[y]/\(lastD w,y)∈ps/\y∉w:=by
 unfold ai3
 rw [List.mem_map]
 constructor
 ·rintro⟨p,hp,rfl⟩
  rw [List.mem_filter,Bool.and_eq_true] at hp
  have h1:p.1=lastD w:=of_decide_eq_true hp.2.1
  exact⟨p.2,rfl,by rw [←h1];exact hp.1,by simpa using hp.2.2⟩
 ·rintro⟨y,rfl,h1,h2⟩
  exact⟨(lastD w,y),by rw [List.mem_filter];exact⟨h1,by simp [h2]⟩,rfl⟩
theorem a67 {w:List Int} {y:Int} (x:IsWay N ps h (w++[y])) (hw:w≠[]):IsWay N ps h w/\(lastD w,y)∈ps/\y∉w:=by
 have hl:0<w.length:=List.length_pos_iff.mpr hw
 refine⟨⟨?_,(List.nodup_append.mp x.nd).1,λz hz=>x.inn z (List.mem_append_left _ hz),λi a b h1 h2=>?_⟩,?_,λhy=>?_⟩
 ·have:=x.hd
  cases w with
  | nil=>exact absurd rfl hw
  | cons a r=>exact this
 ·have:=(List.getElem?_eq_some_iff.mp h2).1
  exact x.st i a b (by rw [List.getElem?_append_left (by omega)];exact h1) (by rw [List.getElem?_append_left this];exact h2)
 ·refine x.st (w.length - 1) _ _ (by rw [List.getElem?_append_left (by omega)];exact ay3 hw) ?_
  rw [show w.length - 1+1=w.length by omega,List.getElem?_append_right (Nat.le_refl _)];simp
 ·exact (List.nodup_append.mp x.nd).2.2 y hy y (by simp) rfl
theorem f8 (hg:∀p∈ps,good N p) (hh:0<=h/\h<N):∀(k:Nat) (w:List Int),w∈lev ps k [[h]]↔IsWay N ps h w/\w.length=k+1
 | 0,w=>by
   show w∈[[h]]↔_
   rw [List.mem_singleton]
   constructor
   ·rintro rfl;exact⟨a65 hh,rfl⟩
   ·rintro⟨x,hl⟩
    have:=x.hd
    match w,hl,this with
    | [a],_,e=>cases e;rfl
 | k+1,w=>by
   rw [d3,List.mem_flatMap]
   constructor
   ·rintro⟨v,hv,hw⟩
    obtain⟨x,hl⟩:=(f8 hg hh k v).mp hv
    obtain⟨y,rfl,h1,h2⟩:=mem_exts.mp hw
    exact⟨a66 hg x h1 h2,by simp [hl]⟩
   ·rintro⟨x,hl⟩
    have hne:w≠[]:=x.ne
    have e:=List.dropLast_concat_getLast hne
    have hd:w.dropLast≠[]:=λz=>by
     have:=congrArg List.length z
     rw [List.length_dropLast] at this
     simp at this;omega
    rw [←e] at x
    obtain⟨x1,x2,x3⟩:=a67 x hd
    refine⟨w.dropLast,(f8 hg hh k _).mpr ⟨x1,by rw [List.length_dropLast];omega⟩,mem_exts.mpr ⟨_,e.symm,x2,x3⟩⟩
theorem a68 (hg:∀p∈ps,good N p) (hh:0<=h/\h<N) {k:Nat} (hk:N<=k):lev ps k [[h]]=[]:=by
 refine List.eq_nil_iff_forall_not_mem.mpr λw hw=>?_
 obtain⟨x,hl⟩:=(f8 hg hh k w).mp hw
 have:=x.len
 omega
theorem ai4 (hg:∀p∈ps,good N p) (nd:ps.Nodup) (w:List Int):(ai3 ps w).length<=N:=by
 have:((ps.filter λp=>decide (p.1=lastD w)&&!decide (p.2∈w)).map (·.2)).Nodup:=by
  rw [List.Nodup,List.pairwise_map]
  refine List.Pairwise.imp_of_mem (λ{a b} ha hb hab=>?_) (nd.filter _)
  rw [List.mem_filter,Bool.and_eq_true] at ha hb
  intro z
  have e1:a.1=lastD w:=of_decide_eq_true ha.2.1
  have e2:b.1=lastD w:=of_decide_eq_true hb.2.1
  exact hab (Prod.ext (e1.trans e2.symm) z)
 have:=this.length_le_of_subset (l₂:=H9 N) λy hy=>by
  obtain⟨p,hp,rfl⟩:=List.mem_map.mp hy
  exact mem_hands.mpr (hg p (List.mem_filter.mp hp).1).2.1
 rw [hands_len,List.length_map] at this
 unfold ai3;rw [List.length_map];exact this
theorem r8 {α β:Type} {f:α->List β} {n:Nat}:∀(l:List α),(∀x∈l,(f x).length<=n)->(l.flatMap f).length<=l.length*n
 | [],_=>by simp
 | a::r,h=>by
   rw [List.flatMap_cons,List.length_append,List.length_cons,Nat.succ_mul]
   have:=h a List.mem_cons_self
   have:=r8 r λx hx=>h x (List.mem_cons_of_mem _ hx)
   omega
theorem ab1 (hg:∀p∈ps,good N p) (nd:ps.Nodup) (hN:N<=6):∀k,(lev ps k [[h]]).length<=6 ^ k
 | 0=>by simp [lev]
 | k+1=>by
   rw [d3]
   have:=r8 (n:=N) (lev ps k [[h]]) λw _=>ai4 hg nd w
   have h2:=ab1 hg nd hN k
   calc _<=_:=this
    _<=6 ^ k*6:=Nat.mul_le_mul h2 hN
    _=6 ^ (k+1):=(Nat.pow_succ ..).symm
end
def E6 (ps:List (Int×Int)) (h:Int) (j:Nat):List (List Int):=(List.range j).flatMap λk=>lev ps k [[h]]
theorem d4 (ps:List (Int×Int)) (h:Int) (j:Nat):E6 ps h (j+1)=E6 ps h j++lev ps j [[h]]:=by
 unfold E6;rw [List.range_succ,List.flatMap_append];simp
section
variable {N:Nat} {ps:List (Int×Int)} {h:Int}
theorem ay4 (hg:∀p∈ps,good N p) (hh:0<=h/\h<N) (w:List Int):w∈E6 ps h N↔IsWay N ps h w:=by
 unfold E6
 rw [List.mem_flatMap]
 constructor
 ·rintro⟨k,_,hw⟩
  exact ((f8 hg hh k w).mp hw).1
 ·intro x
  have h1:=x.len
  have h2:0<w.length:=List.length_pos_iff.mpr x.ne
  exact⟨w.length - 1,List.mem_range.mpr (by omega),(f8 hg hh _ w).mpr ⟨x,by omega⟩⟩
theorem aN8 (hg:∀p∈ps,good N p) (hh:0<=h/\h<N) {j:Nat} (hj:j<=N) (e:lev ps j [[h]]=[]):E6 ps h j=E6 ps h N:=by
 have key:∀d,lev ps (j+d) [[h]]=[]/\E6 ps h (j+d)=E6 ps h j:=by
  intro d
  induction d with
  | zero=>exact⟨e,rfl⟩
  | succ d ih=>
    refine⟨by rw [←Nat.add_assoc,d3,ih.1];rfl,?_⟩
    rw [←Nat.add_assoc,d4,ih.1,ih.2,List.append_nil]
 have:=(key (N - j)).2
 rw [show j+(N - j)=N by omega] at this
 exact this.symm
theorem ay5 (hg:∀p∈ps,good N p) (nd:ps.Nodup) (hN:N<=6):∀j,j<=6->(E6 ps h j).length<=56000
 | j,hj=>by
   have a:∀k,(lev ps k [[h]]).length<=6 ^ k:=ab1 hg nd hN
   have s:∀j,(E6 ps h (j+1)).length=(E6 ps h j).length+(lev ps j [[h]]).length:=λj=>by rw [d4,List.length_append]
   have z:(E6 ps h 0).length=0:=rfl
   have s0:(E6 ps h 1).length=(E6 ps h 0).length+(lev ps 0 [[h]]).length:=s 0;have s1:(E6 ps h 2).length=(E6 ps h 1).length+(lev ps 1 [[h]]).length:=s 1;have s2:(E6 ps h 3).length=(E6 ps h 2).length+(lev ps 2 [[h]]).length:=s 2;have s3:(E6 ps h 4).length=(E6 ps h 3).length+(lev ps 3 [[h]]).length:=s 3;have s4:(E6 ps h 5).length=(E6 ps h 4).length+(lev ps 4 [[h]]).length:=s 4;have s5:(E6 ps h 6).length=(E6 ps h 5).length+(lev ps 5 [[h]]).length:=s 5
   have a0:=a 0;have a1:=a 1;have a2:=a 2;have a3:=a 3;have a4:=a 4;have a5:=a 5
   match j,hj with
   | 0,_=>omega
   | 1,_=>omega
   | 2,_=>omega
   | 3,_=>omega
   | 4,_=>omega
   | 5,_=>omega
   | 6,_=>omega
end
theorem bm0:50000<=LIM:=by unfold LIM;omega
theorem bm1:56000<=LIM:=by unfold LIM;omega
theorem bm2:70000<=LIM:=by unfold LIM;omega
theorem aY4 (w:List Int):plain (tv w)=true:=j9 w
theorem plains_tvs (W:List (List Int)):J2 (tvs W)=true:=by
 unfold J2 tvs
 rw [List.all_map,List.all_eq_true]
 exact λw _=>aY4 w
section
variable {A:PHp} {N:Nat} {ps:List (Int×Int)} {h:Int} {q:Nat}
theorem ways_c1 {B:PHp} (hq:B[q]?=some (.lst (pvs ps))) (hl:ps.length<64) {w:List Int} (hw:w≠[]) (hwl:w.length<=10) {x1 x2 x3:Option PV}:Wp (V1 [some (.ref q),x1,x2,x3,some (tv w)]) B (λv B'=>v=.ref B.length/\B'=B++[.lst (tvs (ai3 ps w))]) NoX:=by
 unfold V1
 refine O7 (l:=pvs ps) (λσ=>∃x y,σ=[x,y,some (tv w)]) (λv=>decide (ax7 v=lastD w)&&!decide (ak1 v∈w)) (λv=>tv (w++[ak1 v])) ?_
 walk_at "go"
 refine⟨_,P5 hq,Nat.le_refl _,lim_le (by rw [pvs,List.length_map];omega),⟨_,_,rfl⟩,λi=>P6 hq i,?_,rfl,?_⟩
 ·rintro v σ hv ⟨x,y,rfl⟩
  obtain⟨p,hp,rfl⟩:=aa8 hv
  have ha:atI (w.map PV.int) (-1)=some (.int (lastD w)):=r6 hw
  unfold pv tv
  walk_at "go"
  refine⟨rfl,⟨_,_,rfl⟩,?_⟩
  walk_at "go"
  refine⟨λhb=>?_,λhb=>?_⟩
  ·walk_at "go"
   refine⟨rfl,?_,λ_=>?_⟩
   ·show _=(decide (p.1=lastD w)&&_)
    rw [hb];rfl
   ·walk_at "go"
    refine w_addT ⟨by simpa using hw,lim_le (by simp;omega)⟩ ⟨rfl,?_⟩
    show _=PV.tup ((w++[p.2]).map .int)
    rw [List.map_append];rfl
  ·refine⟨rfl,?_,λz=>(nomatch z)⟩
   show _=(decide (p.1=lastD w)&&_)
   rw [hb];rfl
 ·congr 3
  unfold pvs tvs ai3
  rw [List.filter_map,List.map_map,List.map_map];rfl
theorem ways_l2 {B:PHp} (P:L8 N ps) (hq:B[q]?=some (.lst (pvs ps))) {k:Nat} {a m:Nat} (ha:B[a]?=some (.lst (tvs (lev ps k [[h]])))) (hk:k<N) (hh:0<=h/\h<N) (hm:B[m]?=some (.lst [])) {x2 x4:Option PV} :
 Wp (V2 [some (.ref q),some (.ref a),x2,some (.ref m),x4]) B (λo B'=>∃m' y4,o=.nx [some (.ref q),some (.ref a),x2,some (.ref m'),y4]/\B<+:B'/\B'[m']?=some (.lst (tvs (lev ps (k+1) [[h]])))) NoX:=by
 have hg:=P.good
 have hN:N<=6:=by have:=P.hi;omega
 unfold V2
 refine as4 (λi σ B'=>∃m' y4,σ=[some (.ref q),some (.ref a),x2,some (.ref m'),y4]/\B<+:B'/\B'[m']?=some (.lst (tvs (((lev ps k [[h]]).take i).flatMap (ai3 ps))))) ?_
 walk_at "go"
 refine⟨a,tvs (lev ps k [[h]]),rfl,⟨m,_,rfl,List.prefix_refl _,hm⟩,λi σ B' hh=>?_,λi v σ B' hv hh2=>?_,λσ B' hh=>?_⟩
 ·obtain⟨_,_,_,p1,_⟩:=hh
  exact K6 (pre_get p1 ha)
 ·obtain⟨m',y4,rfl,p1,hm'⟩:=hh2
  unfold tvs at hv
  rw [List.getElem?_map] at hv
  obtain⟨w,hw,rfl⟩:=Option.map_eq_some_iff.mp hv
  obtain⟨x,hwl⟩:=(f8 hg hh k w).mp (List.mem_of_getElem? hw)
  have hqB:=pre_get p1 hq
  walk_at "go"
  unfold f_law_ways_b2
  refine w_asg (w_bin ?_)
  walk_at "go"
  refine w_mono (ways_c1 hqB P.len x.ne (by omega)) λv B1 hh=>?_
  obtain⟨rfl,rfl⟩:=hh
  have tk:(lev ps k [[h]]).take (i+1)=(lev ps k [[h]]).take i++[w]:=by rw [List.take_succ,hw];rfl
  have l1:(((lev ps k [[h]]).take i).flatMap (ai3 ps)).length<=(lev ps k [[h]]).length*6:=by
   refine Nat.le_trans (r8 (n:=6) _ λu _=>Nat.le_trans (ai4 hg P.nd u) hN) (Nat.mul_le_mul_right _ ?_)
   rw [List.length_take];omega
  have l2:(lev ps k [[h]]).length<=6 ^ 5:=Nat.le_trans (ab1 hg P.nd hN k) (Nat.pow_le_pow_right (by decide) (by omega))
  have l3:=ai4 hg P.nd w
  have l2':(lev ps k [[h]]).length<=7776:=l2
  refine w_addL (get_app_of hm') get_app ?_ ?_
  ·refine Nat.le_trans ?_ (bm0)
   unfold tvs;rw [List.length_map,List.length_map];omega
  ·walk_at "go"
   refine⟨_,_,rfl,K3 (K3 p1),?_⟩
   rw [get_app,tk,List.flatMap_append]
   unfold tvs;simp
 ·obtain⟨m',y4,rfl,p1,hm'⟩:=hh
  unfold tvs at hm'
  rw [List.length_map,List.take_length] at hm'
  exact⟨m',y4,rfl,p1,by rw [d3];exact hm'⟩
theorem ways_ok (P:L8 N ps) (hq:A[q]?=some (.lst (pvs ps))) (hh:0<=h/\h<N) {a:Nat} (ha:A[a]?=some (.lst (tvs [[h]]))):Wp (Q9 [.ref q,.ref a]) A (λv A'=>∃n,v=.ref n/\A.length<=n/\A<+:A'/\A'[n]?=some (.lst (tvs (E6 ps h N)))) NoX:=by
 have hg:=P.good
 have hN:N<=6:=by have:=P.hi;omega
 unfold Q9
 walk_at "fn"
 walk_at "gb"
 have hw:Wp (V3 [some (.ref q),some (.ref a),some (.ref A.length),none,none]) (A++[.lst []]) (λo A'=>∃a' n y3 y4,o=.nx [some (.ref q),some (.ref a'),some (.ref n),y3,y4]/\A.length<=n/\A<+:A'/\A'[n]?=some (.lst (tvs (E6 ps h N)))) NoX:=by
  unfold V3
  refine aH7 (λm σ B=>∃j a' n y3 y4,m+j=N+1/\j<=N/\σ=[some (.ref q),some (.ref a'),some (.ref n),y3,y4]/\A<+:B/\A.length<=n/\B[a']?=some (.lst (tvs (lev ps j [[h]])))/\B[n]?=some (.lst (tvs (E6 ps h j)))) (m:=N+1) (by omega) ⟨0,a,A.length,_,_,rfl,Nat.zero_le _,rfl,List.prefix_append _ _,Nat.le_refl _,get_app_of ha,get_app⟩ ?_
  rintro m σ B ⟨j,a',n,y3,y4,hm,hj,rfl,p1,hn,ha',hn'⟩
  refine w_tval (w_bin ?_)
  walk_at "go"
  refine w_neL (get_app_of ha') get_app ⟨plains_tvs _,rfl⟩ ⟨_,rfl,λhb=>?_,λhb=>?_⟩
  ·have hjN:j<N:=by
    refine Nat.lt_of_not_le λz=>?_
    rw [a68 hg hh z] at hb
    cases hb
   unfold i8
   refine w_seq (w_asg (w_bin ?_))
   walk_at "go"
   have e1:=ay5 (h:=h) hg P.nd hN j (by omega)
   have e2:(lev ps j [[h]]).length<=6 ^ 5:=Nat.le_trans (ab1 hg P.nd hN j) (Nat.pow_le_pow_right (by decide) (by omega))
   have e3:(lev ps j [[h]]).length<=7776:=e2
   refine w_addL (get_app_of hn') (get_app_of ha') ?_ ?_
   ·refine Nat.le_trans ?_ (bm2)
    unfold tvs;rw [List.length_map,List.length_map];omega
   have e4:tvs (E6 ps h j)++tvs (lev ps j [[h]])=tvs (E6 ps h (j+1)):=by rw [d4];unfold tvs;rw [List.map_append]
   rw [e4]
   generalize hB:B++[PO.lst []]++[PO.lst (tvs (E6 ps h (j+1)))]=B1
   have p2:B<+:B1:=by rw [←hB];exact (List.prefix_append _ _).trans (List.prefix_append _ _)
   have hn1:B1[(B++[PO.lst []]).length]?=some (.lst (tvs (E6 ps h (j+1)))):=by rw [←hB];exact get_app
   have hln:A.length<=(B++[PO.lst []]).length:=by have:=p1.length_le;simp;omega
   generalize (B++[PO.lst []]).length=n1 at *
   walk_at "go"
   refine w_mono (ways_l2 (h:=h) (k:=j) P (get_app_of (pre_get p2 (pre_get p1 hq))) (get_app_of (pre_get p2 ha')) hjN hh get_app) λo B2 hh2=>?_
   obtain⟨m',y4',rfl,p3,hm'⟩:=hh2
   walk_at "go"
   exact⟨m - 1,by omega,j+1,m',n1,_,_,by omega,by omega,rfl,p1.trans (p2.trans ((List.prefix_append _ _).trans p3)),hln,hm',pre_get p3 (get_app_of hn1)⟩
  ·have he:lev ps j [[h]]=[]:=by
    cases hl:lev ps j [[h]] with
    | nil=>rfl
    | cons x r=>rw [hl] at hb;cases hb
   exact⟨a',n,y3,y4,rfl,hn,K3 p1,by rw [get_app_of hn',aN8 hg hh hj he]⟩
 refine w_mono hw λo A1 hh2=>?_
 obtain⟨a',n,y3,y4,rfl,hn,p1,hn'⟩:=hh2
 walk_at "go"
 exact hn'
def G7 (ps:List (Int×Int)) (L:List Int) (N:Nat) (h:Int):List (List Int):=(E6 ps h N).filter λw=>decide (lastD w∈L)
theorem chains_ok (P:L8 N ps) (hq:A[q]?=some (.lst (pvs ps))) (hh:0<=h/\h<N) {l:Nat} {L:List Int} (hl:A[l]?=some (.lst (L.map .int))):Wp (N9 [.ref q,.ref l,.int h]) A (λv A'=>∃n,v=.ref n/\A.length<=n/\A<+:A'/\A'[n]?=some (.lst (tvs (G7 ps L N h)))) NoX:=by
 have hg:=P.good
 have hN:N<=6:=by have:=P.hi;omega
 unfold N9
 walk_at "fn"
 refine w_retS ?_
 unfold Y2
 refine at3 (E6 ps h N) tv tv (λw=>decide (lastD w∈L)) (λσ=>∃x,σ=[x,some (.ref l)]) ?_
 walk_at "go"
 refine w_mono (ways_ok (h:=h) P (get_app_of hq) hh get_app) λv A1 hh2=>?_
 obtain⟨n,rfl,hn,p1,hn'⟩:=hh2
 have pA:A<+:A1:=(List.prefix_append _ _).trans p1
 walk_at "go"
 refine⟨_,P5 hn',by simp [tvs],Nat.le_trans (ay5 hg P.nd hN N (by omega)) bm1,⟨_,rfl⟩,λi B pB=>P6 (pre_get pB hn') i,?_,?_⟩
 ·rintro w σ B hw ⟨x,rfl⟩ pB
  have hlB:=pre_get (pA.trans pB) hl
  have hne:=((ay4 hg hh w).mp hw).ne
  have ha:atI (w.map PV.int) (-1)=some (.int (lastD w)):=r6 hne
  unfold tv
  walk_at "go"
  refine⟨rfl,⟨_,rfl⟩,?_⟩
  walk_at "go"
  refine⟨rfl,List.prefix_refl _,λ_=>?_⟩
  walk_at "go"
  exact⟨rfl,List.prefix_refl _⟩
 ·intro B pB
  exact⟨_,rfl,Nat.le_trans pA.length_le pB.length_le,K3 (pA.trans pB),get_app⟩
theorem ai5 (P:L8 N ps) (hh:0<=h/\h<N) {L w:List Int}:w∈G7 ps L N h↔p5 N ps L w/\w.head?=some h:=by
 unfold G7
 rw [List.mem_filter,ay4 P.good hh]
 constructor
 ·rintro⟨x,hl⟩
  refine⟨⟨⟨x.ne,?_⟩,x.nd,x.inn,x.st⟩,x.hd⟩
  rw [w5];exact of_decide_eq_true hl
 ·rintro⟨⟨⟨hne,hl⟩,h1,h2,h3⟩,h4⟩
  refine⟨⟨h4,h1,h2,h3⟩,?_⟩
  rw [w5] at hl
  exact decide_eq_true hl
end
def mx (x k:Int):Int:=((x+7919*k+1)*48271%2147483647)*((x+7919*k+1)*48271%2147483647 / 1009+69621)%2147483647
theorem aY5 (x k:Int):0<=mx x k/\mx x k<2147483647:=by
 unfold mx
 exact⟨Int.emod_nonneg _ (by decide),Int.emod_lt_of_pos _ (by decide)⟩
theorem aY6 (x k:Int) (A:PHp):Wp (J6 [.int x,.int k]) A (λv A'=>v=.int (mx x k)/\A'=A) NoX:=by
 unfold J6
 walk_at "fn"
 walk_at "gb"
 refine w_mul (.inl (by decide)) ?_
 walk_at "gb"
 refine w_mul (.inr (by decide)) ?_
 walk_at "gb"
 refine w_mul (.inl ?_) ?_
 ·have h1:=Int.emod_nonneg ((x+7919*k+1)*48271) (by decide:(2147483647:Int)≠0)
  have h2:=Int.emod_lt_of_pos ((x+7919*k+1)*48271) (by decide:(0:Int)<2147483647)
  omega
 walk_at "gb"
 exact⟨rfl,rfl⟩
theorem mixed_eq (x k:Int) (A:PHp):J6 [.int x,.int k] A=.ok (.int (mx x k)) A:=by
 obtain⟨v,A',e,rfl,rfl⟩:=a90 (aY6 x k A)
 exact e
theorem w_listRng {A:PHp} {Q:PV->PHp->Prop} {E:XP} {σ:PSt} {e:ED} (h:Wp (e σ) A (λx A1=>∃n:Nat,x=.int n/\n<=1000/\Q (.ref A1.length) (A1++[.lst ((H9 n).map .int)])) E):Wp (ad2 e σ) A Q E:=
 C1 (w_mono h λx A1 hh=>by
  obtain⟨n,hx,hn,q⟩:=hh
  subst hx
  refine D3 (by omega) ?_
  rw [Int.toNat_natCast]
  have:(H9 n).map PV.int=(List.range n).map λ(k:Nat)=>PV.int (k:Int):=by unfold H9;rw [List.map_map];rfl
  rw [this] at q
  exact q)
set_option maxHeartbeats 2000000 in
theorem aY7 {A:PHp} {P w r ll dl dk N l:Nat} {ps:List (Int×Int)} {L fr:List Int} {f:Int×Int->Int} (HP:PlanAt A P w r N ps L f ll dl dk) (hg:L8 N ps) (hl:A[l]?=some (.lst (fr.map .int))) (hfr:fr.length<=1000) :
 Wp (L3 [.ref A.length,.ref P,.ref l]) (A++[.ins 2 []]) (λv A'=>v=.non/\A<+:A'/\Led A' ⟨N,ps,L,f,fr,P,w,r,ll,dl,dk,A.length⟩ ⟨1,[],[],[],0⟩) NoX:=by
 unfold L3
 have hlt:=G1 hl
 have k1:=G1 HP.web.ob;have k2:=G1 HP.web.ls;have k3:=G1 HP.ob;have k4:=G1 HP.ls;have k5:=G1 HP.ld;have k6:=G1 HP.lk
 walk_at "fn"
 walk_at "gb"
 simp only [putFld,Nat.reduceEqDiff,if_false,List.length_set,List.length_append,List.length_cons,List.length_nil,Nat.zero_add]
 refine⟨trivial,?pre,⟨HP.mono (A:=A) ?pr2,?ob,?fl,?tl,?sl,?ul,λe he=>(nomatch he),⟨k3,k1,k2,k4,k5,k6⟩,λa ha=>(nomatch ha),.nil,.nil,.nil,λa ha=>(nomatch ha),hg,by simp⟩⟩
 case pre=>walk_at "pre"
 case pr2=>walk_at "pre"
 case ob=>
  show _=some (PO.ins 2 [(6,.ref P),(7,.ref (A.length+1)),(11,.tup (fr.map .int)),(12,.int 1),(13,.ref (A.length+1+1)),(14,.ref (A.length+1+1+1)),(15,.ref (A.length+1+1+1+1))])
  walk_at "st"
 case fl=>walk_at "st"
 case tl=>show (_:PHp)[A.length+1+1]?=some (PO.dT []);walk_at "st"
 case sl=>show (_:PHp)[A.length+1+1+1]?=some (PO.dT []);walk_at "st"
 case ul=>show (_:PHp)[A.length+1+1+1+1]?=some (PO.dT []);walk_at "st"
section
variable {A:PHp} {c:Cfg} {S:LS}
theorem a69 (H:Led A c S) {p:Int×Int} (hp:p∈c.ps) (hn:Y3 S p=none):Led (A.set (c.G+2) (.dT (V4 (aa2 S p)))) c (aa2 S p)/\Stp c S (aa2 S p) A (A.set (c.G+2) (.dT (V4 (aa2 S p)))):=by
 have h2:=H.tl
 have hl:=H.lt
 have k:∀a o,A[a]?=some o->a≠c.G+2->(A.set (c.G+2) (PO.dT (V4 (aa2 S p))))[a]?=some o:=λa o q n=>(D6 n).trans q
 refine⟨⟨⟨⟨k _ _ H.plan.web.ob (by omega),k _ _ H.plan.web.ls (by omega)⟩,k _ _ H.plan.ob (by omega),k _ _ H.plan.ls (by omega),k _ _ H.plan.ld (by omega),k _ _ H.plan.lk (by omega)⟩,k _ _ H.ob (by omega),k _ _ H.fl (by omega),get_set h2,k _ _ H.sl (by omega),k _ _ H.ul (by omega),λe he=>k _ _ (H.rows e he) ?_,H.lt,H.hi,H.an,H.kn,?_,?_,H.pg,H.sz⟩,⟨by simp,λa o q n=>k a o q (λz=>n (by rw [z];exact .tail _ List.mem_cons_self)),λa h=>.inl h⟩⟩
 ·have:=H.hi e.2.1 (List.mem_map.mpr ⟨e,he,rfl⟩)
  omega
 ·show ((S.lays++[(p,S.now)]).map (·.1)).Nodup
  rw [List.map_append,List.nodup_append]
  refine⟨H.ln,by simp,λx hx y hy z=>look_none.mp hn ?_⟩
  have hy':y=p:=by simpa using hy
  rw [←hy',←z];exact hx
 ·show ∀q∈(S.lays++[(p,S.now)]).map (·.1),q∈c.ps
  intro q hq
  rw [List.map_append,List.mem_append] at hq
  rcases hq with z | z
  ·exact H.lp q z
  ·simp at z;rw [z];exact hp
theorem f_lay (H:Led A c S) {p:Int×Int} (hp:p∈c.ps) (hn:Y3 S p=none):Wp (G4 [.ref c.G,a62 p]) A (λv A'=>v=.non/\Led A' c (aa2 S p)/\Stp c S (aa2 S p) A A') NoX:=by
 unfold G4
 have h1:=H.ob
 have h2:=H.tl
 walk_at "fn"
 walk_at "gb"
 refine w_mono (aX3 H p) λv A1 hh=>?_
 obtain⟨rfl,rfl⟩:=hh
 have e0:a62 p=.tup [.str "lay",pv p]:=rfl
 have hv:K0 (V4 S) [p.1,p.2]=(Y3 S p).map .int:=aI3 S p
 rw [decide_eq_true hp,e0]
 walk_at "gb"
 unfold f_Ledger_take_lay
 walk_at "fn"
 walk_at "gb"
 rw [hv,hn]
 walk_at "gb"
 have hlen:(V4 S).length<LIM:=by
  refine U6 ?_
  have:=H.ln.length_le_of_subset (l₂:=c.ps) H.lp
  rw [List.length_map] at this
  have:=H.pg.len
  unfold V4;rw [List.length_map];omega
 have hput:R4 (V4 S) [p.1,p.2] (.int S.now)=V4 (aa2 S p):=aX8 hn
 rw [hput]
 exact⟨hlen,trivial,a69 H hp hn⟩
theorem bm3 (H:Led A c S) {p:Int×Int} {ch:List Int} (hc:ch.length<100) (hm:S.m<2000) (hv:vSay c S p ch=0):Wp (G4 [.ref c.G,sayV p ch]) A (λv A'=>v=.non/\∃a,Led A' c (sayS S p ch a)/\Stp c S (sayS S p ch a) A A') NoX:=by
 have hall:p∈c.ps/\p5 c.N c.ps c.L ch/\ch.head?=some p.2:=by
  unfold vSay at hv
  by_cases h:p∈c.ps/\p5 c.N c.ps c.L ch/\ch.head?=some p.2
  ·exact h
  ·rw [if_neg h] at hv;cases hv
 rw [aI7 hall] at hv
 unfold aI6 at hv
 have g1:aheadB S p=true:=by
  cases h:aheadB S p with
  | true=>rfl
  | false=>rw [h] at hv;cases hv
 rw [g1,if_pos rfl] at hv
 have g2:ai2 c S p ch=false:=by
  cases h:ai2 c S p ch with
  | false=>rfl
  | true=>rw [h] at hv;cases hv
 rw [g2,if_neg (by simp)] at hv
 have g3:at2 c S ch=true:=by
  cases h:at2 c S ch with
  | true=>rfl
  | false=>rw [h] at hv;cases hv
 obtain⟨⟨hne,_⟩,_⟩:=hall.2.1
 unfold G4
 have h1:=H.ob
 walk_at "fn"
 walk_at "gb"
 refine w_mono (aX4 H p hc) λv A1 hh=>?_
 obtain⟨p1,b,rfl,hb⟩:=hh
 rw [hb.mpr hall]
 have H1:=H.mono p1
 have h1:=H1.ob
 have e0:sayV p ch=.tup [.str "say",pv p,.tup (ch.map .int)]:=rfl
 rw [e0]
 walk_at "gb"
 unfold f_Ledger_take_say
 walk_at "fn"
 walk_at "gb"
 refine w_mono (aX7 H1 p) λv A2 hh=>?_
 obtain⟨rfl,rfl⟩:=hh
 rw [g1]
 walk_at "gb"
 refine w_mono (late_ok H1 hall.1 ch) λv A2 hh=>?_
 obtain⟨rfl,rfl⟩:=hh
 rw [g2]
 walk_at "gb"
 refine w_mono (can_ok H1 hne hc) λv A2 hh=>?_
 obtain⟨rfl,rfl⟩:=hh
 rw [g3]
 refine⟨_,rfl,brNT (w_pass ?_)⟩
 refine w_seq (w_mono (a63 H1 hm) λo A2 hh=>?_)
 obtain⟨rfl,a,H2,st1⟩:=hh
 refine w_mono (a64 H2 (ch:=ch) (by show S.first.length<S.m+1;have:=H.sz;omega)) λo A3 hh=>?_
 obtain⟨rfl,H3,st2⟩:=hh
 rw [bl8] at H3 st2
 exact⟨trivial,a,H3,(Stp.pre p1).trans (st1.trans st2)⟩
theorem aD7 {S':LS} {A' A:PHp} (H:Led A c S) (st:Stp c S S' (A++[.lst [.str "none",.str "odd"]]) A'):A'[A.length]?=some (.lst [.str "none",.str "odd"]):=
 st.keep _ _ get_app λz=>by
  have:=H.dlt A.length (by unfold dom;simp only [List.mem_cons];simp [z])
  omega
theorem aN9 (p:Int×Int) (ch:List Int):plain (sayV p ch)=true:=by
 show ([PV.str "say",pv p,.tup (ch.map .int)].all g8)=true
 have:g8 (.tup (ch.map .int))=true:=by
  show (ch.map PV.int).all ac0=true
  rw [List.all_map];simp [Function.comp_def,ac0]
 simp [this,pv,g8,ac0]
theorem aO0 (H:Led A c S) {p:Int×Int} {ch:List Int} (hc:ch.length<100) (hm:S.m<2000) (hv:vSay c S p ch=0):Wp (P2 [.ref c.G,sayV p ch]) A (λv A'=>v=.str "none"/\∃a,Led A' c (sayS S p ch a)/\Stp c S (sayS S p ch a) A A') NoX:=by
 have hd:=aN9 p ch
 have hee:eqv (sayV p ch) (sayV p ch)=true:=(aq2 _ _ hd).mpr rfl
 have H1:=H.mono (List.prefix_append A [.lst [.str "none",.str "odd"]])
 have hG:=H1.ob
 unfold P2
 generalize hdv:sayV p ch=d at *
 walk_at "fn"
 walk_at "gb"
 subst hdv
 refine w_mono (bm3 H1 hc hm hv) λv A1 hh=>?_
 obtain⟨rfl,a,H2,st⟩:=hh
 have hl:=aD7 H st
 have hix:atI [PV.str (PySem.Str.ofString "none"),PV.str (PySem.Str.ofString "odd")] (if (!ac2 PV.non)=true then 1 else 0)=some (.str "none"):=rfl
 generalize sayV p ch=d at *
 refine⟨_,rfl,w_ixL hl hix (w_gname ?_)⟩
 dsimp only [List.set]
 walk_at "gb"
 refine w_neP hd hd ?_
 rw [hee]
 walk_at "gb"
 exact⟨rfl,a,H2,(Stp.pre (List.prefix_append _ _)).trans st⟩
end
def ay6 (N:Nat) (g:Int):List (Int×Int):=((H9 N).filter λt=>!decide (t=g)).map λt=>(g,t)
def full (N:Nat):List (Int×Int):=(H9 N).flatMap (ay6 N)
theorem ai6:∀N:Nat,2<=N->N<=4->L8 N (full N)/\srt (full N)=full N/\(full N).length<=12/\full N≠[]/\(∀a b:Int,0<=a/\a<N->0<=b/\b<N->a≠b->(a,b)∈full N):=by
 intro N h1 h2
 have mem:∀a b:Int,(a,b)∈full N↔(0<=a/\a<N)/\(0<=b/\b<N)/\b≠a:=λa b=>by
  unfold full ay6
  rw [List.mem_flatMap]
  constructor
  ·rintro⟨g,hg,h⟩
   obtain⟨t,ht,e⟩:=List.mem_map.mp h
   cases e
   rw [List.mem_filter] at ht
   exact⟨mem_hands.mp hg,mem_hands.mp ht.1,by simpa using ht.2⟩
  ·rintro⟨ha,hb,hne⟩
   exact⟨a,mem_hands.mpr ha,List.mem_map.mpr ⟨b,by rw [List.mem_filter];exact⟨mem_hands.mpr hb,by simpa using hne⟩,rfl⟩⟩
 have hN:N=2\/N=3\/N=4:=by omega
 refine⟨⟨by omega,by omega,λp hp=>?_,?_,?_⟩,?_,?_,?_,λa b ha hb hne=>(mem a b).mpr ⟨ha,hb,λz=>hne z.symm⟩⟩
 ·obtain⟨x,y,z⟩:=(mem p.1 p.2).mp hp
  exact⟨x,y,λq=>z q.symm⟩
 ·rcases hN with rfl | rfl | rfl <;> decide
 ·rcases hN with rfl | rfl | rfl <;> decide
 ·rcases hN with rfl | rfl | rfl <;> decide
 ·rcases hN with rfl | rfl | rfl <;> decide
 ·rcases hN with rfl | rfl | rfl <;> decide
theorem ao5 (N:Nat) (i:Nat):((H9 N).map PV.int)[i]?=((List.range N).map λ(k:Nat)=>PV.int (k:Int))[i]?:=by unfold H9;rw [List.map_map];rfl
theorem aO1 {A:PHp} {N:Nat} (hN:N<=6) {g:Int} {x0 x1 x3:Option PV} {xs:List (Option PV)}:Wp (ag7 (x0::x1::some (.int N)::x3::some (.int g)::xs)) A (λv A'=>v=.ref A.length/\A'=A++[.lst (pvs (ay6 N g))]) NoX:=by
 unfold ag7
 refine O7 (l:=(H9 N).map .int) (λσ=>∃x,σ=[x,some (.int g)]) (λv=>match v with | .int t=>!decide (t=g) | _=>false) (λv=>match v with | .int t=>pv (g,t) | _=>.non) ?_
 walk_at "go"
 refine⟨by simp [hands_len],lim_le (by simp [hands_len];omega),⟨_,rfl⟩,λi=>?_,?_,rfl,?_⟩
 ·rw [ag6,ao5]
 ·rintro v σ hv ⟨x,rfl⟩
  obtain⟨t,ht,rfl⟩:=List.mem_map.mp hv
  walk_at "go"
  refine⟨rfl,⟨_,rfl⟩,?_⟩
  walk_at "go"
  refine⟨rfl,rfl,λ_=>?_⟩
  walk_at "go"
  exact⟨rfl,rfl⟩
 ·congr 3
  unfold pvs ay6
  rw [List.filter_map,List.map_map,List.map_map];rfl
theorem aO2 {A:PHp} {N:Nat} (hN:N<=4) {q:Nat} (hq:A[q]?=some (.lst [])) {x0 x1 x4:Option PV} {xs:List (Option PV)}:Wp (ag8 (x0::x1::some (.int N)::some (.ref q)::x4::xs)) A
 (λo A'=>∃q' y4,o=.nx (x0::x1::some (.int N)::some (.ref q')::y4::xs)/\A<+:A'/\A'[q']?=some (.lst (pvs (full N)))) NoX:=by
 have rl:∀g,(ay6 N g).length<=4:=λg=>by
  unfold ay6;rw [List.length_map]
  exact Nat.le_trans (List.length_filter_le _ _) (by rw [hands_len];exact hN)
 have fl:∀i,(((H9 N).take i).flatMap (ay6 N)).length<=16:=λi=>by
  refine Nat.le_trans (r8 (n:=4) _ λg _=>rl g) ?_
  have:((H9 N).take i).length<=4:=by rw [List.length_take,hands_len];omega
  omega
 unfold ag8
 refine aW2 (λi σ B=>∃q' y4,σ=x0::x1::some (.int N)::some (.ref q')::y4::xs/\A<+:B/\B[q']?=some (.lst (pvs (((H9 N).take i).flatMap (ay6 N))))) ?_
 walk_at "go"
 refine⟨0,N,rfl,⟨q,x4,rfl,List.prefix_refl _,hq⟩,?_,?_⟩
 ·rintro i σ B hi ⟨q',y4,rfl,p1,hq'⟩
  walk_at "go"
  unfold f_law_b1
  refine w_asg (w_bin ?_)
  walk_at "go"
  have e0:(0:Int)+(i:Int)=(i:Int):=by omega
  rw [e0]
  refine w_mono (aO1 (by omega)) λv B1 hh=>?_
  obtain⟨rfl,rfl⟩:=hh
  refine w_addL (get_app_of hq') get_app ?_ ?_
  ·have:=fl i
   have:=rl (i:Int)
   refine lim_le ?_
   unfold pvs;rw [List.length_map,List.length_map];omega
  ·walk_at "go"
   refine⟨_,_,rfl,K3 (K3 p1),?_⟩
   have tk:(H9 N).take (i+1)=(H9 N).take i++[(i:Int)]:=by rw [List.take_succ,aW9 hi];rfl
   rw [get_app,tk,List.flatMap_append]
   unfold pvs;simp
 ·rintro σ B ⟨q',y4,rfl,p1,hq'⟩
  refine⟨q',y4,rfl,p1,?_⟩
  rw [List.take_of_length_le (by rw [hands_len];exact Nat.le_refl _)] at hq'
  exact hq'
def drawn (N:Nat) (cell:Int):List (Int×Int):=(H9 N).map λh=>(mx cell (10+h),h)
theorem aO3 {A:PHp} {N:Nat} (hN:N<=6) {cell:Int} {x0:Option PV} {xs:List (Option PV)}:Wp (ag9 (x0::some (.int cell)::some (.int N)::xs)) A (λv A'=>v=.ref A.length/\A'=A++[.lst (pvs (drawn N cell))]) NoX:=by
 unfold ag9
 refine O7 (l:=(H9 N).map .int) (λσ=>∃x,σ=[x,some (.int cell)]) (λ_=>true) (λv=>match v with | .int t=>pv (mx cell (10+t),t) | _=>.non) ?_
 walk_at "go"
 refine⟨by simp [hands_len],lim_le (by simp [hands_len];omega),⟨_,rfl⟩,λi=>?_,?_,rfl,?_⟩
 ·rw [ag6,ao5]
 ·rintro v σ hv ⟨x,rfl⟩
  obtain⟨t,ht,rfl⟩:=List.mem_map.mp hv
  walk_at "go"
  refine⟨rfl,⟨_,rfl⟩,?_⟩
  walk_at "go"
  refine⟨rfl,rfl,λ_=>?_⟩
  walk_at "go"
  refine w_eq (mixed_eq _ _ _) ?_
  walk_at "go"
  exact⟨rfl,rfl⟩
 ·congr 3
  rw [List.filter_eq_self.mpr (by simp)]
  unfold pvs drawn
  rw [List.map_map,List.map_map];rfl
theorem aO4 {A:PHp} {l:Nat} {D:List (Int×Int)} (hl:A[l]?=some (.lst (pvs D))) (hD:D.length<=100) {x0 x1 x2 x3 x4:Option PV} {xs:List (Option PV)}:Wp (ah0 (x0::x1::x2::x3::x4::some (.ref l)::xs)) A (λv A'=>v=.ref A.length/\A'=A++[.lst ((D.map (·.2)).map .int)]) NoX:=by
 unfold ah0
 refine O7 (l:=pvs D) (λσ=>∃x y,σ=[x,y]) (λ_=>true) (λv=>.int (ak1 v)) ?_
 walk_at "go"
 refine⟨_,P5 hl,Nat.le_refl _,lim_le (by unfold pvs;rw [List.length_map];omega),⟨_,_,rfl⟩,λi=>P6 hl i,?_,rfl,?_⟩
 ·rintro v σ hv ⟨x,y,rfl⟩
  obtain⟨p,hp,rfl⟩:=aa8 hv
  unfold pv
  walk_at "go"
  refine⟨rfl,⟨_,_,rfl⟩,?_⟩
  walk_at "go"
  refine⟨rfl,rfl,λ_=>?_⟩
  walk_at "go"
  exact⟨rfl,rfl⟩
 ·congr 3
  rw [List.filter_eq_self.mpr (by simp)]
  unfold pvs
  rw [List.map_map,List.map_map];rfl
def leads (N:Nat) (cell:Int) (k:Nat):List Int:=G6 ltI (((srt (drawn N cell)).take k).map (·.2))
theorem z7:∀{l:List Int},l.Pairwise (·<=·)->l.Nodup->l.Pairwise (·< ·)
 | [],_,_=>.nil
 | a::r,h1,h2=>by
   have k1:=List.pairwise_cons.mp h1
   have k2:=List.nodup_cons.mp h2
   refine List.pairwise_cons.mpr ⟨λx hx=>?_,z7 k1.2 k2.2⟩
   have:=k1.1 x hx
   have:a≠x:=λz=>k2.1 (z ▸ hx)
   omega
theorem aY8 {N:Nat} (hN:0<N) (cell:Int) {k:Nat} (hk:0<k):X9 N (leads N cell k)=true/\(leads N cell k).length<=N:=by
 have hp:((srt (drawn N cell)).map (·.2)).Perm (H9 N):=by
  refine ((M4 (drawn N cell)).map _).trans ?_
  unfold drawn
  rw [List.map_map]
  have:(λ(x:Int×Int)=>x.2) ∘ (λh=>(mx cell (10+h),h))=id:=rfl
  rw [this,List.map_id]
 have hnd:((srt (drawn N cell)).map (·.2)).Nodup:=hp.nodup_iff.mpr (aW8 N)
 have e1:((srt (drawn N cell)).take k).map (·.2)=((srt (drawn N cell)).map (·.2)).take k:=List.map_take ..
 have hlen:((srt (drawn N cell)).map (·.2)).length=N:=by rw [hp.length_eq,hands_len]
 have hL:(leads N cell k).Perm (((srt (drawn N cell)).map (·.2)).take k):=by unfold leads;rw [e1];exact N4 _ _
 have hrise:(leads N cell k).Pairwise (·< ·):=z7 (m7 _) (hL.nodup_iff.mpr (hnd.sublist (List.take_sublist _ _)))
 have hmem:∀x∈leads N cell k,0<=x/\x<N:=λx hx=>mem_hands.mp (hp.mem_iff.mp (List.mem_of_mem_take (hL.mem_iff.mp hx)))
 refine⟨lead_iff.mpr ⟨aa9 hrise ((c7 N).filter _) λx=>?_,λz=>?_⟩,?_⟩
 ·rw [List.mem_filter,mem_hands]
  exact⟨λhx=>⟨hmem x hx,decide_eq_true hx⟩,λhx=>of_decide_eq_true hx.2⟩
 ·have:=hL.length_eq
  rw [z,List.length_take,hlen] at this
  simp at this;omega
 ·rw [hL.length_eq,List.length_take,hlen];omega
theorem law_c4_ok {A:PHp} {q:Nat} {ps:List (Int×Int)} (hq:A[q]?=some (.lst (pvs ps))) (hl:ps.length<=100) {x0 x1 x2:Option PV} {xs:List (Option PV)}:Wp (ah1 (x0::x1::x2::some (.ref q)::xs)) A (λv A'=>v=.ref A.length/\A'=A++[.lst (ps.map λp=>.tup [pv p,.int 90])]) NoX:=by
 unfold ah1
 refine O7 (l:=pvs ps) (λσ=>∃x,σ=[x]) (λ_=>true) (λv=>.tup [v,.int 90]) ?_
 walk_at "go"
 refine⟨_,P5 hq,Nat.le_refl _,lim_le (by unfold pvs;rw [List.length_map];omega),⟨_,rfl⟩,λi=>P6 hq i,?_,rfl,?_⟩
 ·rintro v σ hv ⟨x,rfl⟩
  walk_at "go"
  refine⟨rfl,⟨_,rfl⟩,?_⟩
  walk_at "go"
  refine⟨rfl,rfl,λ_=>?_⟩
  walk_at "go"
  exact⟨rfl,rfl⟩
 ·congr 3
  rw [List.filter_eq_self.mpr (by simp)]
  unfold pvs
  rw [List.map_map];rfl
theorem aI8 (f:Int×Int->PV):∀ps:List (Int×Int),t7 (ps.map λp=>.tup [pv p,f p])=some (ps.map λp=>(l2 p,f p))
 | []=>rfl
 | p::r=>by
   show (O1 (pv p)).bind (λi=>(t7 (r.map λp=>.tup [pv p,f p])).map ((i,f p) :: ·))=_
   rw [aI8 f r];rfl
theorem ai7:∀(m acc:DT),(m.map (·.1)).Nodup->(∀k∈m.map (·.1),k∉acc.map (·.1))->m.foldl (λacc p=>R4 acc p.1 p.2) acc=acc++m
 | [],acc,_,_=>by simp
 | p::r,acc,nd,h=>by
   have nd':=List.nodup_cons.mp nd
   show r.foldl _ (R4 acc p.1 p.2)=_
   rw [o9 (h p.1 (by simp)),ai7 r _ nd'.2 λk hk=>?_]
   ·simp
   ·rw [List.map_append,List.mem_append]
    rintro (z | z)
    ·exact h k (List.mem_cons_of_mem _ hk) z
    ·have:k=p.1:=by simpa using z
     rw [this] at hk;exact nd'.1 hk
theorem aY9 {ps:List (Int×Int)} (nd:ps.Nodup) (f:Int×Int->PV):(ps.map λp=>(l2 p,f p)).foldl (λacc p=>R4 acc p.1 p.2) []=ps.map λp=>(l2 p,f p):=by
 rw [ai7 _ [] ?_ (λ_ _ z=>nomatch z)]
 ·rfl
 ·rw [List.map_map]
  exact List.Pairwise.map _ (λa b hab z=>hab (c9 z)) nd
theorem mem_insM {M:List Int} {x y:Int}:y∈T2 M x↔y=x\/y∈M:=by
 unfold T2
 have e:=List.takeWhile_append_dropWhile (p:=λy:Int=>decide (y<x)) (l:=M)
 rw [List.mem_append,List.mem_cons]
 have:y∈M↔y∈M.takeWhile (λy=>decide (y<x))\/y∈M.dropWhile (λy=>decide (y<x)):=by rw [←List.mem_append,e]
 rw [this]
 constructor
 ·rintro (z | z | z)
  ·exact .inr (.inl z)
  ·exact .inl z
  ·exact .inr (.inr z)
 ·rintro (z | z | z)
  ·exact .inr (.inl z)
  ·exact .inl z
  ·exact .inr (.inr z)
theorem aZ0 {M:List Int} {x y:Int}:y∈t8 M x↔y=x\/y∈M:=by
 unfold t8
 by_cases h:x∈M
 ·rw [if_pos h]
  exact⟨.inr,λz=>z.elim (λe=>e ▸ h) id⟩
 ·rw [if_neg h];exact mem_insM
theorem aZ1 {l:List Int} {y:Int}:y∈setL l↔y∈l:=by
 have key:∀(l M:List Int),y∈l.foldl t8 M↔y∈l\/y∈M:=by
  intro l
  induction l with
  | nil=>intro M;simp
  | cons a r ih=>
    intro M
    rw [List.foldl_cons,ih,aZ0,List.mem_cons]
    constructor
    ·rintro (z | z | z)
     ·exact .inl (.inr z)
     ·exact .inl (.inl z)
     ·exact .inr z
    ·rintro ((z | z) | z)
     ·exact .inr (.inl z)
     ·exact .inl z
     ·exact .inr (.inr z)
 have:=key l []
 simpa [setL] using this
theorem ay7:∀{M:List Int} {x:Int},M.Pairwise (·< ·)->x∉M->(T2 M x).Pairwise (·< ·)
 | [],x,_,_=>by simp [T2]
 | a::r,x,h,hx=>by
   have k:=List.pairwise_cons.mp h
   have hne:a≠x:=λz=>hx (by rw [z];exact List.mem_cons_self)
   by_cases hlt:a<x
   ·have e:T2 (a::r) x=a::T2 r x:=by
     unfold T2
     rw [List.takeWhile_cons_of_pos (by simpa using hlt),List.dropWhile_cons_of_pos (by simpa using hlt)];rfl
    rw [e]
    refine List.pairwise_cons.mpr ⟨λy hy=>?_,ay7 k.2 λz=>hx (List.mem_cons_of_mem _ z)⟩
    rcases mem_insM.mp hy with z | z
    ·rw [z];exact hlt
    ·exact k.1 y z
   ·have e:T2 (a::r) x=x::a::r:=by
     unfold T2
     rw [List.takeWhile_cons_of_neg (by simpa using hlt),List.dropWhile_cons_of_neg (by simpa using hlt)];rfl
    rw [e]
    refine List.pairwise_cons.mpr ⟨λy hy=>?_,h⟩
    rcases List.mem_cons.mp hy with z | z
    ·omega
    ·have:=k.1 y z;omega
theorem aO5 (l:List Int):(setL l).Pairwise (·< ·):=by
 have key:∀(l M:List Int),M.Pairwise (·< ·)->(l.foldl t8 M).Pairwise (·< ·):=by
  intro l
  induction l with
  | nil=>intro M h;exact h
  | cons a r ih=>
    intro M h
    refine ih _ ?_
    unfold t8
    by_cases hm:a∈M
    ·rw [if_pos hm];exact h
    ·rw [if_neg hm];exact ay7 h hm
 exact key l [] .nil
theorem w_sortSetG {A:PHp} {Q:PV->PHp->Prop} {E:XP} {σ:PSt} {e:ED} (h:Wp (e σ) A (λx A1=>∃n ns,x=.ref n/\A1[n]?=some (.lst (List.map .int ns))/\(∀x∈ns,0<=x/\x<=5)/\Q (.ref A1.length) (A1++[.lst ((setL ns).map .int)])) E):Wp (t9 e σ) A Q E:=
 C1 (w_mono h λx A1 hh=>by
  obtain⟨n,ns,hx,h0,h1,q⟩:=hh
  subst hx
  refine C1 (b8 h0 ?_)
  rw [O8]
  exact D3 h1 q)
theorem ay8 {S:LS} {p:Int×Int} {ch:List Int} {a:Nat} (kn:(S.says.map (·.1)).Nodup) (q:Int×Int):rowsAt (sayS S p ch a) q=if q=p then rowsAt S q++[(S.now,ch)] else rowsAt S q:=by
 unfold rowsAt P9
 by_cases hs:(P9 S p).isSome=true
 ·have e:(sayS S p ch a).says=S.says.map (M9 S p ch):=by unfold sayS;simp only;rw [if_pos hs]
  rw [e]
  have lk:∀(l:List ((Int×Int)×Nat×List (Int×List Int))),look (l.map (M9 S p ch)) q=(look l q).map λe=>if q=p then (e.1,e.2++[(S.now,ch)]) else e:=by
   intro l
   induction l with
   | nil=>rfl
   | cons x r ih=>
     show (if (M9 S p ch x).1=q then some (M9 S p ch x).2 else look (r.map (M9 S p ch)) q)=(if x.1=q then some x.2 else look r q).map _
     rw [(d0 x).1]
     by_cases h1:x.1=q
     ·rw [if_pos h1,if_pos h1]
      unfold M9
      by_cases h2:q=p
      ·rw [if_pos (h1.trans h2),Option.map_some,if_pos h2]
      ·rw [if_neg (λz=>h2 (h1.symm.trans z)),Option.map_some,if_neg h2]
     ·rw [if_neg h1,if_neg h1];exact ih
  rw [lk]
  by_cases h2:q=p
  ·subst h2
   rw [if_pos rfl]
   cases h3:look S.says q with
   | none=>unfold P9 at hs;rw [h3] at hs;cases hs
   | some e=>simp
  ·rw [if_neg h2]
   cases look S.says q <;> simp [h2]
 ·have hn:P9 S p=none:=by simpa using hs
  have e:(sayS S p ch a).says=S.says++[(p,a,[(S.now,ch)])]:=by unfold sayS;simp only;rw [if_neg hs]
  rw [e,aX6]
  by_cases h2:q=p
  ·subst h2
   have:look S.says q=none:=hn
   rw [this,if_pos rfl,ay1,if_pos rfl];rfl
  ·rw [if_neg h2,ay1,if_neg (Ne.symm h2)]
   cases look S.says q <;> rfl
theorem ao6 {S:LS} {p:Int×Int} {ch:List Int} {a:Nat} (kn:(S.says.map (·.1)).Nodup) (q:Int×Int):lastsOf (sayS S p ch a) q=if q=p then lastsOf S q++[lastD ch] else lastsOf S q:=by
 unfold lastsOf
 rw [ay8 kn]
 by_cases h:q=p
 ·rw [if_pos h,if_pos h,List.map_append];rfl
 ·rw [if_neg h,if_neg h]
abbrev WL:=List ((Int×Int)×Nat×List Int)
def wD (W:WL):DT:=W.map λe=>(l2 e.1,PV.ref e.2.1)
structure I25 (B:PHp) (c:Cfg) (S:LS) (ns cells:List Int) (q l wd sc:Nat) (W:WL) (t i:Nat):Prop where
 led:Led B c S
 ar:B[0]?=some (.ro (ns.map .int))
 pq:B[q]?=some (.lst (pvs c.ps))
 pl:B[l]?=some (.lst (c.L.map .int))
 wo:B[wd]?=some (.dT (wD W))
 wr:∀e∈W,B[e.2.1]?=some (.lst (e.2.2.map .int))
 cs:B[sc]?=some (.lst (cells.map .int))
 fo:∀a,a=0\/a=q\/a=l\/a=wd\/a=sc\/a∈W.map (λe=>e.2.1)->a∉own c S
 wg:c.G+4<wd
 wk:W.map (·.1)=c.ps
 ww:∀e∈W,e.2.2.Pairwise (·< ·)/\∀x,x∈e.2.2↔x∈lastsOf S e.1
 la:∀p∈c.ps,Y3 S p=some 1
 lk:S.lays.map (·.1)=c.ps
 now:2<=S.now/\S.now<=t
 ms:S.m<=i
 said:∀p,∀r∈rowsAt S p,r.2≠[]/\lastD r.2∈c.L
structure C25 (c:Cfg):Prop where
 ps:c.ps=full c.N
 N:2<=c.N/\c.N<=4
 L:X9 c.N c.L=true
 f:∀p∈c.ps,c.f p=90
 fr:c.fr=H9 c.N
section
variable {B B':PHp} {c:Cfg} {S:LS} {ns cells:List Int} {q l wd sc:Nat} {W:WL} {t i:Nat}
theorem I25.lens (H:I25 B c S ns cells q l wd sc W t i):∀a,a=0\/a=q\/a=l\/a=wd\/a=sc\/a∈W.map (λe=>e.2.1)->a<B.length:=λa ha=>by
 rcases ha with rfl | rfl | rfl | rfl | rfl | ha
 ·exact G1 H.ar
 ·exact G1 H.pq
 ·exact G1 H.pl
 ·exact G1 H.wo
 ·exact G1 H.cs
 ·obtain⟨e,he,rfl⟩:=List.mem_map.mp ha
  exact G1 (H.wr e he)
theorem I25.keep (H:I25 B c S ns cells q l wd sc W t i) (h1:Led B' c S) (k:∀a o,(a=0\/a=q\/a=l\/a=wd\/a=sc\/a∈W.map (λe=>e.2.1))->B[a]?=some o->B'[a]?=some o):I25 B' c S ns cells q l wd sc W t i:=
 ⟨h1,k _ _ (by simp) H.ar,k _ _ (by simp) H.pq,k _ _ (by simp) H.pl,k _ _ (by simp) H.wo,λe he=>k _ _ (by have:e.2.1∈W.map (λe=>e.2.1):=List.mem_map.mpr ⟨e,he,rfl⟩;simp [this]) (H.wr e he),k _ _ (by simp) H.cs,H.fo,H.wg,H.wk,H.ww,H.la,H.lk,H.now,H.ms,H.said⟩
theorem I25.mono (H:I25 B c S ns cells q l wd sc W t i) (e:B<+:B'):I25 B' c S ns cells q l wd sc W t i:=H.keep (H.led.mono e) λ_ _ _ h=>pre_get e h
theorem I25.setNew {k:Nat} {o:PO} (H:I25 B c S ns cells q l wd sc W t i) (e:B<+:B') (hk:B.length<=k):I25 (B'.set k o) c S ns cells q l wd sc W t i:=
 H.keep (H.led.setNew e hk) λa u ha h=>by
  have:=H.lens a ha
  exact (D6 (by omega)).trans (pre_get e h)
theorem I25.move (H:I25 B c S ns cells q l wd sc W t i):Wp (J4 [.ref c.G]) B (λv B'=>I25 B' c { S with now:=S.now+1 } ns cells q l wd sc W (t+1) i) NoX:=by
 refine w_mono (move_ok H.led) λv B' hh=>?_
 obtain⟨_,H1,st⟩:=hh
 have k:∀a o,(a=0\/a=q\/a=l\/a=wd\/a=sc\/a∈W.map (λe=>e.2.1))->B[a]?=some o->B'[a]?=some o:=λa o ha h=>st.keep a o h (H.fo a ha)
 have hn:=H.now
 exact⟨H1,k _ _ (by simp) H.ar,k _ _ (by simp) H.pq,k _ _ (by simp) H.pl,k _ _ (by simp) H.wo,λe he=>k _ _ (by have:e.2.1∈W.map (λe=>e.2.1):=List.mem_map.mpr ⟨e,he,rfl⟩;simp [this]) (H.wr e he),k _ _ (by simp) H.cs,H.fo,H.wg,H.wk,H.ww,H.la,H.lk,⟨show 2<=S.now+1 by omega,show S.now+1<=(t+1:Nat) by omega⟩,H.ms,H.said⟩
theorem C25.pass (C:C25 c):L8 c.N c.ps/\srt c.ps=c.ps/\c.ps.length<=12/\c.ps≠[]/\(∀a b:Int,0<=a/\a<c.N->0<=b/\b<c.N->a≠b->(a,b)∈c.ps):=by
 rw [C.ps];exact ai6 c.N C.N.1 C.N.2
theorem C25.lead (C:C25 c):c.L≠[]/\c.L.Pairwise (·< ·)/\(∀x∈c.L,0<=x/\x<c.N)/\c.L.length<=6:=by
 obtain⟨h1,h2⟩:=lead_iff.mp C.L
 have hp:c.L.Pairwise (·< ·):=by rw [h1];exact (c7 _).filter _
 refine⟨h2,hp,λx hx=>?_,?_⟩
 ·rw [h1,List.mem_filter] at hx;exact mem_hands.mp hx.1
 ·have:=List.length_filter_le (λh=>decide (h∈c.L)) (H9 c.N)
  rw [←h1,hands_len] at this
  have:=C.N;omega
theorem C25.ex (C:C25 c) {h:Int} (hh:0<=h/\h<c.N):G7 c.ps c.L c.N h≠[]:=by
 obtain⟨P,_,_,_,all⟩:=C.pass
 obtain⟨hne,_,hin,_⟩:=C.lead
 obtain⟨x,hx⟩:=List.exists_mem_of_ne_nil _ hne
 intro z
 have key:∀w,p5 c.N c.ps c.L w/\w.head?=some h->False:=λw hw=>by
  have:=(ai5 P hh).mpr hw
  rw [z] at this;cases this
 by_cases e:x=h
 ·exact key [h] ⟨⟨⟨by simp,by simp [←e,hx]⟩,by simp,by simpa using hh,λi a b h1 h2=>by cases i <;> simp at h2⟩,rfl⟩
 ·refine key [h,x] ⟨⟨⟨by simp,by simpa using hx⟩,by simp;exact λz=>e z.symm,λy hy=>?_,λi a b h1 h2=>?_⟩,rfl⟩
  ·simp at hy
   rcases hy with rfl | rfl
   ·exact hh
   ·exact hin _ hx
  ·match i with
   | 0=>simp at h1 h2;rw [←h1,←h2];exact all h x hh (hin x hx) (λz=>e z.symm)
   | k+1=>simp at h2
theorem aI9 {α:Type} {f:α->Bool}:∀{l:List α},(∀x∈l,f x=true)->l.dropWhile f=[]
 | [],_=>rfl
 | a::r,h=>by
   rw [List.dropWhile_cons_of_pos (h a List.mem_cons_self)]
   exact aI9 λx hx=>h x (List.mem_cons_of_mem _ hx)
theorem C25.vSay (C:C25 c) (H:I25 B c S ns cells q l wd sc W t i) (ht:t<=90) {p:Int×Int} (hp:p∈c.ps) {ch:List Int} (hc:ch∈G7 c.ps c.L c.N p.2):vSay c S p ch=0/\ch≠[]/\ch.length<100/\lastD ch∈c.L:=by
 obtain⟨P,_⟩:=C.pass
 have hg:=P.good p hp
 obtain⟨h1,h2⟩:=(ai5 P hg.2.1).mp hc
 obtain⟨⟨hne,hl⟩,hnd,hin,hst⟩:=id h1
 have hlen:ch.length<=c.N:=by
  have:=hnd.length_le_of_subset (l₂:=H9 c.N) λy hy=>mem_hands.mpr (hin y hy)
  rw [hands_len] at this;exact this
 refine⟨?_,hne,by have:=C.N;omega,by rw [←w5 hne];exact hl⟩
 rw [aI7 ⟨hp,h1,h2⟩]
 unfold aI6
 have a1:aheadB S p=true:=by unfold aheadB;rw [H.la p hp];exact decide_eq_true (by have:=H.now;omega)
 have a2:ai2 c S p ch=false:=by
  unfold ai2;rw [C.f p hp]
  exact decide_eq_false (by have:=H.now;omega)
 have a3:at2 c S ch=true:=by
  unfold at2
  have:w4 c.fr ch=[]:=by
   unfold w4
   refine aI9 λx hx=>?_
   rw [C.fr]
   exact decide_eq_true (mem_hands.mpr (hin x (List.mem_of_mem_drop hx)))
  rw [this];rfl
 rw [a1,a2,a3];rfl
def updW (W:WL) (p:Int×Int) (a:Nat) (w:List Int):WL:=W.map λe=>if e.1=p then (e.1,a,w) else e
theorem bg2 (p:Int×Int) (a:Nat) (w:List Int):(updW W p a w).map (·.1)=W.map (·.1):=by
 unfold updW
 rw [List.map_map]
 refine List.map_congr_left λe _=>?_
 show (if e.1=p then (e.1,a,w) else e).1=e.1
 by_cases h:e.1=p
 ·rw [if_pos h]
 ·rw [if_neg h]
theorem bg3 {p:Int×Int} (hp:p∈W.map (·.1)) (a:Nat) (w:List Int):R4 (wD W) (l2 p) (.ref a)=wD (updW W p a w):=by
 unfold R4
 rw [if_pos]
 ·unfold wD updW
  rw [List.map_map,List.map_map]
  refine List.map_congr_left λe _=>?_
  show (if l2 e.1=l2 p then (l2 e.1,PV.ref a) else (l2 e.1,PV.ref e.2.1))=(l2 (if e.1=p then (e.1,a,w) else e).1,PV.ref (if e.1=p then (e.1,a,w) else e).2.1)
  by_cases h:e.1=p
  ·rw [if_pos h,if_pos (by rw [h])]
  ·rw [if_neg h,if_neg (λz=>h (c9 z))]
 ·rw [List.any_eq_true]
  obtain⟨e,he,rfl⟩:=List.mem_map.mp hp
  exact⟨_,List.mem_map.mpr ⟨e,he,rfl⟩,by simp⟩
theorem a94 (W:WL) (p:Int×Int):K0 (wD W) (l2 p)=(look W p).map λe=>.ref e.1:=ab0 (λe:Nat×List Int=>PV.ref e.1) _ _
theorem at4 {α:Type} {W:List ((Int×Int)×α)} {p:Int×Int} (h:p∈W.map (·.1)):∃e,look W p=some e:=by
 cases h':look W p with
 | none=>exact absurd h (look_none.mp h')
 | some e=>exact⟨e,rfl⟩
theorem a70 (C:C25 c) (H:I25 B c S ns cells q l wd sc W t i):ao4 c S=c.ps.filter λp=>decide (((look W p).map (·.2)).getD []=c.L):=by
 obtain⟨P,hs,_⟩:=C.pass
 unfold ao4
 rw [H.lk,hs]
 refine List.filter_congr λp hp=>?_
 obtain⟨e,he⟩:=at4 (W:=W) (by rw [H.wk];exact hp)
 obtain⟨hr,hm⟩:=H.ww _ (O6 he)
 rw [he]
 show _=decide (e.2=c.L)
 have hsub:∀x∈lastsOf S p,x∈c.L:=λx hx=>by
  unfold lastsOf at hx
  obtain⟨r,hr,rfl⟩:=List.mem_map.mp hx
  exact (H.said p r hr).2
 cases ha:ay2 c S p with
 | true=>
   unfold ay2 at ha
   rw [List.all_eq_true] at ha
   refine (decide_eq_true ?_).symm
   exact aa9 hr C.lead.2.1 λx=>⟨λhx=>hsub x ((hm x).mp hx),λhx=>(hm x).mpr (of_decide_eq_true (ha x hx))⟩
 | false=>
   refine (decide_eq_false λz=>?_).symm
   have:ay2 c S p=true:=by
    unfold ay2
    rw [List.all_eq_true]
    intro x hx
    rw [←z] at hx
    exact decide_eq_true ((hm x).mp hx)
   rw [this] at ha;cases ha
theorem law_c6_ok (C:C25 c) (H:I25 B c S ns cells q l wd sc W t i) {x0 x1 x2 x4 x6 x7 x8:Option PV} {xs:List (Option PV)}:Wp (ah5 (x0::x1::x2::some (.ref q)::x4::some (.ref l)::x6::x7::x8::some (.ref wd)::xs)) B (λv B'=>v=.ref B.length/\B'=B++[.lst (pvs (c.ps.filter λp=>decide (((look W p).map (·.2)).getD []=c.L)))]) NoX:=by
 unfold ah5
 have hlen:=C.pass.2.2.1
 refine O7 (l:=pvs c.ps) (λσ=>∃x,σ=[x,some (.ref wd),some (.ref l)]) (λv=>decide (((look W (ax7 v,ak1 v)).map (·.2)).getD []=c.L)) id ?_
 have hq:=H.pq
 walk_at "go"
 refine⟨_,P5 hq,Nat.le_refl _,lim_le (by unfold pvs;rw [List.length_map];omega),⟨_,rfl⟩,λi=>P6 hq i,?_,rfl,?_⟩
 ·rintro v σ hv ⟨x,rfl⟩
  obtain⟨p,hp,rfl⟩:=aa8 hv
  obtain⟨e,he⟩:=at4 (W:=W) (by rw [H.wk];exact hp)
  have hd:=H.wo
  have hv:K0 (wD W) (l2 p)=some (.ref e.1):=by rw [a94,he];rfl
  have hr:=H.wr _ (O6 he)
  have hl:=H.pl
  walk_at "go"
  refine⟨rfl,⟨_,rfl⟩,?_⟩
  refine w_tval (w_bin (w_tget ?_))
  walk_at "go"
  refine⟨rfl,?_,λ_=>?_⟩
  ·show _=decide (((look W p).map (·.2)).getD []=c.L)
   rw [he];rfl
  ·walk_at "go"
   exact⟨rfl,rfl⟩
 ·congr 3
  unfold pvs
  rw [List.filter_map,List.map_id];rfl
theorem law_l4_ok (H:I25 B c S ns cells q l wd sc W t i) {x:Int} {x0 x1 x2 x3 x4 x5 x6 x8 x9 x11:Option PV} {xs:List (Option PV)} :
 Wp (ah4 (x0::x1::x2::x3::x4::x5::x6::some (.ref c.G)::x8::x9::some (.int x)::x11::xs)) B
  (λo B'=>∃y11 S',o=.nx (x0::x1::x2::x3::x4::x5::x6::some (.ref c.G)::x8::x9::some (.int x)::y11::xs)/\I25 B' c S' ns cells q l wd sc W (t+2) i) NoX:=by
 unfold ah4
 have m4:0<=x%4/\x%4<4:=by omega
 obtain⟨n,hn,hn2⟩:∃n:Nat,atI [PV.int 0,PV.int 1,PV.int 0,PV.int 2] (x%4)=some (.int n)/\n<=2:=by
  have:x%4=0\/x%4=1\/x%4=2\/x%4=3:=by omega
  rcases this with z | z | z | z <;> rw [z]
  ·exact⟨0,rfl,by omega⟩
  ·exact⟨1,rfl,by omega⟩
  ·exact⟨0,rfl,by omega⟩
  ·exact⟨2,rfl,by omega⟩
 refine aW2 (λj σ B'=>∃y11 S',σ=x0::x1::x2::x3::x4::x5::x6::some (.ref c.G)::x8::x9::some (.int x)::y11::xs/\I25 B' c S' ns cells q l wd sc W (t+j) i) ?_
 refine w_irng1 (w_bin ?_)
 walk_at "go"
 have H0:=H.mono (List.prefix_append B [PO.lst [PV.int 0,PV.int 1,PV.int 0,PV.int 2]])
 refine⟨0,n,rfl,⟨_,S,rfl,H0⟩,?_,?_⟩
 ·rintro j σ B1 hj ⟨y11,S',rfl,H1⟩
  have hG:=H1.led.ob
  walk_at "go"
  unfold f_law_b4
  walk_at "go"
  refine w_mono H1.move λv B2 hh=>?_
  exact⟨_,_,rfl,hh⟩
 ·rintro σ B1 ⟨y11,S',rfl,H1⟩
  have hw:=H1.now
  exact⟨y11,S',rfl,H1.led,H1.ar,H1.pq,H1.pl,H1.wo,H1.wr,H1.cs,H1.fo,H1.wg,H1.wk,H1.ww,H1.la,H1.lk,⟨hw.1,by omega⟩,H1.ms,H1.said⟩
theorem a71 (p:Int×Int):aD6 4 (pv p):=.tup (by simp) λv hv=>by
 simp at hv
 rcases hv with rfl | rfl <;> exact .int
theorem bg4 {A:PHp} {a b:Nat} {o o':PO} (h1:A[a]?=some o) (h2:A[b]?=some o') (hne:o≠o'):a≠b:=λz=>hne (by rw [z,h2] at h1;exact (Option.some.inj h1).symm)
theorem I25.say {B3 B4:PHp} {a a' aw:Nat} {p:Int×Int} {ch w:List Int} (C:C25 c) (H:I25 B c S ns cells q l wd sc W t i) (hp:p∈c.ps) (he:look W p=some (aw,w)) (hlast:lastD ch∈c.L) (hne:ch≠[]) (H3:Led B3 c (sayS S p ch a)) (st:Stp c S (sayS S p ch a) B B3)
 (e:B3<+:B4) (h4:B4[a']?=some (.lst ((setL (w++[lastD ch])).map .int))) (ha':B3.length<=a'):I25 (B4.set wd (.dT (wD (updW W p a' (setL (w++[lastD ch])))))) c (sayS S p ch a) ns cells q l wd sc (updW W p a' (setL (w++[lastD ch]))) t (i+1):=by
 have k0:∀b o,(b=0\/b=q\/b=l\/b=wd\/b=sc\/b∈W.map (λe=>e.2.1))->B[b]?=some o->B4[b]?=some o:=λb o hb h=>pre_get e (st.keep b o h (H.fo b hb))
 have hw4:B4[wd]?=some (.dT (wD W)):=k0 _ _ (by simp) H.wo
 have k:∀b o,(b=0\/b=q\/b=l\/b=wd\/b=sc\/b∈W.map (λe=>e.2.1))->o≠.dT (wD W)->B[b]?=some o->(B4.set wd (.dT (wD (updW W p a' (setL (w++[lastD ch]))))))[b]?=some o:=λb o hb ho h=>(D6 (bg4 (k0 b o hb h) hw4 ho)).trans (k0 b o hb h)
 have hwdl:=G1 H.wo
 have hnew:∀b,(b=0\/b=q\/b=l\/b=wd\/b=sc\/b∈W.map (λe=>e.2.1))->b∉own c (sayS S p ch a):=λb hb=>aI2 st (H.lens b hb) (H.fo b hb)
 have hwdom:wd∉dom c (sayS S p ch a):=λz=>by
  have hlt:=H.led.lt
  have hwg:=H.wg
  have ho:=hnew wd (by simp)
  unfold dom at z
  simp only [List.mem_cons] at z
  rcases z with z | z | z | z | z | z | z | z
  all_goals first | omega | exact ho z
 have ha'l:=G1 h4
 have hawd:a'≠wd:=by have:=st.len;omega
 have hmem:∀x∈updW W p a' (setL (w++[lastD ch])),(x∈W/\x.1≠p)\/x=(p,a',setL (w++[lastD ch])):=λx hx=>by
  unfold updW at hx
  obtain⟨y,hy,rfl⟩:=List.mem_map.mp hx
  by_cases h:y.1=p
  ·rw [if_pos h,h];exact .inr rfl
  ·rw [if_neg h];exact .inl ⟨hy,h⟩
 have hww:=H.ww _ (O6 he)
 refine⟨(H3.mono e).set hwdom,k _ _ (by simp) nofun H.ar,k _ _ (by simp) nofun H.pq,k _ _ (by simp) nofun H.pl,get_set hw4,λx hx=>?_,k _ _ (by simp) nofun H.cs,λb hb=>?_,H.wg,by rw [bg2];exact H.wk,λx hx=>?_,H.la,H.lk,H.now,show S.m+1<=i+1 by have:=H.ms;omega,λr s hs=>?_⟩
 ·rcases hmem x hx with ⟨h1,h2⟩ | rfl
  ·exact k _ _ (by have:x.2.1∈W.map (λe=>e.2.1):=List.mem_map.mpr ⟨x,h1,rfl⟩;simp [this]) nofun (H.wr x h1)
  ·exact (D6 hawd).trans h4
 ·rcases hb with hb | hb | hb | hb | hb | hb
  ·exact hnew b (by simp [hb])
  ·exact hnew b (by simp [hb])
  ·exact hnew b (by simp [hb])
  ·exact hnew b (by simp [hb])
  ·exact hnew b (by simp [hb])
  ·obtain⟨x,hx,rfl⟩:=List.mem_map.mp hb
   rcases hmem x hx with ⟨h1,h2⟩ | rfl
   ·exact hnew _ (by have:x.2.1∈W.map (λe=>e.2.1):=List.mem_map.mpr ⟨x,h1,rfl⟩;simp [this])
   ·intro z
    have:=H3.dlt a' (by unfold dom;simp only [List.mem_cons];simp [z])
    omega
 ·rcases hmem x hx with ⟨h1,h2⟩ | rfl
  ·rw [ao6 H.led.kn,if_neg h2];exact H.ww x h1
  ·refine⟨aO5 _,λy=>?_⟩
   rw [ao6 H.led.kn,if_pos rfl,aZ1,List.mem_append,List.mem_append]
   exact or_congr (hww.2 y) Iff.rfl
 ·rw [ay8 H.led.kn] at hs
  by_cases hr:r=p
  ·rw [if_pos hr] at hs
   rcases List.mem_append.mp hs with z | z
   ·exact H.said r s z
   ·rw [List.mem_singleton.mp z];exact⟨hne,hlast⟩
  ·rw [if_neg hr] at hs;exact H.said r s hs
theorem b3_ok (C:C25 c) (H:I25 B c S ns cells q l wd sc W t i) (ht:t+2<=90) (hi:i<1000) {cell:Int} {x0 x4 x6 x8 x10 x11 x12 x13 x14:Option PV} :
 Wp (ah6 [x0,some (.int cell),some (.int c.N),some (.ref q),x4,some (.ref l),x6,some (.ref c.G),x8,some (.ref wd),x10,x11,x12,x13,x14]) B
  (λo B'=>∃y8 y10 y11 y12 y13 y14 S' W',o=.nx [x0,some (.int cell),some (.int c.N),some (.ref q),x4,some (.ref l),x6,some (.ref c.G),y8,some (.ref wd),y10,y11,y12,y13,y14]/\I25 B' c S' ns cells q l wd sc W' (t+2) (i+1)) NoX:=by
 obtain⟨P,hsrt,hlen,hpne,hall⟩:=C.pass
 obtain⟨hLne,hLr,hLin,hL6⟩:=C.lead
 unfold ah6
 walk_at "go"
 refine w_eq (mixed_eq _ _ _) ?_
 have hmx:=aY5 cell 2
 generalize mx cell 2=x at hmx ⊢
 walk_at "go"
 refine w_mono (law_l4_ok H) λo B1 hh=>?_
 obtain⟨y11,S1,rfl,H1⟩:=hh
 clear H
 have hq:=H1.pq
 have hl:=H1.pl
 have hpl:0<c.ps.length:=List.length_pos_iff.mpr hpne
 have hix:0<=x / 4%(c.ps.length:Int)/\x / 4%(c.ps.length:Int)<c.ps.length:=⟨Int.emod_nonneg _ (by omega),Int.emod_lt_of_pos _ (by omega)⟩
 obtain⟨p,hp,hpa⟩:∃p,p∈c.ps/\atI (pvs c.ps) (x / 4%((pvs c.ps).length:Int))=some (pv p):=by
  have e:(pvs c.ps).length=c.ps.length:=by unfold pvs;rw [List.length_map]
  rw [e]
  obtain⟨k,hk⟩:∃k:Nat,x / 4%(c.ps.length:Int)=k:=⟨(x / 4%(c.ps.length:Int)).toNat,by omega⟩
  have hkl:k<c.ps.length:=by omega
  refine⟨c.ps[k],List.getElem_mem hkl,?_⟩
  rw [hk,aD4 (by rw [e];exact hkl)]
  simp [pvs]
 have hpos:(0:Int)<(pvs c.ps).length:=by unfold pvs;rw [List.length_map];omega
 walk_at "go"
 have hg:=P.good p hp
 have hp1:atI [PV.int p.1,PV.int p.2] 1=some (.int p.2):=rfl
 unfold pv
 walk_at "go"
 refine w_mono (chains_ok P hq hg.2.1 hl) λv B2 hh=>?_
 obtain⟨n12,rfl,hn12,p2,hch⟩:=hh
 have H2:=H1.mono p2
 have hcne:=C.ex (h:=p.2) hg.2.1
 have hcl:0<(G7 c.ps c.L c.N p.2).length:=List.length_pos_iff.mpr hcne
 have hclT:(tvs (G7 c.ps c.L c.N p.2)).length=(G7 c.ps c.L c.N p.2).length:=by unfold tvs;rw [List.length_map]
 have hpos2:(0:Int)<(tvs (G7 c.ps c.L c.N p.2)).length:=by rw [hclT];omega
 obtain⟨ch,hcm,hca⟩:∃ch,ch∈G7 c.ps c.L c.N p.2/\atI (tvs (G7 c.ps c.L c.N p.2)) (x / 100%((tvs (G7 c.ps c.L c.N p.2)).length:Int))=some (tv ch):=by
  have hix:0<=x / 100%((G7 c.ps c.L c.N p.2).length:Int)/\x / 100%((G7 c.ps c.L c.N p.2).length:Int)<(G7 c.ps c.L c.N p.2).length:=⟨Int.emod_nonneg _ (by omega),Int.emod_lt_of_pos _ (by omega)⟩
  rw [hclT]
  obtain⟨k,hk⟩:∃k:Nat,x / 100%((G7 c.ps c.L c.N p.2).length:Int)=k:=⟨(x / 100%((G7 c.ps c.L c.N p.2).length:Int)).toNat,by omega⟩
  have hkl:k<(G7 c.ps c.L c.N p.2).length:=by omega
  refine⟨(G7 c.ps c.L c.N p.2)[k],List.getElem_mem hkl,?_⟩
  rw [hk,aD4 (by rw [hclT];exact hkl)]
  simp [tvs]
 walk_at "go"
 obtain⟨hv0,hchne,hchl,hlast⟩:=C.vSay H2 ht hp hcm
 refine w_mono (aO0 H2.led hchl (by have:=H2.ms;omega) hv0) λv B3 hh=>?_
 obtain⟨rfl,a,H3,st⟩:=hh
 have k3:∀b o,(b=0\/b=q\/b=l\/b=wd\/b=sc\/b∈W.map (λe=>e.2.1))->B2[b]?=some o->B3[b]?=some o:=λb o hb h=>st.keep b o h (H2.fo b hb)
 obtain⟨⟨aw,w⟩,he⟩:=at4 (W:=W) (by rw [H2.wk];exact hp)
 have hwr3:B3[aw]?=some (.lst (w.map .int)):=k3 _ _ (by have:aw∈W.map (λe=>e.2.1):=List.mem_map.mpr ⟨_,O6 he,rfl⟩;simp [this]) (H2.wr _ (O6 he))
 have hwo3:B3[wd]?=some (.dT (wD W)):=k3 _ _ (by simp) H2.wo
 have hv3:K0 (wD W) [p.1,p.2]=some (.ref aw):=by have:=a94 W p;rw [he] at this;exact this
 have hww:=H2.ww _ (O6 he)
 have hwl:∀x∈w,x∈c.L:=λx hx=>by
  have:=(hww.2 x).mp hx
  unfold lastsOf at this
  obtain⟨r,hr,rfl⟩:=List.mem_map.mp this
  exact (H2.said p r hr).2
 have hwlen:w.length<=6:=by
  have hnd:w.Nodup:=hww.1.imp λh z=>by omega
  have:=hnd.length_le_of_subset hwl
  omega
 have hla:atI (ch.map PV.int) (-1)=some (.int (lastD ch)):=r6 hchne
 walk_at "gb"
 refine w_sortSetG (w_bin ?_)
 unfold tv
 walk_at "gb"
 refine w_addL (get_app_of hwr3) get_app (lim_le (by simp;omega)) ?_
 have eW:w.map PV.int++[PV.int (lastD ch)]=(w++[lastD ch]).map .int:=by rw [List.map_append];rfl
 have hin5:∀y∈w++[lastD ch],0<=y/\y<=5:=λy hy=>by
  have:y∈c.L:=by
   rcases List.mem_append.mp hy with z | z
   ·exact hwl y z
   ·rw [List.mem_singleton.mp z];exact hlast
  have:=hLin y this
  have:=C.N
  omega
 rw [eW]
 refine⟨_,_,rfl,get_app,hin5,?_⟩
 generalize hB4:B3++[PO.lst [PV.int (lastD ch)]]++[PO.lst ((w++[lastD ch]).map .int)]++[PO.lst ((setL (w++[lastD ch])).map .int)]=B4
 have p4:B3<+:B4:=by rw [←hB4];exact (List.prefix_append _ _).trans ((List.prefix_append _ _).trans (List.prefix_append _ _))
 have h4:B4[(B3++[PO.lst [PV.int (lastD ch)]]++[PO.lst ((w++[lastD ch]).map PV.int)]).length]?=some (.lst ((setL (w++[lastD ch])).map .int)):=by rw [←hB4];exact get_app
 have hle4:B3.length<=(B3++[PO.lst [PV.int (lastD ch)]]++[PO.lst ((w++[lastD ch]).map PV.int)]).length:=by simp
 generalize (B3++[PO.lst [PV.int (lastD ch)]]++[PO.lst ((w++[lastD ch]).map PV.int)]).length=a4 at *
 have hwo4:=pre_get p4 hwo3
 have hWl:(wD W).length<LIM:=by
  refine U6 ?_
  have:=congrArg List.length H2.wk
  unfold wD
  rw [List.length_map] at *
  omega
 walk_at "gb"
 have hput:R4 (wD W) [p.1,p.2] (.ref a4)=wD (updW W p a4 (setL (w++[lastD ch]))):=bg3 (by rw [H2.wk];exact hp) a4 _
 rw [hput]
 have H5:=H2.say C hp he hlast hchne H3 st p4 h4 hle4
 generalize B4.set wd (PO.dT (wD (updW W p a4 (setL (w++[lastD ch])))))=B5 at *
 generalize updW W p a4 (setL (w++[lastD ch]))=W5 at *
 generalize sayS S1 p ch a=S5 at *
 clear hput hWl hwo4 hle4 h4 p4 hB4 hin5 eW hla hwlen hwl hww hv3 hwo3 hwr3 he k3 st H3
 have hG5:=H5.led.ob
 walk_at "gb"
 refine w_mono (opened_ok H5.led (λp r hr=>(H5.said p r hr).1) (by omega)) λv B6 hh=>?_
 obtain⟨n6,rfl,hn6,p6,ho6⟩:=hh
 have H6:=H5.mono p6
 walk_at "gb"
 refine w_mono (law_c6_ok C H6) λv B7 hh=>?_
 obtain⟨rfl,rfl⟩:=hh
 rw [←a70 C H6]
 walk_at "gb"
 have hol:(pvs (ao4 c S5)).length<=1000:=by
  unfold pvs ao4
  rw [List.length_map]
  refine Nat.le_trans (List.length_filter_le _ _) ?_
  rw [H6.lk,hsrt];omega
 refine w_mono (ay0 (k:=4) (l:=pvs (ao4 c S5)) hol (λv hv=>?_) (get_app_of ho6) get_app) λv B8 hh=>?_
 ·obtain⟨r,_,rfl⟩:=aa8 hv
  exact a71 r
 obtain⟨rfl,p8⟩:=hh
 have p58:B5<+:B8:=p6.trans ((List.prefix_append _ _).trans p8)
 have ho8:=pre_get p8 (get_app_of ho6)
 walk_at "gb"
 exact⟨_,_,_,_,_,_,_,_,rfl,H5.setNew p58 hn6⟩
end
theorem law_l2_ok {B:PHp} {c:Cfg} {q:Nat} (C:C25 c) (H:Led B c ⟨1,[],[],[],0⟩) (hq:B[q]?=some (.lst (pvs c.ps))) (hqG:q<c.G) {x0 x1 x2 x4 x5 x6 x8:Option PV} {xs:List (Option PV)} :
 Wp (ah2 (x0::x1::x2::some (.ref q)::x4::x5::x6::some (.ref c.G)::x8::xs)) B
  (λo B'=>∃y8,o=.nx (x0::x1::x2::some (.ref q)::x4::x5::x6::some (.ref c.G)::y8::xs)/\Led B' c ⟨1,c.ps.map (λp=>(p,1)),[],[],0⟩/\Stp c ⟨1,[],[],[],0⟩ ⟨1,c.ps.map (λp=>(p,1)),[],[],0⟩ B B') NoX:=by
 obtain⟨P,_⟩:=C.pass
 unfold ah2
 have own0:∀l,own c ⟨1,l,[],[],0⟩=own c ⟨1,[],[],[],0⟩:=λl=>rfl
 have hqo:q∉own c ⟨1,[],[],[],0⟩:=λz=>by
  unfold own sadr at z
  simp only [List.mem_cons,List.map_nil,List.not_mem_nil,or_false] at z
  omega
 refine as4 (λi σ B'=>∃y8,σ=x0::x1::x2::some (.ref q)::x4::x5::x6::some (.ref c.G)::y8::xs/\Led B' c ⟨1,(c.ps.take i).map (λp=>(p,1)),[],[],0⟩/\Stp c ⟨1,[],[],[],0⟩ ⟨1,(c.ps.take i).map (λp=>(p,1)),[],[],0⟩ B B') ?_
 walk_at "go"
 refine⟨q,pvs c.ps,rfl,⟨x8,rfl,H,.refl⟩,λi σ B' hh=>?_,λi v σ B' hv hh=>?_,λσ B' hh=>?_⟩
 ·obtain⟨_,_,_,st⟩:=hh
  exact K6 (st.keep _ _ hq hqo)
 ·obtain⟨y8,rfl,H1,st⟩:=hh
  unfold pvs at hv
  rw [List.getElem?_map] at hv
  obtain⟨p,hp,rfl⟩:=Option.map_eq_some_iff.mp hv
  have hmem:=List.mem_of_getElem? hp
  have tk:c.ps.take (i+1)=c.ps.take i++[p]:=by rw [List.take_succ,hp];rfl
  have hnin:p∉c.ps.take i:=λhm=>by
   have hlt:=(List.getElem?_eq_some_iff.mp hp).1
   obtain⟨j,hj,e⟩:=List.mem_iff_getElem.mp hm
   rw [List.length_take] at hj
   rw [List.getElem_take] at e
   exact List.pairwise_iff_getElem.mp P.nd j i (by omega) hlt (by omega) (e.trans (List.getElem?_eq_some_iff.mp hp).2.symm)
  have hn:Y3 ⟨1,(c.ps.take i).map (λp=>(p,1)),[],[],0⟩ p=none:=look_none.mpr (by rw [List.map_map];simpa [Function.comp_def] using hnin)
  have hG:=H1.ob
  walk_at "go"
  unfold f_law_b2
  walk_at "go"
  refine w_mono (f_lay H1 hmem hn) λv B2 hh=>?_
  obtain⟨_,H2,st2⟩:=hh
  have e:aa2 ⟨1,(c.ps.take i).map (λp=>(p,1)),[],[],0⟩ p=⟨1,(c.ps.take (i+1)).map (λp=>(p,1)),[],[],0⟩:=by
   unfold aa2;rw [tk,List.map_append];rfl
  rw [e] at H2 st2
  exact⟨_,rfl,H2,st.trans st2⟩
 ·obtain⟨y8,rfl,H1,st⟩:=hh
  unfold pvs at H1 st
  rw [List.length_map,List.take_length] at H1 st
  exact⟨y8,rfl,H1,st⟩
theorem law_c5_ok {A:PHp} {q:Nat} {ps:List (Int×Int)} (hq:A[q]?=some (.lst (pvs ps))) (hl:ps.length<=100) {x0 x1 x2:Option PV} {xs:List (Option PV)}:Wp (ah3 (x0::x1::x2::some (.ref q)::xs)) A
 (λv A'=>∃(n:Nat) (m:List ((Int×Int)×Nat)),v=.ref n/\A<+:A'/\m.map (·.1)=ps/\A'[n]?=some (.lst (m.map λe=>.tup [pv e.1,.ref e.2]))/\∀e∈m,A.length<=e.2/\A'[e.2]?=some (.lst [])) NoX:=by
 unfold ah3
 refine as5 ?_
 walk_at "go"
 refine⟨pvs ps,_,λi acc σ B=>∃(x:Option PV) (m:List ((Int×Int)×Nat)),σ=[x]/\A<+:B/\m.map (·.1)=ps.take i/\acc=(m.map λe=>PV.tup [pv e.1,.ref e.2])/\∀e∈m,A.length<=e.2/\B[e.2]?=some (.lst []),P5 hq,Nat.le_refl _,⟨_,[],rfl,List.prefix_refl _,rfl,rfl,λe he=>nomatch he⟩,λi acc σ B hh=>?_,λi v acc σ B hv hh=>?_,λacc σ B hh=>?_⟩
 ·obtain⟨x,m,rfl,p1,_⟩:=hh
  exact P6 (pre_get p1 hq) i
 ·obtain⟨x,m,rfl,p1,hm,rfl,hr⟩:=hh
  unfold pvs at hv
  rw [List.getElem?_map] at hv
  obtain⟨p,hp,rfl⟩:=Option.map_eq_some_iff.mp hv
  have tk:ps.take (i+1)=ps.take i++[p]:=by rw [List.take_succ,hp];rfl
  walk_at "go"
  refine⟨_,m++[(p,B.length)],rfl,K3 p1,by rw [List.map_append,hm,tk];rfl,by rw [List.map_append];rfl,λe he=>?_⟩
  rcases List.mem_append.mp he with z | z
  ·exact⟨(hr e z).1,get_app_of (hr e z).2⟩
  ·rw [List.mem_singleton.mp z]
   exact⟨p1.length_le,get_app⟩
 ·obtain⟨x,m,rfl,p1,hm,rfl,hr⟩:=hh
  have hm':m.map (·.1)=ps:=by rw [hm];unfold pvs;rw [List.length_map,List.take_length]
  have hml:m.length=ps.length:=by rw [←hm',List.length_map]
  refine⟨lim_le (by rw [List.length_map];omega),_,m,rfl,K3 p1,hm',get_app,λe he=>⟨(hr e he).1,get_app_of (hr e he).2⟩⟩
theorem aJ0:∀m:List ((Int×Int)×Nat),t7 (m.map λe=>.tup [pv e.1,.ref e.2])=some (m.map λe=>(l2 e.1,.ref e.2))
 | []=>rfl
 | p::r=>by
   show (O1 (pv p.1)).bind (λi=>(t7 (r.map λe=>.tup [pv e.1,.ref e.2])).map ((i,.ref p.2) :: ·))=_
   rw [aJ0 r];rfl
theorem aZ2 {m:List ((Int×Int)×Nat)} (nd:(m.map (·.1)).Nodup):(m.map λe=>(l2 e.1,PV.ref e.2)).foldl (λacc p=>R4 acc p.1 p.2) []=m.map λe=>(l2 e.1,PV.ref e.2):=by
 rw [ai7 _ [] ?_ (λ_ _ z=>nomatch z)]
 ·rfl
 ·rw [List.map_map]
  have:(m.map (·.1)).map l2=m.map ((λx=>x.1) ∘ λe=>(l2 e.1,PV.ref e.2)):=by rw [List.map_map];rfl
  rw [←this]
  exact List.Pairwise.map _ (λa b hab z=>hab (c9 z)) nd
theorem law_pure:∀ns:List Int,∃A',aH9 [.ref 0] [.ro (ns.map .int)]=.ok (.bl true) A':=by
 intro ns
 have h:Wp (aH9 [.ref 0]) [.ro (ns.map .int)] (λv _=>v=.bl true) NoX:=by
  generalize hA0:[PO.ro (ns.map PV.int)]=A0
  have hA:A0[0]?=some (.ro (ns.map .int)):=by rw [←hA0];rfl
  clear hA0
  unfold aH9
  walk_at "fn"
  obtain⟨c0,hc0⟩:=a59 hA 0
  walk_at "gb"
  refine w_eq hc0 ?_
  walk_at "gb"
  refine w_eq (mixed_eq _ _ _) ?_
  have m0:=aY5 c0 0
  have m1:=aY5 c0 1
  obtain⟨N,hN,hN2⟩:∃N:Nat,2+mx c0 0%3=N/\2<=N/\N<=4:=⟨(2+mx c0 0%3).toNat,by omega,by omega,by omega⟩
  obtain⟨k,hk,hk0⟩:∃k:Nat,1+mx c0 1%3=k/\0<k:=⟨(1+mx c0 1%3).toNat,by omega,by omega⟩
  obtain⟨P,hsrt,hlen,hpne,hall⟩:=ai6 N hN2.1 hN2.2
  walk_at "gb"
  rw [hN]
  refine w_mono (aO2 hN2.2 get_app) λo A1 hh=>?_
  obtain⟨q,y4,rfl,p1,hq⟩:=hh
  have hA1:A1[0]?=some (.ro (ns.map .int)):=pre_get p1 (get_app_of hA)
  clear p1
  refine w_seq (w_asg (w_cut (w_sorted ?_)))
  refine w_mono (aO3 (by omega)) λv A2 hh=>?_
  obtain⟨rfl,rfl⟩:=hh
  have hdl:(drawn N c0).length<64:=by unfold drawn;rw [List.length_map,hands_len];omega
  refine⟨_,_,_,rfl,get_app,ah8 hdl,?_⟩
  walk_at "gb"
  refine w_eq (mixed_eq _ _ _) ?_
  walk_at "gb"
  rw [hk]
  have ec:cut (pvs (srt (drawn N c0))) none (some (k:Int))=pvs ((srt (drawn N c0)).take k):=by rw [aW5];unfold pvs;rw [List.map_take]
  rw [ec]
  have hsl:((srt (drawn N c0)).take k).length<=6:=by
   rw [List.length_take,(M4 _).length_eq];unfold drawn;rw [List.length_map,hands_len];omega
  have q1:A1<+:A1++[PO.lst (pvs (drawn N c0))]++[PO.lst (pvs (srt (drawn N c0)))]:=(List.prefix_append _ _).trans (List.prefix_append _ _)
  generalize A1++[PO.lst (pvs (drawn N c0))]++[PO.lst (pvs (srt (drawn N c0)))]=A2 at *
  refine w_mono (aO4 get_app (by omega)) λv A3 hh=>?_
  obtain⟨rfl,rfl⟩:=hh
  refine⟨_,_,_,rfl,get_app,aq3 (by rw [List.length_map];omega),?_⟩
  obtain⟨hlead,hLlen⟩:=aY8 (N:=N) (by omega) c0 hk0
  have el:G6 ltI (((srt (drawn N c0)).take k).map (·.2))=leads N c0 k:=rfl
  rw [el]
  have q2:A1<+:A2++[PO.lst (pvs ((srt (drawn N c0)).take k))]++[PO.lst ((((srt (drawn N c0)).take k).map (·.2)).map PV.int)]:=q1.trans ((List.prefix_append _ _).trans (List.prefix_append _ _))
  generalize A2++[PO.lst (pvs ((srt (drawn N c0)).take k))]++[PO.lst ((((srt (drawn N c0)).take k).map (·.2)).map PV.int)]=A3 at *
  generalize leads N c0 k=L at *
  have hl4:(A3++[PO.lst (L.map .int)])[A3.length]?=some (.lst (L.map .int)):=get_app
  have q3:A1<+:A3++[PO.lst (L.map .int)]:=q2.trans (List.prefix_append _ _)
  generalize A3.length=l at *
  generalize A3++[PO.lst (L.map .int)]=A4 at *
  have hq4:=pre_get q3 hq
  have hA4:=pre_get q3 hA1
  clear q1 q2 q3 hA1 hq el ec
  walk_at "gb"
  refine w_mono (law_c4_ok hq4 (by omega)) λv A5 hh=>?_
  obtain⟨rfl,rfl⟩:=hh
  refine⟨_,_,_,rfl,get_app,aI8 (λ_=>.int 90) _,U6 (by rw [List.length_map];omega),?_⟩
  rw [aY9 P.nd]
  have q5:A4<+:A4++[PO.lst ((full N).map λp=>PV.tup [pv p,.int 90])]:=List.prefix_append _ _
  generalize A4++[PO.lst ((full N).map λp=>PV.tup [pv p,.int 90])]=A5 at *
  have hd5:(A5++[PO.dT ((full N).map λp=>(l2 p,PV.int 90))])[A5.length]?=some (.dT ((full N).map λp=>(l2 p,PV.int 90))):=get_app
  have q6:A4<+:A5++[PO.dT ((full N).map λp=>(l2 p,PV.int 90))]:=q5.trans (List.prefix_append _ _)
  generalize A5.length=d at *
  generalize A5++[PO.dT ((full N).map λp=>(l2 p,PV.int 90))]=A6 at *
  have hq6:=pre_get q6 hq4
  have hA6:=pre_get q6 hA4
  have hl6:=pre_get q6 hl4
  clear q5 q6 hq4 hA4 hl4
  walk_at "gb"
  obtain⟨A7,r,e7,p7,W7,hr7⟩:=aW7 P (A:=A6) (q:=q) hq6
  refine w_eq e7 ?_
  walk_at "gb"
  have hm90:∀p∈full N,K0 ((full N).map λp=>(l2 p,PV.int 90)) (l2 p)=some (.int 90):=λp hp=>as9 (f:=λ_=>90) P.nd hp
  refine w_mono (aN5 W7 (pre_get p7 hl6) (by omega) (pre_get p7 hd5) P hlead λp hp=>⟨90,by decide,hm90 p hp⟩) λv A8 hh=>?_
  obtain⟨_,p8,ll,dl,dk,HP,_⟩:=hh
  have q8:A6<+:A8:=p7.trans p8
  have hq8:=pre_get q8 hq6
  have hA8:=pre_get q8 hA6
  have hl8:=pre_get q8 hl6
  generalize A6.length=w at HP ⊢
  generalize A7.length=Pn at HP ⊢
  clear hm90 q8 p8 p7 W7 e7 hr7 hl6 hA6 hq6 hd5
  walk_at "gb"
  refine w_listRng ?_
  walk_at "gb"
  have hm90:∀p∈full N,limOf ((full N).map λp=>(l2 p,PV.int 90)) p=90:=λp hp=>by
   have:K0 ((full N).map λp=>(l2 p,PV.int 90)) (l2 p)=some (.int 90):=as9 (f:=λ_=>90) P.nd hp
   unfold limOf;rw [this]
  have p9:A8<+:A8++[PO.lst ((H9 N).map .int)]:=List.prefix_append _ _
  have hfl:(A8++[PO.lst ((H9 N).map .int)])[A8.length]?=some (.lst ((H9 N).map .int)):=get_app
  generalize A8++[PO.lst ((H9 N).map .int)]=A9 at *
  generalize A8.length=fl at *
  have hq9:=pre_get p9 hq8
  have hA9:=pre_get p9 hA8
  have hl9:=pre_get p9 hl8
  refine w_mono (aY7 (HP.mono p9) P hfl (by rw [hands_len];omega)) λv A10 hh=>?_
  obtain⟨_,p10,HL⟩:=hh
  have hqG:q<A9.length:=G1 hq9
  have h0G:0<A9.length:=G1 hA9
  have hlG:l<A9.length:=G1 hl9
  have hq10:=pre_get p10 hq9
  have hA10:=pre_get p10 hA9
  have hl10:=pre_get p10 hl9
  generalize hG:A9.length=G at *
  generalize hcf:(⟨N,full N,L,limOf ((full N).map λp=>(l2 p,PV.int 90)),H9 N,Pn,w,r,ll,dl,dk,G⟩:Cfg)=c at HL
  have C:C25 c:=by
   subst hcf
   exact⟨rfl,hN2,hlead,hm90,rfl⟩
  have cG:c.G=G:=by rw [←hcf]
  have cps:c.ps=full N:=by rw [←hcf]
  have cN:c.N=N:=by rw [←hcf]
  have cL:c.L=L:=by rw [←hcf]
  clear hcf hfl hm90 HP p9 hq8 hA8 hl8 p10 hG hq9 hA9 hl9
  subst cG cL cN
  rw [←cps] at hq10 hlen
  walk_at "gb"
  refine w_mono (law_l2_ok C HL hq10 hqG) λo A11 hh=>?_
  obtain⟨y8,rfl,H11,st11⟩:=hh
  have hlow:∀a,a<c.G->∀S,(sadr S=[])->a∉own c S:=λa ha S hS z=>by
   unfold own at z
   rw [hS] at z
   simp only [List.mem_cons,List.not_mem_nil,or_false] at z
   omega
  have hq11:=st11.keep _ _ hq10 (hlow q hqG _ rfl)
  have hA11:=st11.keep _ _ hA10 (hlow 0 h0G _ rfl)
  have hl11:=st11.keep _ _ hl10 (hlow l hlG _ rfl)
  have hG11:=H11.ob
  walk_at "gb"
  refine w_mono (move_ok H11) λv A12 hh=>?_
  obtain⟨_,H12,st12⟩:=hh
  have hq12:=st12.keep _ _ hq11 (hlow q hqG _ rfl)
  have hA12:=st12.keep _ _ hA11 (hlow 0 h0G _ rfl)
  have hl12:=st12.keep _ _ hl11 (hlow l hlG _ rfl)
  clear st11 st12 H11 hG11 hq11 hA11 hl11 HL hq10 hA10 hl10
  walk_at "gb"
  refine w_mono (law_c5_ok hq12 (by omega)) λv A13 hh=>?_
  obtain⟨n13,m,rfl,p13,hmk,hn13,hmr⟩:=hh
  have hmnd:(m.map (·.1)).Nodup:=by rw [hmk,cps];exact P.nd
  have hml:m.length<=12:=by have:=congrArg List.length hmk;rw [List.length_map] at this;omega
  refine⟨_,_,_,rfl,hn13,aJ0 m,U6 (by rw [List.length_map];omega),?_⟩
  rw [aZ2 hmnd]
  have eW0:(m.map λe=>(l2 e.1,PV.ref e.2))=wD (m.map λe=>(e.1,e.2,[])):=by unfold wD;rw [List.map_map];rfl
  rw [eW0]
  have hWk:(m.map λe=>(e.1,e.2,([]:List Int))).map (·.1)=c.ps:=by rw [List.map_map];exact hmk
  have hgl:c.G+4<A12.length:=G1 H12.ul
  have hl13:=p13.length_le
  generalize hW0:(m.map λe=>(e.1,e.2,([]:List Int)))=W0 at *
  have hWr:∀e∈W0,A12.length<=e.2.1/\A13[e.2.1]?=some (.lst [])/\e.2.2=[]:=λe he=>by
   rw [←hW0] at he
   obtain⟨x,hx,rfl⟩:=List.mem_map.mp he
   exact⟨(hmr x hx).1,(hmr x hx).2,rfl⟩
  have hwd:(A13++[PO.dT (wD W0)])[A13.length]?=some (.dT (wD W0)):=get_app
  have p14:A13<+:A13++[PO.dT (wD W0)]:=List.prefix_append _ _
  have hwdl:A12.length<=A13.length:=hl13
  generalize A13++[PO.dT (wD W0)]=A14 at *
  generalize A13.length=wd at *
  have hA14:=pre_get p14 (pre_get p13 hA12)
  walk_at "gb"
  unfold f_law_l3
  refine as4 (λi σ B=>∃y1 y8 y10 y11 y12 y13 y14 S W,σ=[some (.ref 0),y1,some (.int c.N),some (.ref q),y4,some (.ref l),some (.ref d),some (.ref c.G),y8,some (.ref wd),y10,y11,y12,y13,y14]/\I25 B c S ns (cut ns (some 1) (some 17)) q l wd A14.length W (2+2*i) i) ?_
  walk_at "gb"
  have ecut:cut (ns.map PV.int) (some 1) (some 17)=(cut ns (some 1) (some 17)).map .int:=ax9 _ _ _ _
  have hcl:(cut ns (some 1) (some 17)).length<=16:=by
   unfold cut
   rw [List.length_take]
   have:S0 ns.length ns.length (some 17) - S0 ns.length 0 (some 1)<=16:=by unfold S0;simp;omega
   omega
  rw [ecut]
  have p15:A14<+:A14++[PO.lst ((cut ns (some 1) (some 17)).map .int)]:=List.prefix_append _ _
  have hsc:(A14++[PO.lst ((cut ns (some 1) (some 17)).map .int)])[A14.length]?=some (.lst ((cut ns (some 1) (some 17)).map .int)):=get_app
  have hl14:=(p13.trans p14).length_le
  generalize A14++[PO.lst ((cut ns (some 1) (some 17)).map .int)]=A15 at *
  generalize hscl:A14.length=sc at *
  generalize cut ns (some 1) (some 17)=cells at *
  have p12:A12<+:A15:=p13.trans (p14.trans p15)
  have hWrow:∀(p:Int×Int),rowsAt ⟨1+1,c.ps.map (λp=>(p,1)),[],[],0⟩ p=[]:=λp=>rfl
  have H15:I25 A15 c ⟨1+1,c.ps.map (λp=>(p,1)),[],[],0⟩ ns cells q l wd sc W0 2 0:=by
   refine⟨H12.mono p12,pre_get p15 hA14,pre_get p12 hq12,pre_get p12 hl12,pre_get p15 hwd,λe he=>?_,hsc,λa ha=>?_,by omega,hWk,λe he=>?_,λp hp=>?_,?_,⟨show (2:Int)<=1+1 by decide,show (1+1:Int)<=((2:Nat):Int) by decide⟩,Nat.zero_le _,λp r hr=>nomatch hr⟩
   ·rw [(hWr e he).2.2];exact pre_get (p14.trans p15) (hWr e he).2.1
   ·have key:a<c.G\/c.G+4<a:=by
     rcases ha with rfl | rfl | rfl | rfl | rfl | ha
     ·exact .inl h0G
     ·exact .inl hqG
     ·exact .inl hlG
     ·exact .inr (by omega)
     ·exact .inr (by omega)
     ·obtain⟨e,he,rfl⟩:=List.mem_map.mp ha
      have:=(hWr e he).1
      exact .inr (by omega)
    intro z
    unfold own sadr at z
    simp only [List.map_nil,List.mem_cons,List.not_mem_nil,or_false] at z
    omega
   ·rw [(hWr e he).2.2]
    exact⟨.nil,λx=>by unfold lastsOf;rw [hWrow];simp⟩
   ·exact at1 (by rw [List.map_map];simpa [Function.comp_def,cps] using P.nd) (List.mem_map.mpr ⟨p,hp,rfl⟩)
   ·show (c.ps.map λp=>(p,(1:Int))).map (·.1)=c.ps
    rw [List.map_map]
    exact List.map_id _
  refine⟨sc,cells.map .int,rfl,⟨_,_,_,_,_,_,_,_,W0,rfl,H15⟩,λi σ B hh=>?_,λi v σ B hv hh=>?_,λσ B hh=>?_⟩
  ·obtain⟨_,_,_,_,_,_,_,_,_,_,HB⟩:=hh
   exact K6 HB.cs
  ·obtain⟨y1,y8,y10,y11,y12,y13,y14,S,W,rfl,HB⟩:=hh
   rw [List.getElem?_map] at hv
   obtain⟨cell,hc,rfl⟩:=Option.map_eq_some_iff.mp hv
   have hi:i<cells.length:=(List.getElem?_eq_some_iff.mp hc).1
   walk_at "go"
   refine w_mono (b3_ok C HB (by omega) (by omega)) λo B1 hh=>?_
   obtain⟨z8,z10,z11,z12,z13,z14,S',W',rfl,HB'⟩:=hh
   exact⟨_,_,_,_,_,_,_,_,_,rfl,HB'⟩
  ·obtain⟨y1,y8,y10,y11,y12,y13,y14,S,W,rfl,HB⟩:=hh
   have hG:=HB.led.ob
   have hqB:=HB.pq
   walk_at "gb"
   refine w_mono (laid_ok HB.led) λv B1 hh=>?_
   obtain⟨rfl,rfl⟩:=hh
   walk_at "gb"
   have e:(pvs (srt (S.lays.map (·.1)))).length=(pvs c.ps).length:=by
    unfold pvs;rw [List.length_map,List.length_map,(M4 _).length_eq,HB.lk]
   rw [e]
   simp
 obtain⟨v,A',e,hv⟩:=a90 h
 exact⟨A',by rw [e,hv]⟩
end Ws
namespace Ws
open PySem
structure a72 (mg:Str->Option Value):Prop where
 g_FEWEST_HANDS:∃t,mg "FEWEST_HANDS" = some (.int 2 t)
 g_MOST_HANDS:∃t,mg "MOST_HANDS" = some (.int 6 t)
 g_LAY:∃t,mg "LAY" = some (.str "lay" t)
 g_SAY:∃t,mg "SAY" = some (.str "say" t)
section
set_option maxHeartbeats 4000000
variable {P:Program} {w:World} {K:PySem.W.Frag} {mg:Str->Option Value} {base:Heap} {cm:Nat->Addr}
def top (i:Nat):Stmt:=PySem.Challenge.pw_wordswap_k25_boxes_opened.main.body.getD i (.Pass ⟨0,0,0,0⟩)
theorem ay9:L2.C9 ["value"] ["value"] (L2.B9 (top 13)):=by walk_at "sc"
theorem ok_is_whole {fa:Addr} {fd:FuncData} (B:L9 K mg cm) (F:L2.Fun K "is_whole" "is_whole" (top 13) fa fd):L2.FnOk P w K mg base L2.CX0 (1) fa fd ["value"] (SpF K cm L0 1):=
 E1 F ay9 λ_ _ _ _ _ _ hr hu hu1=>by
  exact (C4 (D8 (T6 (T7 (t:=.int) B.kit (r_v 0) rfl B.b_isinstance rfl B.b_int PyProof.Rows.boot_int) (Q4 (a85 (T7 (t:=.bool) B.kit (r_v 0) rfl B.b_isinstance rfl B.b_bool PyProof.Rows.boot_bool))))))
theorem aD8:L2.C9 ["number","value"] ["number","value"] (L2.B9 (top 14)):=by walk_at "sc"
theorem ok_is_hand {fa:Addr} {fd:FuncData} (B:L9 K mg cm) (D_is_whole:Def P w K mg base cm "is_whole" 1 ["value"] L0 1) (F:L2.Fun K "is_hand" "is_hand" (top 14) fa fd):L2.FnOk P w K mg base L2.CX0 (2) fa fd ["number","value"] (SpF K cm J7 2):=
 E1 F aD8 λ_ _ _ _ _ _ hr hu hu1=>by
  exact (C4 (D8 (T6 (r_callD D_is_whole (by decide) hr rfl (r_cons (r_v 1) r_nil)) (Q4 (aF0 L2.aP8 aS3 L2.ab4 ad6 r_int (r_v 1) (r_v 0))))))
theorem Y8:L2.C9 ["value"] ["value"] (L2.B9 (top 15)):=by walk_at "sc"
theorem ok_is_number_of_hands {fa:Addr} {fd:FuncData} (B:L9 K mg cm) (GL:a72 mg) (D_is_whole:Def P w K mg base cm "is_whole" 1 ["value"] L0 1) (F:L2.Fun K "is_number_of_hands" "is_number_of_hands" (top 15) fa fd):L2.FnOk P w K mg base L2.CX0 (2) fa fd ["value"] (SpF K cm G2 1):=
 E1 F Y8 λ_ _ _ _ _ _ hr hu hu1=>by
  exact (C4 (D8 (T6 (r_callD D_is_whole (by decide) hr rfl (r_cons (r_v 0) r_nil)) (Q4 (aF0 L2.aP8 aS3 L2.aP8 aS3 (aT2 rfl GL.g_FEWEST_HANDS) (r_v 0) (aT2 rfl GL.g_MOST_HANDS))))))
theorem ak3:L2.C9 ["number","value"] ["number","value"] (L2.B9 (top 16)):=by walk_at "sc"
theorem ok_is_passing {fa:Addr} {fd:FuncData} (B:L9 K mg cm) (D_is_hand:Def P w K mg base cm "is_hand" 2 ["number","value"] J7 2) (F:L2.Fun K "is_passing" "is_passing" (top 16) fa fd):L2.FnOk P w K mg base L2.CX0 (3) fa fd ["number","value"] (SpF K cm K8 2):=
 E1 F ak3 λ_ _ _ _ _ _ hr hu hu1=>by
  exact (C2 (P3 (L2.PW.pt (a7 (O2 (K9 (T7 (t:=.tuple) B.kit (r_v 1) rfl B.b_isinstance rfl B.b_tuple PyProof.Rows.boot_tuple))) (U9 (J0 (R7 hu) Y1 (U5 (r_v 1) rfl B.b_len) r_int (L2.E8 _)))))
 (C4 (D8 aa1))
 H8)
 (C4 (D8 (T6 (r_callD D_is_hand (by decide) hr rfl (r_cons (r_v 0) (r_cons (O9 (r_v 1) r_int (λ_ _=>rfl)) r_nil))) (T6 (r_callD D_is_hand (by decide) hr rfl (r_cons (r_v 0) (r_cons (O9 (r_v 1) r_int (λ_ _=>rfl)) r_nil))) (Q4 (S3 (R7 hu) Y1 (O9 (r_v 1) r_int (λ_ _=>rfl)) (O9 (r_v 1) r_int (λ_ _=>rfl)) (L2.E8 _))))))))
theorem sc_first_wrong_passing:L2.C9 ["number","passings","at","passing"] ["number","passings"] (L2.B9 (top 17)):=by walk_at "sc"
theorem ok_first_wrong_passing {fa:Addr} {fd:FuncData} (B:L9 K mg cm) (D_is_passing:Def P w K mg base cm "is_passing" 3 ["number","value"] K8 2) (F:L2.Fun K "first_wrong_passing" "first_wrong_passing" (top 17) fa fd):L2.FnOk P w K mg base L2.CX0 (4) fa fd ["number","passings"] (SpF K cm E9 2):=
 E1 F sc_first_wrong_passing λ_ _ _ _ _ _ hr hu hu1=>by
  exact (C2 (ae1 PassesOwn.never rfl (bk7 rfl B.b_enumerate (r_v 1)) (av2 rfl (g_cons (g_name (L2.pg_name (i:=2) sc_first_wrong_passing.nd rfl (.inl rfl))) (g_cons (g_name (L2.pg_name (i:=3) sc_first_wrong_passing.nd rfl (.inl rfl))) g_nil)))
 (C4 (P3 (L2.PW.pt (a7 (O2 (K9 (r_callD D_is_passing (by decide) hr rfl (r_cons (r_v 0) (r_cons (r_v 3) r_nil))))) (U9 (J0 (u7 hu) am1 (r_v 3) (ad9 (r_v 1) r_lno (r_lat (r_v 2))) (by rfl)))))
 (C4 (D8 (r_v 2)))
 H8)))
 (C4 (D8 bj5)))
theorem ai8:L2.C9 ["self","plan","free"] ["self","plan","free"] (L2.B9 (L2.C0 (top 27) 0)):=by walk_at "sc"
theorem ok_Ledger_init {fa:Addr} {fd:FuncData} (B:L9 K mg cm) (F:FunD K "__init__" "Ledger.__init__" (L2.C0 (top 27) 0) fa fd #[.none]):L2.FnOk P w K mg base L2.CX0 (1) fa fd ["self","plan","free"] (SpF K cm L3 3):=
 a57 F ai8 λ_ _ _ _ _ _ hr hu hu1=>by
  exact (C2 (j8 6 B (r_v 0) (r_v 1))
 (C2 (j8 7 B (r_v 0) (bo6 (aS4 (r_v 2)) (r_lst r_nil) (ae0 (r_v 2) rfl B.b_list PyProof.Rows.boot_list)))
 (C2 (j8 11 B (r_v 0) (am5 (r_fb 7 B (r_v 0)) rfl B.b_tuple PyProof.Rows.boot_tuple))
 (C2 (j8 12 B (r_v 0) r_int)
 (C2 (j8 13 B (r_v 0) ar9)
 (C2 (j8 14 B (r_v 0) ar9)
 (C4 (j8 15 B (r_v 0) ar9))))))))
theorem at5:L2.C9 ["numbers"] ["numbers"] (L2.B9 (top 29)):=by walk_at "sc"
theorem ok_is_rising {fa:Addr} {fd:FuncData} (B:L9 K mg cm) (F:L2.Fun K "is_rising" "is_rising" (top 29) fa fd):L2.FnOk P w K mg base L2.CX0 (1) fa fd ["numbers"] (SpF K cm P0 1):=
 E1 F at5 λ_ _ _ _ _ _ hr hu hu1=>by
  exact (C4 (D8 (af4 rfl (N5 (N:=["low","high"]) [none,none] rfl (⟨rfl,rfl,by decide +kernel,by decide +kernel,D9,(C3 (λh=>nomatch h) (C3 (λh=>nomatch h) (C3 (λh=>nomatch h) D9)))⟩) (.own (.own .nil)) (i_zip (λ_ _=>nofun) rfl B.b_zip (r_v 0) (ad9 (r_v 0) (r_lat r_int) r_lno)) (λ_ _ _ _=>(av2 rfl (g_cons (g_name (L2.pg_name (i:=0) (show List.Nodup (["low","high"]:List Str) from by decide +kernel) rfl (by walk_at "o2"))) (g_cons (g_name (L2.pg_name (i:=1) (show List.Nodup (["low","high"]:List Str) from by decide +kernel) rfl (by walk_at "o2"))) g_nil)))) (λ_ _ _ _=>R8) (λ_ _ _ _=>(S3 L2.ab4 ad6 (r_v 0) (r_v 1) (L2.E8 _)))) rfl B.b_all)))
theorem ai9:L2.C9 ["web","leaders"] ["web","leaders"] (L2.B9 (top 30)):=by walk_at "sc"
theorem ok_are_leaders {fa:Addr} {fd:FuncData} (B:L9 K mg cm) (D_is_rising:Def P w K mg base cm "is_rising" 1 ["numbers"] P0 1) (D_is_hand:Def P w K mg base cm "is_hand" 2 ["number","value"] J7 2) (F:L2.Fun K "are_leaders" "are_leaders" (top 30) fa fd):L2.FnOk P w K mg base L2.CX0 (3) fa fd ["web","leaders"] (SpF K cm M6 2):=
 E1 F ai9 λ_ _ _ _ _ _ hr hu hu1=>by
  exact (C2 (P3 (L2.PW.pt (a7 (O2 (K9 (T7 (t:=.list) B.kit (r_v 1) rfl B.b_isinstance rfl B.b_list PyProof.Rows.boot_list))) (U9 (J0 (Q5 hu) W2 (r_v 1) (r_lst r_nil) (L2.E8 _)))))
 (C4 (D8 aa1))
 H8)
 (C4 (D8 (T6 (af4 rfl (N5 (N:=["h","web"]) [none,some 0] rfl (⟨rfl,rfl,by decide +kernel,by decide +kernel,(C3 rfl D9),(C3 (λh=>nomatch h) (C3 (λh=>nomatch h) (C3 (λh=>nomatch h) (C3 (λ_=>rfl) D9))))⟩) (.own (.free rfl (by walk_at "o2") (by walk_at "o3") rfl (by walk_at "o2") .nil)) (i_seq (r_v 1)) (λ_ _ _ _=>(g_name (L2.pg_name (i:=0) (show List.Nodup (["h","web"]:List Str) from by decide +kernel) rfl (by walk_at "o2")))) (λ_ _ _ _=>R8) (λ_ _ _ _=>(r_callD D_is_hand (by decide) hr rfl (r_cons (r_fb 0 B (r_v 1)) (r_cons (r_v 0) r_nil))))) rfl B.b_all) (Q4 (r_callD D_is_rising (by decide) hr rfl (r_cons (r_v 1) r_nil)))))))
theorem az0:L2.C9 ["value"] ["value"] (L2.B9 (top 31)):=by walk_at "sc"
theorem ok_is_limit {fa:Addr} {fd:FuncData} (B:L9 K mg cm) (D_is_whole:Def P w K mg base cm "is_whole" 1 ["value"] L0 1) (F:L2.Fun K "is_limit" "is_limit" (top 31) fa fd):L2.FnOk P w K mg base L2.CX0 (2) fa fd ["value"] (SpF K cm Q7 1):=
 E1 F az0 λ_ _ _ _ _ _ hr hu hu1=>by
  exact (C4 (D8 (T6 (r_callD D_is_whole (by decide) hr rfl (r_cons (r_v 0) r_nil)) (Q4 (S3 L2.bi2 bj7 (r_v 0) r_int (L2.E8 _))))))
theorem sc_Plan_init:L2.C9 ["self","web","leaders","limits","kept","passing"] ["self","web","leaders","limits"] (L2.B9 (L2.C0 (top 32) 0)):=by walk_at "sc"
theorem ok_Plan_init {fa:Addr} {fd:FuncData} (B:L9 K mg cm) (D_are_leaders:Def P w K mg base cm "are_leaders" 3 ["web","leaders"] M6 2) (D_is_limit:Def P w K mg base cm "is_limit" 2 ["value"] Q7 1) (F:L2.Fun K "__init__" "Plan.__init__" (L2.C0 (top 32) 0) fa fd):L2.FnOk P w K mg base L2.CX0 (4) fa fd ["self","web","leaders","limits"] (SpF K cm N7 4):=
 E1 F sc_Plan_init λ_ _ _ _ _ _ hr hu hu1=>by
  exact (C2 (P3 (O2 (K9 (r_callD D_are_leaders (by decide) hr rfl (r_cons (r_v 1) (r_cons (r_v 2) r_nil)))))
 (C4 S6)
 H8)
 (C2 (K1 (i:=4) sc_Plan_init.nd rfl (.inl rfl) ar9)
 (C2 (ae1 PassesOwn.never rfl (i_seq (r_fb 1 B (r_v 1))) (g_name (L2.pg_name (i:=5) sc_Plan_init.nd rfl (.inl rfl)))
 (C2 (P3 (O2 (K9 (r_callD D_is_limit (by decide) hr rfl (r_cons (a38 hu1 (r_v 3) (r_v 5)) r_nil))))
 (C4 S6)
 H8)
 (C4 (aC4 hu1 (r_v 4) (r_v 5) (v6 hu1 (r_v 3) (r_v 5) (λ_ _=>rfl))))))
 (C2 (j8 3 B (r_v 0) (r_v 1))
 (C2 (j8 4 B (r_v 0) (ae0 (r_v 2) rfl B.b_list PyProof.Rows.boot_list))
 (C2 (j8 5 B (r_v 0) (a49 (r_v 4) rfl B.b_dict))
 (C2 (j8 9 B (r_v 0) (am5 (r_v 2) rfl B.b_tuple PyProof.Rows.boot_tuple))
 (C4 (j8 10 B (r_v 0) (r_v 4))))))))))
theorem sc_Web_init:L2.C9 ["self","number","passings","wrong"] ["self","number","passings"] (L2.B9 (L2.C0 (top 18) 0)):=by walk_at "sc"
theorem ok_Web_init {fa:Addr} {fd:FuncData} (B:L9 K mg cm) (D_is_number_of_hands:Def P w K mg base cm "is_number_of_hands" 2 ["value"] G2 1) (D_first_wrong_passing:Def P w K mg base cm "first_wrong_passing" 4 ["number","passings"] E9 2) (F:L2.Fun K "__init__" "Web.__init__" (L2.C0 (top 18) 0) fa fd):L2.FnOk P w K mg base L2.CX0 (5) fa fd ["self","number","passings"] (SpF K cm N8 3):=
 E1 F sc_Web_init λ_ _ _ _ _ _ hr hu hu1=>by
  exact (C2 (P3 (O2 (K9 (r_callD D_is_number_of_hands (by decide) hr rfl (r_cons (r_v 1) r_nil))))
 (C4 S6)
 H8)
 (C2 (K1 (i:=3) sc_Web_init.nd rfl (.inl rfl) (r_callD D_first_wrong_passing (by decide) hr rfl (r_cons (r_v 1) (r_cons (r_v 2) r_nil))))
 (C2 (P3 (a19 (r_v 3))
 (C4 S6)
 H8)
 (C2 (j8 0 B (r_v 0) (r_v 1))
 (C4 (j8 1 B (r_v 0) (af2 hu (r_v 2) rfl B.b_sorted)))))))
theorem az1:L2.C9 ["web","leaders","chain"] ["web","leaders","chain"] (L2.B9 (top 20)):=by walk_at "sc"
theorem ok_is_chain {fa:Addr} {fd:FuncData} (B:L9 K mg cm) (D_is_hand:Def P w K mg base cm "is_hand" 2 ["number","value"] J7 2) (F:L2.Fun K "is_chain" "is_chain" (top 20) fa fd):L2.FnOk P w K mg base L2.CX0 (3) fa fd ["web","leaders","chain"] (SpF K cm Q8 3):=
 E1 F az1 λ_ _ _ _ _ _ hr hu hu1=>by
  exact (C2 (P3 (L2.PW.pt (a7 (J0 (Q5 hu) W2 (r_v 2) (V8 r_nil) (L2.E8 _)) (U9 (J0 (am0 hu) av4 (O9 (r_v 2) aw0 (λ_ _=>rfl)) (r_v 1) (by rfl)))))
 (C4 (D8 aa1))
 H8)
 (C2 (P3 (L2.PW.pt (a7 (J0 L2.ab4 ad6 (aL7 rfl (r_v 2) rfl B.b_len rfl B.b_set) (U5 (r_v 2) rfl B.b_len) (L2.E8 _)) (U9 (O2 (K9 (af4 rfl (N5 (N:=["h","web"]) [none,some 0] rfl (⟨rfl,rfl,by decide +kernel,by decide +kernel,(C3 rfl D9),(C3 (λh=>nomatch h) (C3 (λh=>nomatch h) (C3 (λh=>nomatch h) (C3 (λ_=>rfl) D9))))⟩) (.own (.free rfl (by walk_at "o2") (by walk_at "o3") rfl (by walk_at "o2") .nil)) (i_seq (r_v 2)) (λ_ _ _ _=>(g_name (L2.pg_name (i:=0) (show List.Nodup (["h","web"]:List Str) from by decide +kernel) rfl (by walk_at "o2")))) (λ_ _ _ _=>R8) (λ_ _ _ _=>(r_callD D_is_hand (by decide) hr rfl (r_cons (r_fb 0 B (r_v 1)) (r_cons (r_v 0) r_nil))))) rfl B.b_all))))))
 (C4 (D8 aa1))
 H8)
 (C4 (D8 (af4 rfl (N5 (N:=["step","web"]) [none,some 0] rfl (⟨rfl,rfl,by decide +kernel,by decide +kernel,(C3 rfl D9),(C3 (λh=>nomatch h) (C3 (λh=>nomatch h) (C3 (λ_=>rfl) D9)))⟩) (.own (.free rfl (by walk_at "o2") (by walk_at "o3") rfl (by walk_at "o2") .nil)) (i_zip (λ_ _=>nofun) rfl B.b_zip (r_v 2) (ad9 (r_v 2) (r_lat r_int) r_lno)) (λ_ _ _ _=>(g_name (L2.pg_name (i:=0) (show List.Nodup (["step","web"]:List Str) from by decide +kernel) rfl (by walk_at "o2")))) (λ_ _ _ _=>R8) (λ_ _ _ _=>(S3 (u7 hu) am1 (r_v 0) (r_fb 1 B (r_v 1)) (by rfl)))) rfl B.b_all)))))
theorem aO6:L2.C9 ["web","value"] ["web","value"] (L2.B9 (top 24)):=by walk_at "sc"
theorem ok_is_box {fa:Addr} {fd:FuncData} (B:L9 K mg cm) (D_is_passing:Def P w K mg base cm "is_passing" 3 ["number","value"] K8 2) (F:L2.Fun K "is_box" "is_box" (top 24) fa fd):L2.FnOk P w K mg base L2.CX0 (4) fa fd ["web","value"] (SpF K cm W6 2):=
 E1 F aO6 λ_ _ _ _ _ _ hr hu hu1=>by
  exact (C4 (D8 (T6 (r_callD D_is_passing (by decide) hr rfl (r_cons (r_fb 0 B (r_v 0)) (r_cons (r_v 1) r_nil))) (Q4 (S3 (u7 hu) am1 (r_v 1) (r_fb 1 B (r_v 0)) (by rfl))))))
theorem aj0:L2.C9 ["plan","value"] ["plan","value"] (L2.B9 (top 25)):=by walk_at "sc"
theorem ok_is_chain_of {fa:Addr} {fd:FuncData} (B:L9 K mg cm) (D_is_hand:Def P w K mg base cm "is_hand" 2 ["number","value"] J7 2) (D_is_chain:Def P w K mg base cm "is_chain" 3 ["web","leaders","chain"] Q8 3) (F:L2.Fun K "is_chain_of" "is_chain_of" (top 25) fa fd):L2.FnOk P w K mg base L2.CX0 (4) fa fd ["plan","value"] (SpF K cm M7 2):=
 E1 F aj0 λ_ _ _ _ _ _ hr hu hu1=>by
  exact (C2 (P3 (L2.PW.pt (a7 (O2 (K9 (T7 (t:=.tuple) B.kit (r_v 1) rfl B.b_isinstance rfl B.b_tuple PyProof.Rows.boot_tuple))) (U9 (O2 (K9 (af4 rfl (N5 (N:=["h","plan"]) [none,some 0] rfl (⟨rfl,rfl,by decide +kernel,by decide +kernel,(C3 rfl D9),(C3 (λh=>nomatch h) (C3 (λh=>nomatch h) (C3 (λh=>nomatch h) (C3 (λ_=>rfl) D9))))⟩) (.own (.free rfl (by walk_at "o2") (by walk_at "o3") rfl (by walk_at "o2") .nil)) (i_seq (r_v 1)) (λ_ _ _ _=>(g_name (L2.pg_name (i:=0) (show List.Nodup (["h","plan"]:List Str) from by decide +kernel) rfl (by walk_at "o2")))) (λ_ _ _ _=>R8) (λ_ _ _ _=>(r_callD D_is_hand (by decide) hr rfl (r_cons (r_fb 0 B (r_fb 3 B (r_v 1))) (r_cons (r_v 0) r_nil))))) rfl B.b_all))))))
 (C4 (D8 aa1))
 H8)
 (C4 (D8 (r_callD D_is_chain (by decide) hr rfl (r_cons (r_fb 3 B (r_v 0)) (r_cons (r_fb 9 B (r_v 0)) (r_cons (r_v 1) r_nil)))))))
theorem aD9:L2.C9 ["plan","value"] ["plan","value"] (L2.B9 (top 26)):=by walk_at "sc"
theorem ok_is_deed {fa:Addr} {fd:FuncData} (B:L9 K mg cm) (GL:a72 mg) (D_is_box:Def P w K mg base cm "is_box" 4 ["web","value"] W6 2) (D_is_chain_of:Def P w K mg base cm "is_chain_of" 4 ["plan","value"] M7 2) (F:L2.Fun K "is_deed" "is_deed" (top 26) fa fd):L2.FnOk P w K mg base L2.CX0 (5) fa fd ["plan","value"] (SpF K cm P1 2):=
 E1 F aD9 λ_ _ _ _ _ _ hr hu hu1=>by
  exact (C2 (P3 (L2.PW.pt (a7 (O2 (K9 (T7 (t:=.tuple) B.kit (r_v 1) rfl B.b_isinstance rfl B.b_tuple PyProof.Rows.boot_tuple))) (a7 (J0 L2.ab4 ad6 (U5 (r_v 1) rfl B.b_len) r_int (L2.E8 _)) (U9 (O2 (K9 (r_callD D_is_box (by decide) hr rfl (r_cons (r_fb 3 B (r_v 0)) (r_cons (O9 (r_v 1) r_int (λ_ _=>rfl)) r_nil)))))))))
 (C4 (D8 aa1))
 H8)
 (C2 (P3 (J0 (Q5 hu) W2 (U5 (r_v 1) rfl B.b_len) r_int (L2.E8 _))
 (C4 (D8 (S3 (Q5 hu) W2 (O9 (r_v 1) r_int (λ_ _=>rfl)) (as2 rfl GL.g_LAY) (L2.E8 _))))
 H8)
 (C2 (P3 (L2.PW.pt (a7 (J0 (R7 hu) Y1 (U5 (r_v 1) rfl B.b_len) r_int (L2.E8 _)) (U9 (J0 (R7 hu) Y1 (O9 (r_v 1) r_int (λ_ _=>rfl)) (as2 rfl GL.g_SAY) (L2.E8 _)))))
 (C4 (D8 aa1))
 H8)
 (C4 (D8 (T6 (r_callD D_is_chain_of (by decide) hr rfl (r_cons (r_v 0) (r_cons (O9 (r_v 1) r_int (λ_ _=>rfl)) r_nil))) (Q4 (S3 (Q5 hu) W2 (O9 (O9 (r_v 1) r_int (λ_ _=>rfl)) r_int (λ_ _=>rfl)) (O9 (O9 (r_v 1) r_int (λ_ _=>rfl)) r_int (λ_ _=>rfl)) (L2.E8 _)))))))))
theorem aj1:L2.C9 ["self"] ["self"] (L2.B9 (L2.C0 (top 27) 2)):=by walk_at "sc"
theorem ok_Ledger_move {fa:Addr} {fd:FuncData} (B:L9 K mg cm) (F:L2.Fun K "move" "Ledger.move" (L2.C0 (top 27) 2) fa fd):L2.FnOk P w K mg base L2.CX0 (1) fa fd ["self"] (SpF K cm J4 1):=
 E1 F aj1 λ_ _ _ _ _ _ hr hu hu1=>by
  exact (C4 (j8 12 B (r_v 0) (r_bin op_add3 ok_add (r_fb 12 B (r_v 0)) r_int)))
theorem k8:L2.C9 ["self","deed"] ["self","deed"] (L2.B9 (L2.C0 (top 27) 4)):=by walk_at "sc"
theorem ok_Ledger_take_lay {fa:Addr} {fd:FuncData} (B:L9 K mg cm) (F:L2.Fun K "take_lay" "Ledger.take_lay" (L2.C0 (top 27) 4) fa fd):L2.FnOk P w K mg base L2.CX0 (1) fa fd ["self","deed"] (SpF K cm f_Ledger_take_lay 2):=
 E1 F k8 λ_ _ _ _ _ _ hr hu hu1=>by
  exact (C2 (P3 (a37 hu1 (O9 (r_v 1) r_int (λ_ _=>rfl)) (r_fb 13 B (r_v 0)))
 (C4 S6)
 H8)
 (C4 (aC4 hu1 (r_fb 13 B (r_v 0)) (O9 (r_v 1) r_int (λ_ _=>rfl)) (r_fb 12 B (r_v 0)))))
theorem ak4:L2.C9 ["self","passing"] ["self","passing"] (L2.B9 (L2.C0 (top 32) 1)):=by walk_at "sc"
theorem ok_Plan_limit {fa:Addr} {fd:FuncData} (B:L9 K mg cm) (F:L2.Fun K "limit" "Plan.limit" (L2.C0 (top 32) 1) fa fd):L2.FnOk P w K mg base L2.CX0 (1) fa fd ["self","passing"] (SpF K cm P7 2):=
 E1 F ak4 λ_ _ _ _ _ _ hr hu hu1=>by
  exact (C4 (D8 (v6 hu1 (r_fb 10 B (r_v 0)) (r_v 1) (λ_ _=>rfl))))
theorem r9:L2.C9 ["self","passing","chain"] ["self","passing","chain"] (L2.B9 (L2.C0 (top 27) 8)):=by walk_at "sc"
theorem ok_Ledger_is_late {fa:Addr} {fd:FuncData} (B:L9 K mg cm) (D_Plan_limit:Y6 P w K mg base cm 1 "limit" 1 ["self","passing"] P7 2) (F:L2.Fun K "is_late" "Ledger.is_late" (L2.C0 (top 27) 8) fa fd):L2.FnOk P w K mg base L2.CX0 (2) fa fd ["self","passing","chain"] (SpF K cm J8 3):=
 E1 F r9 λ_ _ _ _ _ _ hr hu hu1=>by
  exact (C4 (D8 (S3 L2.bi1 bj6 (r_fb 12 B (r_v 0)) (r_bin op_add3 ok_add (P4 D_Plan_limit (by decide) hr (B.cls _ (by decide)) (r_fb 6 B (r_v 0)) (r_cons (r_v 1) r_nil) (by decide +kernel)) (U5 (r_v 2) rfl B.b_len)) (L2.E8 _))))
theorem W9:L2.C9 ["self","passing"] ["self","passing"] (L2.B9 (L2.C0 (top 27) 7)):=by walk_at "sc"
theorem ok_Ledger_is_laid_ahead {fa:Addr} {fd:FuncData} (B:L9 K mg cm) (F:L2.Fun K "is_laid_ahead" "Ledger.is_laid_ahead" (L2.C0 (top 27) 7) fa fd):L2.FnOk P w K mg base L2.CX0 (1) fa fd ["self","passing"] (SpF K cm E3 2):=
 E1 F W9 λ_ _ _ _ _ _ hr hu hu1=>by
  exact (C4 (D8 (T6 (aU9 hu1 (r_v 1) (r_fb 13 B (r_v 0))) (Q4 (S3 L2.ab4 ad6 (v6 hu1 (r_fb 13 B (r_v 0)) (r_v 1) (λ_ _=>rfl)) (r_fb 12 B (r_v 0)) (L2.E8 _))))))
theorem X0:L2.C9 ["self","chain"] ["self","chain"] (L2.B9 (L2.C0 (top 27) 10)):=by walk_at "sc"
theorem ok_Ledger_is_said_ahead {fa:Addr} {fd:FuncData} (B:L9 K mg cm) (F:L2.Fun K "is_said_ahead" "Ledger.is_said_ahead" (L2.C0 (top 27) 10) fa fd):L2.FnOk P w K mg base L2.CX0 (1) fa fd ["self","chain"] (SpF K cm E4 2):=
 E1 F X0 λ_ _ _ _ _ _ hr hu hu1=>by
  exact (C4 (D8 (T6 (aU9 hu1 (r_v 1) (r_fb 15 B (r_v 0))) (Q4 (S3 L2.ab4 ad6 (v6 hu1 (r_fb 15 B (r_v 0)) (r_v 1) (λ_ _=>rfl)) (r_fb 12 B (r_v 0)) (L2.E8 _))))))
theorem sc_Ledger_is_sayable:L2.C9 ["self","chain","left"] ["self","chain"] (L2.B9 (L2.C0 (top 27) 9)):=by walk_at "sc"
theorem ok_Ledger_is_sayable {fa:Addr} {fd:FuncData} (B:L9 K mg cm) (D_Ledger_is_said_ahead:Y6 P w K mg base cm 2 "is_said_ahead" 1 ["self","chain"] E4 2) (F:L2.Fun K "is_sayable" "Ledger.is_sayable" (L2.C0 (top 27) 9) fa fd):L2.FnOk P w K mg base L2.CX0 (2) fa fd ["self","chain"] (SpF K cm G8 2):=
 E1 F sc_Ledger_is_sayable λ_ _ _ _ _ _ hr hu hu1=>by
  exact (C2 (K1 (i:=2) sc_Ledger_is_sayable.nd rfl (.inl rfl) (ad9 (r_v 1) (r_lat r_int) r_lno))
 (C2 (aF5 PassesOwn.never (L2.PW.pt (aS6 (J0 (R7 hu) Y1 (r_v 2) (V8 r_nil) (L2.E8 _)) (aF1 (J0 (u7 hu) am1 (O9 (r_v 2) r_int (λ_ _=>rfl)) (r_fb 11 B (r_v 0)) (by rfl)))))
 (C4 (K1 (i:=2) sc_Ledger_is_sayable.nd rfl (.inl rfl) (ad9 (r_v 2) (r_lat r_int) r_lno))))
 (C4 (D8 (bo5 (S3 (Q5 hu) W2 (r_v 2) (V8 r_nil) (L2.E8 _)) (bk1 (P4 D_Ledger_is_said_ahead (by decide) hr (B.cls _ (by decide)) (r_v 0) (r_cons (r_v 2) r_nil) (by decide +kernel))))))))
theorem sc_Ledger_take_say:L2.C9 ["self","deed","passing","chain"] ["self","deed"] (L2.B9 (L2.C0 (top 27) 5)):=by walk_at "sc"
theorem ok_Ledger_take_say {fa:Addr} {fd:FuncData} (B:L9 K mg cm) (D_Ledger_is_laid_ahead:Y6 P w K mg base cm 2 "is_laid_ahead" 1 ["self","passing"] E3 2) (D_Ledger_is_late:Y6 P w K mg base cm 2 "is_late" 2 ["self","passing","chain"] J8 3) (D_Ledger_is_sayable:Y6 P w K mg base cm 2 "is_sayable" 2 ["self","chain"] G8 2) (F:L2.Fun K "take_say" "Ledger.take_say" (L2.C0 (top 27) 5) fa fd):L2.FnOk P w K mg base L2.CX0 (3) fa fd ["self","deed"] (SpF K cm f_Ledger_take_say 2):=
 E1 F sc_Ledger_take_say λ_ _ _ _ _ _ hr hu hu1=>by
  exact (C2 (K1 (i:=2) sc_Ledger_take_say.nd rfl (.inl rfl) (O9 (r_v 1) r_int (λ_ _=>rfl)))
 (C2 (K1 (i:=3) sc_Ledger_take_say.nd rfl (.inl rfl) (O9 (r_v 1) r_int (λ_ _=>rfl)))
 (C2 (P3 (O2 (K9 (P4 D_Ledger_is_laid_ahead (by decide) hr (B.cls _ (by decide)) (r_v 0) (r_cons (r_v 2) r_nil) (by decide +kernel))))
 (C4 S6)
 H8)
 (C2 (P3 (K9 (P4 D_Ledger_is_late (by decide) hr (B.cls _ (by decide)) (r_v 0) (r_cons (r_v 2) (r_cons (r_v 3) r_nil)) (by decide +kernel)))
 (C4 S6)
 H8)
 (C2 (P3 (O2 (K9 (P4 D_Ledger_is_sayable (by decide) hr (B.cls _ (by decide)) (r_v 0) (r_cons (r_v 3) r_nil) (by decide +kernel))))
 (C4 S6)
 H8)
 (C2 (a9 (av1 (aH1 hu1 (r_fb 14 B (r_v 0)) (r_v 2) (r_lst r_nil)) (V8 (r_cons (r_fb 12 B (r_v 0)) (r_cons (r_v 3) r_nil)))))
 (C4 (a9 (aH1 hu1 (r_fb 15 B (r_v 0)) (r_v 3) (r_fb 12 B (r_v 0)))))))))))
theorem aj2:L2.C9 ["self","deed"] ["self","deed"] (L2.B9 (L2.C0 (top 27) 3)):=by walk_at "sc"
theorem ok_Ledger_take {fa:Addr} {fd:FuncData} (B:L9 K mg cm) (GL:a72 mg) (D_is_deed:Def P w K mg base cm "is_deed" 5 ["plan","value"] P1 2) (D_Ledger_take_lay:Y6 P w K mg base cm 2 "take_lay" 1 ["self","deed"] f_Ledger_take_lay 2) (D_Ledger_take_say:Y6 P w K mg base cm 2 "take_say" 3 ["self","deed"] f_Ledger_take_say 2) (F:L2.Fun K "take" "Ledger.take" (L2.C0 (top 27) 3) fa fd):L2.FnOk P w K mg base L2.CX0 (6) fa fd ["self","deed"] (SpF K cm G4 2):=
 E1 F aj2 λ_ _ _ _ _ _ hr hu hu1=>by
  exact (C2 (P3 (O2 (K9 (r_callD D_is_deed (by decide) hr rfl (r_cons (r_fb 6 B (r_v 0)) (r_cons (r_v 1) r_nil)))))
 (C4 S6)
 H8)
 (C4 (P3 (J0 (Q5 hu) W2 (O9 (r_v 1) r_int (λ_ _=>rfl)) (as2 rfl GL.g_LAY) (L2.E8 _))
 (C4 (a9 (P4 D_Ledger_take_lay (by decide) hr (B.cls _ (by decide)) (r_v 0) (r_cons (r_v 1) r_nil) (by decide +kernel))))
 (C4 (a9 (P4 D_Ledger_take_say (by decide) hr (B.cls _ (by decide)) (r_v 0) (r_cons (r_v 1) r_nil) (by decide +kernel)))))))
theorem aj3:L2.C9 ["self","passing"] ["self","passing"] (L2.B9 (L2.C0 (top 27) 14)):=by walk_at "sc"
theorem ok_Ledger_said {fa:Addr} {fd:FuncData} (B:L9 K mg cm) (F:L2.Fun K "said" "Ledger.said" (L2.C0 (top 27) 14) fa fd):L2.FnOk P w K mg base L2.CX0 (1) fa fd ["self","passing"] (SpF K cm M8 2):=
 E1 F aj3 λ_ _ _ _ _ _ hr hu hu1=>by
  exact (C4 (D8 (ae0 (a39 hu1 (r_fb 14 B (r_v 0)) (r_v 1) (r_lst r_nil)) rfl B.b_list PyProof.Rows.boot_list)))
theorem sc_Ledger_has_all_words:L2.C9 ["self","passing","words"] ["self","passing"] (L2.B9 (L2.C0 (top 27) 11)):=by walk_at "sc"
theorem ok_Ledger_has_all_words {fa:Addr} {fd:FuncData} (B:L9 K mg cm) (D_Ledger_said:Y6 P w K mg base cm 2 "said" 1 ["self","passing"] M8 2) (F:L2.Fun K "has_all_words" "Ledger.has_all_words" (L2.C0 (top 27) 11) fa fd):L2.FnOk P w K mg base L2.CX0 (2) fa fd ["self","passing"] (SpF K cm E5 2):=
 E1 F sc_Ledger_has_all_words λ_ _ _ _ _ _ hr hu hu1=>by
  exact (C2 (K1 (i:=2) sc_Ledger_has_all_words.nd rfl (.inr rfl) (N5 (N:=["turn","chain"]) [none,none] rfl (⟨rfl,rfl,by decide +kernel,by decide +kernel,D9,(C3 (λh=>nomatch h) (C3 (λh=>nomatch h) (C3 (λh=>nomatch h) D9)))⟩) (.own (.own .nil)) (i_seq (P4 D_Ledger_said (by decide) hr (B.cls _ (by decide)) (r_v 0) (r_cons (r_v 1) r_nil) (by decide +kernel))) (λ_ _ _ _=>(av2 rfl (g_cons (g_name (L2.pg_name (i:=0) (show List.Nodup (["turn","chain"]:List Str) from by decide +kernel) rfl (by walk_at "o2"))) (g_cons (g_name (L2.pg_name (i:=1) (show List.Nodup (["turn","chain"]:List Str) from by decide +kernel) rfl (by walk_at "o2"))) g_nil)))) (λ_ _ _ _=>R8) (λ_ _ _ _=>(O9 (r_v 1) aw0 (λ_ _=>rfl)))))
 (C4 (D8 (af4 rfl (N5 (N:=["leader","words"]) [none,some 2] rfl (⟨rfl,rfl,by decide +kernel,by decide +kernel,(C3 rfl D9),(C3 (λh=>nomatch h) (C3 (λh=>nomatch h) (C3 (λ_=>rfl) D9)))⟩) (.own (.free rfl (by walk_at "o2") (by walk_at "o3") rfl (by walk_at "o2") .nil)) (i_seq (r_fb 9 B (r_fb 6 B (r_v 0)))) (λ_ _ _ _=>(g_name (L2.pg_name (i:=0) (show List.Nodup (["leader","words"]:List Str) from by decide +kernel) rfl (by walk_at "o2")))) (λ_ _ _ _=>R8) (λ_ _ _ _=>(S3 (u7 hu) am1 (r_v 0) (r_v 1) (by rfl)))) rfl B.b_all))))
theorem aj4:L2.C9 ["self"] ["self"] (L2.B9 (L2.C0 (top 27) 12)):=by walk_at "sc"
theorem ok_Ledger_laid {fa:Addr} {fd:FuncData} (B:L9 K mg cm) (F:L2.Fun K "laid" "Ledger.laid" (L2.C0 (top 27) 12) fa fd):L2.FnOk P w K mg base L2.CX0 (1) fa fd ["self"] (SpF K cm J5 1):=
 E1 F aj4 λ_ _ _ _ _ _ hr hu hu1=>by
  exact (C4 (D8 (aM7 rfl (r_fb 13 B (r_v 0)) rfl B.b_sorted)))
theorem w6:L2.C9 ["self"] ["self"] (L2.B9 (L2.C0 (top 27) 13)):=by walk_at "sc"
theorem ok_Ledger_opened {fa:Addr} {fd:FuncData} (B:L9 K mg cm) (D_Ledger_has_all_words:Y6 P w K mg base cm 2 "has_all_words" 2 ["self","passing"] E5 2) (D_Ledger_laid:Y6 P w K mg base cm 2 "laid" 1 ["self"] J5 1) (F:L2.Fun K "opened" "Ledger.opened" (L2.C0 (top 27) 13) fa fd):L2.FnOk P w K mg base L2.CX0 (3) fa fd ["self"] (SpF K cm K7 1):=
 E1 F w6 λ_ _ _ _ _ _ hr hu hu1=>by
  exact (C4 (D8 (N5 (N:=["passing","self"]) [none,some 0] rfl (⟨rfl,rfl,by decide +kernel,by decide +kernel,(C3 rfl D9),(C3 (λh=>nomatch h) (C3 (λh=>nomatch h) (C3 (λ_=>rfl) D9)))⟩) (.own (.free rfl (by walk_at "o2") (by walk_at "o3") rfl (by walk_at "o2") .nil)) (i_seq (r_methD0 D_Ledger_laid (by decide) hr (B.cls _ (by decide)) (r_v 0) (by decide +kernel))) (λ_ _ _ _=>(g_name (L2.pg_name (i:=0) (show List.Nodup (["passing","self"]:List Str) from by decide +kernel) rfl (by walk_at "o2")))) (λ_ _ _ _=>(ae5 (K9 (P4 D_Ledger_has_all_words (by decide) hr (B.cls _ (by decide)) (r_v 1) (r_cons (r_v 0) r_nil) (by decide +kernel))))) (λ_ _ _ _=>(r_v 0)))))
theorem aj5:L2.C9 ["_law_script","_law_k"] ["_law_script","_law_k"] (L2.B9 (top 34)):=by walk_at "sc"
theorem ok_law_cell_at {fa:Addr} {fd:FuncData} (B:L9 K mg cm) (F:L2.Fun K "_law_cell_at" "_law_cell_at" (top 34) fa fd):L2.FnOk P w K mg base L2.CX0 (1) fa fd ["_law_script","_law_k"] (SpF K cm L4 2):=
 E1 F aj5 λ_ _ _ _ _ _ hr hu hu1=>by
  exact (C2 (P3 (J0 L2.ab4 ad6 (r_v 1) (U5 (r_v 0) rfl B.b_len) (L2.E8 _))
 (C4 (D8 (O9 (r_v 0) (r_v 1) (λ_ _=>rfl))))
 H8)
 (C4 (D8 r_int)))
theorem at6:L2.C9 ["_law_found","_law_due"] ["_law_found","_law_due"] (L2.B9 (top 35)):=by walk_at "sc"
theorem ok_law_alike {fa:Addr} {fd:FuncData} (B:L9 K mg cm) (BS:mg "str" = none) {kk:Nat} {rec:Fun} (D_law_alike:Def P w K mg base cm "_law_alike" kk ["_law_found","_law_due"] rec 2) (F:L2.Fun K "_law_alike" "_law_alike" (top 35) fa fd):L2.FnOk P w K mg base L2.CX0 (kk+1) fa fd ["_law_found","_law_due"] (SpF K cm (C8 rec) 2):=
 E1 F at6 λ_ _ _ _ _ _ hr hu hu1=>by
  exact (C2 (P3 (aS4 (r_v 1))
 (C4 (D8 (bk0 (r_v 0))))
 H8)
 (C2 (P3 (K9 (T7 (t:=.bool) B.kit (r_v 1) rfl B.b_isinstance rfl B.b_bool PyProof.Rows.boot_bool))
 (C4 (D8 (T6 (T7 (t:=.bool) B.kit (r_v 0) rfl B.b_isinstance rfl B.b_bool PyProof.Rows.boot_bool) (Q4 (S3 (Q5 hu) W2 (r_v 0) (r_v 1) (L2.E8 _))))))
 H8)
 (C2 (P3 (K9 (T7 (t:=.int) B.kit (r_v 1) rfl B.b_isinstance rfl B.b_int PyProof.Rows.boot_int))
 (C4 (D8 (T6 (T7 (t:=.int) B.kit (r_v 0) rfl B.b_isinstance rfl B.b_int PyProof.Rows.boot_int) (T6 (a85 (T7 (t:=.bool) B.kit (r_v 0) rfl B.b_isinstance rfl B.b_bool PyProof.Rows.boot_bool)) (Q4 (S3 (Q5 hu) W2 (r_v 0) (r_v 1) (L2.E8 _)))))))
 H8)
 (C2 (P3 (K9 (aH0 (r_v 1) rfl B.b_isinstance rfl BS))
 (C4 (D8 (T6 (aH0 (r_v 0) rfl B.b_isinstance rfl BS) (Q4 (S3 (Q5 hu) W2 (r_v 0) (r_v 1) (L2.E8 _))))))
 H8)
 (C2 (P3 (L2.PW.pt (a7 (J0 (R7 hu) Y1 (T7 (t:=.tuple) B.kit (r_v 1) rfl B.b_isinstance rfl B.b_tuple PyProof.Rows.boot_tuple) (T7 (t:=.tuple) B.kit (r_v 0) rfl B.b_isinstance rfl B.b_tuple PyProof.Rows.boot_tuple) (L2.E8 _)) (U9 (J0 (R7 hu) Y1 (T7 (t:=.list) B.kit (r_v 1) rfl B.b_isinstance rfl B.b_list PyProof.Rows.boot_list) (T7 (t:=.list) B.kit (r_v 0) rfl B.b_isinstance rfl B.b_list PyProof.Rows.boot_list) (L2.E8 _)))))
 (C4 (D8 aa1))
 H8)
 (C2 (P3 (J0 (R7 hu) Y1 (U5 (r_v 0) rfl B.b_len) (U5 (r_v 1) rfl B.b_len) (L2.E8 _))
 (C4 (D8 aa1))
 H8)
 (C4 (D8 (af4 rfl (N5 (N:=["_law_k","_law_found","_law_due"]) [none,some 0,some 1] rfl (⟨rfl,rfl,by decide +kernel,by decide +kernel,(C3 rfl (C3 rfl D9)),(C3 (λh=>nomatch h) (C3 (λh=>nomatch h) (C3 (λh=>nomatch h) (C3 (λ_=>rfl) (C3 (λ_=>rfl) D9)))))⟩) (.own (.free rfl (by walk_at "o2") (by walk_at "o3") rfl (by walk_at "o2") (.free rfl (by walk_at "o2") (by walk_at "o3") rfl (by walk_at "o2") .nil))) (i_rng1 rfl B.b_range (U5 (r_v 1) rfl B.b_len)) (λ_ _ _ _=>(g_name (L2.pg_name (i:=0) (show List.Nodup (["_law_k","_law_found","_law_due"]:List Str) from by decide +kernel) rfl (by walk_at "o2")))) (λ_ _ _ _=>R8) (λ_ _ _ _=>(r_callD D_law_alike (Nat.le_refl _) hr rfl (r_cons (O9 (r_v 1) (r_v 0) (λ_ _=>rfl)) (r_cons (O9 (r_v 2) (r_v 0) (λ_ _=>rfl)) r_nil))))) rfl B.b_all)))))))))
theorem sc_law_mixed:L2.C9 ["_law_cell","_law_k","_law_number"] ["_law_cell","_law_k"] (L2.B9 (top 36)):=by walk_at "sc"
theorem ok_law_mixed {fa:Addr} {fd:FuncData} (B:L9 K mg cm) (F:L2.Fun K "_law_mixed" "_law_mixed" (top 36) fa fd):L2.FnOk P w K mg base L2.CX0 (1) fa fd ["_law_cell","_law_k"] (SpF K cm J6 2):=
 E1 F sc_law_mixed λ_ _ _ _ _ _ hr hu hu1=>by
  exact (C2 (K1 (i:=2) sc_law_mixed.nd rfl (.inl rfl) (r_bin L2.op_mod ok_mod (r_bin L2.az7 aB5 (r_bin op_add3 ok_add (r_bin op_add3 ok_add (r_v 0) (r_bin L2.az7 aB5 r_int (r_v 1))) r_int) r_int) r_int))
 (C4 (D8 (r_bin L2.op_mod ok_mod (r_bin L2.az7 aB5 (r_v 2) (r_bin op_add3 ok_add (r_bin L2.ao9 aq8 (r_v 2) r_int) r_int)) r_int))))
theorem sc_law_ways:L2.C9 ["_law_passings","_law_ways_here","_law_found","_law_more","_law_way"] ["_law_passings","_law_ways_here"] (L2.B9 (top 37)):=by walk_at "sc"
theorem ok_law_ways {fa:Addr} {fd:FuncData} (B:L9 K mg cm) (F:L2.Fun K "_law_ways" "_law_ways" (top 37) fa fd):L2.FnOk P w K mg base L2.CX0 (1) fa fd ["_law_passings","_law_ways_here"] (SpF K cm Q9 2):=
 E1 F sc_law_ways λ_ _ _ _ _ _ hr hu hu1=>by
  exact (C2 (K1 (i:=2) sc_law_ways.nd rfl (.inl rfl) (r_lst r_nil))
 (C2 (aF5 PassesOwn.never (J0 (R7 hu) Y1 (r_v 1) (r_lst r_nil) (L2.E8 _))
 (C2 (K1 (i:=2) sc_law_ways.nd rfl (.inl rfl) (r_bin op_add3 ok_add (r_v 2) (r_v 1)))
 (C2 (K1 (i:=3) sc_law_ways.nd rfl (.inl rfl) (r_lst r_nil))
 (C2 (ae1 PassesOwn.never rfl (i_seq (r_v 1)) (g_name (L2.pg_name (i:=4) sc_law_ways.nd rfl (.inr rfl)))
 (C4 (K1 (i:=3) sc_law_ways.nd rfl (.inl rfl) (r_bin op_add3 ok_add (r_v 3) (N5 (N:=["_law_giver","_law_taker","_law_way"]) [none,none,some 4] rfl (⟨rfl,rfl,by decide +kernel,by decide +kernel,(C3 rfl D9),(C3 (λh=>nomatch h) (C3 (λh=>nomatch h) (C3 (λh=>nomatch h) (C3 (λ_=>rfl) D9))))⟩) (.own (.own (.free rfl (by walk_at "o2") (by walk_at "o3") rfl (by walk_at "o2") .nil))) (i_seq (r_v 0)) (λ_ _ _ _=>(av2 rfl (g_cons (g_name (L2.pg_name (i:=0) (show List.Nodup (["_law_giver","_law_taker","_law_way"]:List Str) from by decide +kernel) rfl (by walk_at "o2"))) (g_cons (g_name (L2.pg_name (i:=1) (show List.Nodup (["_law_giver","_law_taker","_law_way"]:List Str) from by decide +kernel) rfl (by walk_at "o2"))) g_nil)))) (λ_ _ _ _=>(ae5 (L2.PW.pt (aS6 (J0 (Q5 hu) W2 (r_v 0) (O9 (r_v 2) aw0 (λ_ _=>rfl)) (L2.E8 _)) (aF1 (J0 (am0 hu) av4 (r_v 1) (r_v 2) (by rfl))))))) (λ_ _ _ _=>(r_bin op_add3 ok_add (r_v 2) (V8 (r_cons (r_v 1) r_nil)))))))))
 (C4 (K1 (i:=1) sc_law_ways.nd rfl (.inl rfl) (r_v 3)))))))
 (C4 (D8 (r_v 2)))))
theorem ak5:L2.C9 ["_law_passings","_law_leaders","_law_hand"] ["_law_passings","_law_leaders","_law_hand"] (L2.B9 (top 38)):=by walk_at "sc"
theorem ok_law_chains {fa:Addr} {fd:FuncData} (B:L9 K mg cm) (D_law_ways:Def P w K mg base cm "_law_ways" 1 ["_law_passings","_law_ways_here"] Q9 2) (F:L2.Fun K "_law_chains" "_law_chains" (top 38) fa fd):L2.FnOk P w K mg base L2.CX0 (2) fa fd ["_law_passings","_law_leaders","_law_hand"] (SpF K cm N9 3):=
 E1 F ak5 λ_ _ _ _ _ _ hr hu hu1=>by
  refine @C4 _ _ _ _ ?_
  refine @D8 _ _ _ _ _ ?_
  exact (N5 (N:=["_law_way","_law_leaders"]) [none,some 1] rfl (⟨rfl,rfl,by decide +kernel,by decide +kernel,(C3 rfl D9),(C3 (λh=>nomatch h) (C3 (λh=>nomatch h) (C3 (λ_=>rfl) D9)))⟩) (.own (.free rfl (by walk_at "o2") (by walk_at "o3") rfl (by walk_at "o2") .nil)) (i_seq (r_callD D_law_ways (by decide) hr rfl (r_cons (r_v 0) (r_cons (by refine @r_lst _ _ _ _ _ ?_;refine @r_cons _ _ _ _ _ _ ?_ ?_ (by exact G0 rfl);refine @V8 _ _ _ _ _ _ ?_;refine @r_cons _ _ _ _ _ _ ?_ ?_ (by exact G0 rfl);exact (r_v 2);exact r_nil;exact r_nil) r_nil)))) (λ_ _ _ _=>(g_name (L2.pg_name (i:=0) (show List.Nodup (["_law_way","_law_leaders"]:List Str) from by decide +kernel) rfl (by walk_at "o2")))) (λ_ _ _ _=>(ae5 (J0 (u7 hu) am1 (O9 (r_v 0) aw0 (λ_ _=>rfl)) (r_v 1) (by rfl)))) (λ_ _ _ _=>(r_v 0)))
theorem sc_law_taken:L2.C9 ["_law_ledger","_law_deed","_law_word","_law_value","_law_plain","e"] ["_law_ledger","_law_deed"] (L2.B9 (top 39)):=by walk_at "sc"
theorem ok_law_taken {fa:Addr} {fd:FuncData} (B:L9 K mg cm) (D_Ledger_take:Y6 P w K mg base cm 2 "take" 6 ["self","deed"] G4 2) (F:L2.Fun K "_law_taken" "_law_taken" (top 39) fa fd):L2.FnOk P w K mg base L2.CX0 (7) fa fd ["_law_ledger","_law_deed"] (SpF K cm P2 2):=
 E1 F sc_law_taken λ_ _ _ _ _ _ hr hu hu1=>by
  exact (C2 (K1 (i:=2) sc_law_taken.nd rfl (.inl rfl) ag1)
 (C2 (K1 (i:=3) sc_law_taken.nd rfl (.inl rfl) (r_v 1))
 (C2 (K1 (i:=4) sc_law_taken.nd rfl (.inl rfl) aa1)
 (C2 (bf8 (by rfl) (K1 (i:=2) sc_law_taken.nd rfl (.inl rfl) (O9 (r_lst (r_cons ag1 (r_cons ag1 r_nil))) (bf4 (bd9 (P4 D_Ledger_take (by decide) hr (B.cls _ (by decide)) (r_v 0) (r_cons (r_v 1) r_nil) (by decide +kernel))) rfl B.b_int) (λ_ _=>rfl))))
 (C2 (P3 (L2.PW.pt (a7 (J0 (R7 hu) Y1 (r_v 3) (r_v 1) (L2.E8 _)) (U9 (O2 (K9 (r_v 4))))))
 (C4 (D8 ag1))
 H8)
 (C4 (D8 (r_v 2))))))))
theorem sc_law:L2.C9 ["_law_script","_law_cell","_law_many","_law_passings","_law_giver","_law_leaders","_law_limits","_law_ledger","_law_passing","_law_words","_law_x","_law_step","_law_chains_here","_law_chain","_law_told"] ["_law_script"] (L2.B9 (top 40)):=by walk_at "sc"
theorem ok_law {fa:Addr} {fd:FuncData} (B:L9 K mg cm) (D_law_cell_at:Def P w K mg base cm "_law_cell_at" 1 ["_law_script","_law_k"] L4 2) (D_law_mixed:Def P w K mg base cm "_law_mixed" 1 ["_law_cell","_law_k"] J6 2) (D_Ledger_init:aT1 P w K mg base cm 2 "Ledger" 1 ["self","plan","free"] L3 3) (D_Plan_init:aT1 P w K mg base cm 1 "Plan" 4 ["self","web","leaders","limits"] N7 4) (D_Web_init:aT1 P w K mg base cm 0 "Web" 5 ["self","number","passings"] N8 3) (D_Ledger_take:Y6 P w K mg base cm 2 "take" 6 ["self","deed"] G4 2) (D_Ledger_move:Y6 P w K mg base cm 2 "move" 1 ["self"] J4 1) (D_law_chains:Def P w K mg base cm "_law_chains" 2 ["_law_passings","_law_leaders","_law_hand"] N9 3) (D_law_taken:Def P w K mg base cm "_law_taken" 7 ["_law_ledger","_law_deed"] P2 2) (D_Ledger_opened:Y6 P w K mg base cm 2 "opened" 3 ["self"] K7 1) (D_law_alike:Def P w K mg base cm "_law_alike" 6 ["_law_found","_law_due"] c6 2) (D_Ledger_laid:Y6 P w K mg base cm 2 "laid" 1 ["self"] J5 1) (F:L2.Fun K "law" "law" (top 40) fa fd):L2.FnOk P w K mg base L2.CX0 (8) fa fd ["_law_script"] (SpF K cm aH9 1):=
 E1 F sc_law λ_ _ _ _ _ _ hr hu hu1=>by
  refine @C2 _ _ _ _ _ _ ?_ ?_
  exact (K1 (i:=1) sc_law.nd rfl (.inr rfl) (r_callD D_law_cell_at (by decide) hr rfl (r_cons (r_v 0) (r_cons r_int r_nil))))
  refine @C2 _ _ _ _ _ _ ?_ ?_
  exact (K1 (i:=2) sc_law.nd rfl (.inl rfl) (r_bin op_add3 ok_add r_int (r_bin L2.op_mod ok_mod (r_callD D_law_mixed (by decide) hr rfl (r_cons (r_v 1) (r_cons r_int r_nil))) r_int)))
  refine @C2 _ _ _ _ _ _ ?_ ?_
  exact (K1 (i:=3) sc_law.nd rfl (.inl rfl) (r_lst r_nil))
  refine @C2 _ _ _ _ _ _ ?_ ?_
  exact (ae1 PassesOwn.never rfl (i_rng1 rfl B.b_range (r_v 2)) (g_name (L2.pg_name (i:=4) sc_law.nd rfl (.inr rfl)))
 (C4 (K1 (i:=3) sc_law.nd rfl (.inl rfl) (r_bin op_add3 ok_add (r_v 3) (N5 (N:=["_law_taker","_law_giver"]) [none,some 4] rfl (⟨rfl,rfl,by decide +kernel,by decide +kernel,(C3 rfl D9),(C3 (λh=>nomatch h) (C3 (λh=>nomatch h) (C3 (λ_=>rfl) D9)))⟩) (.own (.free rfl (by walk_at "o2") (by walk_at "o3") rfl (by walk_at "o2") .nil)) (i_rng1 rfl B.b_range (r_v 2)) (λ_ _ _ _=>(g_name (L2.pg_name (i:=0) (show List.Nodup (["_law_taker","_law_giver"]:List Str) from by decide +kernel) rfl (by walk_at "o2")))) (λ_ _ _ _=>(ae5 (J0 (R7 hu) Y1 (r_v 0) (r_v 1) (L2.E8 _)))) (λ_ _ _ _=>(V8 (r_cons (r_v 1) (r_cons (r_v 0) r_nil)))))))))
  refine @C2 _ _ _ _ _ _ ?_ ?_
  exact (K1 (i:=5) sc_law.nd rfl (.inr rfl) (ad9 (af2 hu (N5 (N:=["_law_hand","_law_cell"]) [none,some 1] rfl (⟨rfl,rfl,by decide +kernel,by decide +kernel,(C3 rfl D9),(C3 (λh=>nomatch h) (C3 (λh=>nomatch h) (C3 (λh=>nomatch h) (C3 (λ_=>rfl) D9))))⟩) (.own (.free rfl (by walk_at "o2") (by walk_at "o3") rfl (by walk_at "o2") .nil)) (i_rng1 rfl B.b_range (r_v 2)) (λ_ _ _ _=>(g_name (L2.pg_name (i:=0) (show List.Nodup (["_law_hand","_law_cell"]:List Str) from by decide +kernel) rfl (by walk_at "o2")))) (λ_ _ _ _=>R8) (λ_ _ _ _=>(V8 (r_cons (r_callD D_law_mixed (by decide) hr rfl (r_cons (r_v 1) (r_cons (r_bin op_add3 ok_add r_int (r_v 0)) r_nil))) (r_cons (r_v 0) r_nil))))) rfl B.b_sorted) r_lno (r_lat (r_bin op_add3 ok_add r_int (r_bin L2.op_mod ok_mod (r_callD D_law_mixed (by decide) hr rfl (r_cons (r_v 1) (r_cons r_int r_nil))) r_int)))))
  refine @C2 _ _ _ _ _ _ ?_ ?_
  exact (K1 (i:=5) sc_law.nd rfl (.inr rfl) (af2 hu (N5 (N:=["_law_x","_law_hand"]) [none,none] rfl (⟨rfl,rfl,by decide +kernel,by decide +kernel,D9,(C3 (λh=>nomatch h) (C3 (λh=>nomatch h) (C3 (λh=>nomatch h) D9)))⟩) (.own (.own .nil)) (i_seq (r_v 5)) (λ_ _ _ _=>(av2 rfl (g_cons (g_name (L2.pg_name (i:=0) (show List.Nodup (["_law_x","_law_hand"]:List Str) from by decide +kernel) rfl (by walk_at "o2"))) (g_cons (g_name (L2.pg_name (i:=1) (show List.Nodup (["_law_x","_law_hand"]:List Str) from by decide +kernel) rfl (by walk_at "o2"))) g_nil)))) (λ_ _ _ _=>R8) (λ_ _ _ _=>(r_v 1))) rfl B.b_sorted))
  refine @C2 _ _ _ _ _ _ ?_ ?_
  exact (K1 (i:=6) sc_law.nd rfl (.inl rfl) (an0 rfl hu (N5 (N:=["_law_passing"]) [none] rfl (⟨rfl,rfl,by decide +kernel,by decide +kernel,D9,(C3 (λh=>nomatch h) (C3 (λh=>nomatch h) D9))⟩) (.own .nil) (i_seq (r_v 3)) (λ_ _ _ _=>(g_name (L2.pg_name (i:=0) (show List.Nodup (["_law_passing"]:List Str) from by decide +kernel) rfl (by walk_at "o2")))) (λ_ _ _ _=>R8) (λ_ _ _ _=>(V8 (r_cons (r_v 0) (r_cons r_int r_nil))))) rfl B.b_dict))
  refine @C2 _ _ _ _ _ _ ?_ ?_
  exact (K1 (i:=7) sc_law.nd rfl (.inl rfl) (ar2 D_Ledger_init (by decide) hr rfl (r_cons (ar2 D_Plan_init (by decide) hr rfl (r_cons (ar2 D_Web_init (by decide) hr rfl (r_cons (r_v 2) (r_cons (r_v 3) r_nil))) (r_cons (r_v 5) (r_cons (r_v 6) r_nil)))) (r_cons (aM0 rfl (r_v 2) rfl B.b_list rfl B.b_range) r_nil))))
  refine @C2 _ _ _ _ _ _ ?_ ?_
  exact (ae1 PassesOwn.never rfl (i_seq (r_v 3)) (g_name (L2.pg_name (i:=8) sc_law.nd rfl (.inl rfl)))
 (C4 (a9 (P4 D_Ledger_take (by decide) hr (B.cls _ (by decide)) (r_v 7) (r_cons (V8 (r_cons ag1 (r_cons (r_v 8) r_nil))) r_nil) (by decide +kernel)))))
  refine @C2 _ _ _ _ _ _ ?_ ?_
  exact (a9 (r_methD0 D_Ledger_move (by decide) hr (B.cls _ (by decide)) (r_v 7) (by decide +kernel)))
  refine @C2 _ _ _ _ _ _ ?_ ?_
  refine @K1 _ _ 9 _ _ _ _ _ ?_ ?_ ?_ ?_ ?_ ?_
  exact sc_law.nd
  exact rfl
  exact (.inr rfl)
  refine @an0 _ _ _ _ _ _ ?_ ?_ ?_ ?_ ?_ ?_
  exact rfl
  exact hu
  exact (N5 (N:=["_law_passing"]) [none] rfl (⟨rfl,rfl,by decide +kernel,by decide +kernel,D9,(C3 (λh=>nomatch h) (C3 (λh=>nomatch h) D9))⟩) (.own .nil) (i_seq (r_v 3)) (λ_ _ _ _=>(g_name (L2.pg_name (i:=0) (show List.Nodup (["_law_passing"]:List Str) from by decide +kernel) rfl (by walk_at "o2")))) (λ_ _ _ _=>R8) (λ_ _ _ _=>(by refine @V8 _ _ _ _ _ _ ?_;refine @r_cons _ _ _ _ _ _ ?_ ?_ (by exact G0 rfl);exact (r_v 0);refine @r_cons _ _ _ _ _ _ ?_ ?_ (by exact G0 rfl);refine @r_lst _ _ _ _ _ ?_;exact r_nil;exact r_nil)))
  exact rfl
  exact B.b_dict
  exact G0 rfl
  rfl
  first | exact .inl rfl | exact .inr rfl
  exact (C2 (ae1 PassesOwn.never rfl (i_seq (ad9 (r_v 0) (r_lat r_int) (r_lat r_int))) (g_name (L2.pg_name (i:=1) sc_law.nd rfl (.inr rfl)))
 (C2 (K1 (i:=10) sc_law.nd rfl (.inl rfl) (r_callD D_law_mixed (by decide) hr rfl (r_cons (r_v 1) (r_cons r_int r_nil))))
 (C2 (ae1 PassesOwn.never rfl (i_rng1 rfl B.b_range (O9 (r_lst (r_cons r_int (r_cons r_int (r_cons r_int (r_cons r_int r_nil))))) (r_bin L2.op_mod ok_mod (r_v 10) r_int) (λ_ _=>rfl))) (g_name (L2.pg_name (i:=11) sc_law.nd rfl (.inl rfl)))
 (C4 (a9 (r_methD0 D_Ledger_move (by decide) hr (B.cls _ (by decide)) (r_v 7) (by decide +kernel)))))
 (C2 (K1 (i:=8) sc_law.nd rfl (.inl rfl) (O9 (r_v 3) (r_bin L2.op_mod ok_mod (r_bin L2.ao9 aq8 (r_v 10) r_int) (U5 (r_v 3) rfl B.b_len)) (λ_ _=>rfl)))
 (C2 (K1 (i:=12) sc_law.nd rfl (.inl rfl) (r_callD D_law_chains (by decide) hr rfl (r_cons (r_v 3) (r_cons (r_v 5) (r_cons (O9 (r_v 8) r_int (λ_ _=>rfl)) r_nil)))))
 (C2 (K1 (i:=13) sc_law.nd rfl (.inl rfl) (O9 (r_v 12) (r_bin L2.op_mod ok_mod (r_bin L2.ao9 aq8 (r_v 10) r_int) (U5 (r_v 12) rfl B.b_len)) (λ_ _=>rfl)))
 (C2 (P3 (J0 (R7 hu) Y1 (r_callD D_law_taken (by decide) hr rfl (r_cons (r_v 7) (r_cons (V8 (r_cons ag1 (r_cons (r_v 8) (r_cons (r_v 13) r_nil)))) r_nil))) ag1 (L2.E8 _))
 (C4 (D8 aa1))
 H8)
 (C2 (aC4 hu1 (r_v 9) (r_v 8) (aD2 rfl (r_bin op_add3 ok_add (v6 hu1 (r_v 9) (r_v 8) (λ_ _=>rfl)) (r_lst (r_cons (O9 (r_v 13) aw0 (λ_ _=>rfl)) r_nil))) rfl B.b_sorted rfl B.b_set))
 (C2 (K1 (i:=14) sc_law.nd rfl (.inl rfl) (r_methD0 D_Ledger_opened (by decide) hr (B.cls _ (by decide)) (r_v 7) (by decide +kernel)))
 (C2 (P3 (O2 (K9 (r_callD D_law_alike (by decide) hr rfl (r_cons (r_v 14) (r_cons (N5 (N:=["_law_passing","_law_words","_law_leaders"]) [none,some 9,some 5] rfl (⟨rfl,rfl,by decide +kernel,by decide +kernel,(C3 rfl (C3 rfl D9)),(C3 (λh=>nomatch h) (C3 (λh=>nomatch h) (C3 (λ_=>rfl) (C3 (λ_=>rfl) D9))))⟩) (.own (.free rfl (by walk_at "o2") (by walk_at "o3") rfl (by walk_at "o2") (.free rfl (by walk_at "o2") (by walk_at "o3") rfl (by walk_at "o2") .nil))) (i_seq (r_v 3)) (λ_ _ _ _=>(g_name (L2.pg_name (i:=0) (show List.Nodup (["_law_passing","_law_words","_law_leaders"]:List Str) from by decide +kernel) rfl (by walk_at "o2")))) (λ_ _ _ _=>(ae5 (J0 (Q5 hu) W2 (v6 hu1 (r_v 1) (r_v 0) (λ_ _=>rfl)) (r_v 2) (L2.E8 _)))) (λ_ _ _ _=>(r_v 0))) r_nil)))))
 (C4 (D8 aa1))
 H8)
 (C4 (a9 (av1 (r_v 14) (V8 (r_cons r_int (r_cons r_int r_nil))))))))))))))))
 (C4 (D8 (S3 (Q5 hu) W2 (U5 (r_methD0 D_Ledger_laid (by decide) hr (B.cls _ (by decide)) (r_v 7) (by decide +kernel)) rfl B.b_len) (U5 (r_v 3) rfl B.b_len) (L2.E8 _)))))
end
end Ws
namespace Ws
open PySem PySem.W
def nsB (K:Frag) (n:Str) (f:Addr):Bool:=decide (nsIn K mainGlobals n=some (some (.ref f)))
def noB (K:Frag) (n:Str):Bool:=decide (nsIn K mainGlobals n=some none)
def glB (K:Frag) (n:Str) (v:Value):Bool:=decide (nsIn K mainGlobals n=some (some v))
def fiB (K:Frag) (C:Addr) (n:Str) (v:Option Value):Bool:=decide (findIn K (.ref C) n=some v)
def mtB (K:Frag) (C:Addr) (n:Str) (f:Addr):Bool:=fiB K C n (some (.ref f))&&isFn K (.ref f)
def ckB (K:Frag) (cd:Value) (q:Str) (f:Addr):Bool:=codeIn K cd q&&keepIn K (.ref f)
def clB (K:Frag) (C:Addr):Bool:=plainGet K C Str.empty&&hasDictIn K C&&plainOver K C&&fiB K C "__setattr__" (some (.builtin "object.__setattr__"))&&(List.range 19).all λj=>fiB K C (fnm j) none
def mkB (K:Frag) (C:Addr):Bool:=makesIn K C&&keepIn K (.ref C)
def blts:List Str:=["len","range","list","sorted","isinstance","int","bool","tuple","enumerate","reversed","max","min","all","any","set","zip","dict"]
theorem bp1 {l:List Bool} (h:l.all id=true) (i:Nat) {b:Bool} (hb:l[i]?=some b):b=true:=List.all_eq_true.mp h b (List.mem_of_getElem? hb)
theorem lat {α:Type} {l m:List α} (h:l=m) (i:Nat) {a b:α} (ha:l[i]?=some a) (hb:m[i]?=some b):a=b:=by rw [h,hb] at ha;exact (Option.some.inj ha).symm
theorem an2 {a b:Bool} (h:(a&&b)=true):a=true/\b=true:=Bool.and_eq_true_iff.mp h
structure En (P:Program) (w:World) (K:Frag) (mg:Str->Option Value) (base:Heap) (cm:Nat->Addr):Prop where
 ex:∃h:Heap,K.In h/\h.Ns mainGlobals mg
section
variable {P:Program} {w:World} {K:Frag} {mg:Str->Option Value} {base:Heap} {cm:Nat->Addr} {n q:Str} {st:Stmt} {fa T:Addr} {fd:FuncData} {k ar c:Nat} {ps:List Str} {f:Fun} {oc kV doc pm cdv ct tc:Value} {od an td:Option Addr} {osl ts:Array (Option Value)} {items:Array Value} {tn:Nat}
theorem En.of (E:En P w K mg base cm) {v:Value} (h:glB K n v=true):mg n=some v:=by
 obtain⟨hp,X,G⟩:=E.ex
 exact mg_of X G (of_decide_eq_true h)
theorem En.ns (E:En P w K mg base cm) {a:Addr} (h:nsB K n a=true):mg n=some (.ref a):=E.of h
theorem En.no (E:En P w K mg base cm) (h:noB K n=true):mg n=none:=by
 obtain⟨hp,X,G⟩:=E.ex
 exact mg_none_of X G (of_decide_eq_true h)
theorem mkF {x:Bool} (l:K.lookup fa=some ⟨oc,od,.func (fnOf n q (L2.C6 st) (L2.C5 st) (L2.B9 st) .none kV doc pm an cdv ct),osl⟩) (b:(x&&ckB K cdv q fa)=true):L2.Fun K n q st fa (fnOf n q (L2.C6 st) (L2.C5 st) (L2.B9 st) .none kV doc pm an cdv ct):=
 L2.bc8 l (an2 (an2 b).2).1 (an2 (an2 b).2).2
theorem bp2 {x:Bool} (l:K.lookup fa=some ⟨oc,od,.func (fnOf n q (L2.C6 st) (L2.C5 st) (L2.B9 st) (.ref T) kV doc pm an cdv ct),osl⟩) (t:K.lookup T=some ⟨tc,td,.seq items tn,ts⟩) (b:(x&&ckB K cdv q fa)=true):FunD K n q st fa (fnOf n q (L2.C6 st) (L2.C5 st) (L2.B9 st) (.ref T) kV doc pm an cdv ct) items:=
 a33 l (an2 (an2 b).2).1 (an2 (an2 b).2).2 t
theorem a73 (hb:(mtB K (cm c) n fa&&ckB K cdv q fa)=true):L2.aJ9 K (cm c) n fa:=⟨of_decide_eq_true (an2 (an2 hb).1).1,(an2 (an2 hb).1).2,(an2 (an2 hb).2).2⟩
theorem bm4 (hb:(mtB K (cm c) "__init__" fa&&ckB K cdv q fa)=true) (hm:mkB K (cm c)=true):L2.Mk K (cm c) fa:=⟨(an2 hm).1,of_decide_eq_true (an2 (an2 hb).1).1,(an2 (an2 hb).1).2,(an2 hm).2⟩
variable (E:En P w K mg base cm)
include E
theorem mkD (O:L2.FnOk P w K mg base L2.CX0 k fa fd ps (SpF K cm f ar)) (hb:(nsB K n fa&&ckB K cdv q fa)=true) (b:L2.Binds K fd ps []) (hl:∀vs A v A',f vs A=.ok v A'->vs.length=ar:=by exact λ_ _ _ _=>aB6):Def P w K mg base cm n k ps f ar:=⟨⟨_,_,O,E.ns (an2 hb).1,(an2 (an2 hb).2).2,b⟩,hl⟩
theorem mkM (O:L2.FnOk P w K mg base L2.CX0 k fa fd ps (SpF K cm f ar)) (hb:(mtB K (cm c) n fa&&ckB K cdv q fa)=true) (b:L2.Binds K fd ps []) (hl:∀vs A v A',f vs A=.ok v A'->vs.length=ar:=by exact λ_ _ _ _=>aB6):Y6 P w K mg base cm c n k ps f ar:=⟨⟨_,_,O,a73 hb,b⟩,hl⟩
theorem mkC (O:L2.FnOk P w K mg base L2.CX0 k fa fd ps (SpF K cm f ar)) (hb:(mtB K (cm c) "__init__" fa&&ckB K cdv q fa)=true) (hm:mkB K (cm c)=true) (hn:nsB K n (cm c)=true) (b:L2.Binds K fd ps []) (hv:∀vs A v A',f vs A=.ok v A'->v=.non) (hl:∀vs A v A',f vs A=.ok v A'->vs.length=ar:=by exact λ_ _ _ _=>aB6):aT1 P w K mg base cm c n k ps f ar:=⟨⟨_,_,O,bm4 hb hm,E.ns hn,b⟩,λvs A v A' h=>⟨hl vs A v A' h,hv vs A v A' h⟩⟩
theorem base_of (h1:((List.range 7).all λc=>clB K (cm c))=true) (h2:blts.all (noB K)=true):L9 K mg cm:=by
 have hc:∀c,c<7->clB K (cm c)=true:=λc hc=>List.all_eq_true.mp h1 c (List.mem_range.mpr hc)
 have hn:∀b∈blts,mg b=none:=λb hb=>E.no (List.all_eq_true.mp h2 b hb)
 refine⟨a27 K,λc h7=>?_,λc i hi h7=>?_,hn _ (by decide),hn _ (by decide),hn _ (by decide),hn _ (by decide),hn _ (by decide),hn _ (by decide),hn _ (by decide),hn _ (by decide),hn _ (by decide),hn _ (by decide),hn _ (by decide),hn _ (by decide),hn _ (by decide),hn _ (by decide),hn _ (by decide),hn _ (by decide),hn _ (by decide)⟩
 ·have:=hc c h7
  unfold clB at this
  simp only [Bool.and_eq_true] at this
  exact⟨this.1.1.1.1,this.1.1.1.2,this.1.1.2,of_decide_eq_true this.1.2⟩
 ·have:=hc c h7
  unfold clB at this
  simp only [Bool.and_eq_true] at this
  have h:=List.all_eq_true.mp this.2 i (List.mem_range.mpr hi)
  show findIn K (.ref (cm c)) (fnm i)=some none
  exact of_decide_eq_true h
omit E
end
end Ws
namespace Ws
open PySem
theorem aa3 {vs:List PV} {A A':PHp} {v:PV} (h:L3 vs A=.ok v A'):v=.non:=aC1 (K4 N1 (K4 N1 (K4 N1 (K4 N1 (K4 N1 (K4 N1 N1)))))) h
theorem ak6 {vs:List PV} {A A':PHp} {v:PV} (h:N7 vs A=.ok v A'):v=.non:=aC1 (K4 (ar6 d9 o3) (K4 aG4 (K4 (a51 (K4 (ar6 d9 o3) aV5)) (K4 N1 (K4 N1 (K4 N1 (K4 N1 N1))))))) h
theorem at7 {vs:List PV} {A A':PHp} {v:PV} (h:N8 vs A=.ok v A'):v=.non:=aC1 (K4 (ar6 d9 o3) (K4 aG4 (K4 (ar6 d9 o3) (K4 N1 N1)))) h
end Ws
local macro_rules | `(tactic| walk_at "b1")=>`(tactic| exact λ_ _ _ _ _ _ us hl=>match us,hl with | [_],_=>rfl)
local macro_rules | `(tactic| walk_at "b2")=>`(tactic| exact λ_ _ _ _ _ _ us hl=>match us,hl with | [_,_],_=>rfl)
local macro_rules | `(tactic| walk_at "b3")=>`(tactic| exact λ_ _ _ _ _ _ us hl=>match us,hl with | [_,_,_],_=>rfl)
local macro_rules | `(tactic| walk_at "b4")=>`(tactic| exact λ_ _ _ _ _ _ us hl=>match us,hl with | [_,_,_,_],_=>rfl)
lay_quick PySem.Challenge.pw_wordswap_k25_boxes_opened
namespace Ws
open PySem PySem.W
set_option Elab.async false
set_option maxHeartbeats 0
abbrev kps:List Nat:=[0,2,3,4,5,6,7,8,9,11,12,13,14,15,16,17,18,20,22,23,24,25,26,27,29,30,31,32,34,35,36,37,38,39,40]
abbrev lse:List Str:=[]
abbrev xt (p:Program) (s:Shared):Bool:=xlAt (view p kps) [] s&&recOk (RowW.records PySem.Challenge.rw_wordswap_k25_boxes_opened.row.toRowW) s
def D0 (p:Program) (i:Nat):Stmt:=p.main.body.getD i (.Pass ⟨0,0,0,0⟩)
def cmA (i:Nat):Addr:=([227,433,374,227,227,227,227]:List Nat).getD i 0
abbrev bs (K:Frag):List Bool:=[(List.range 7).all λc=>clB K (cmA c),blts.all (noB K),nsB K "Web" (cmA 0),nsB K "Ledger" (cmA 2),nsB K "Plan" (cmA 1),glB K "FEWEST_HANDS" (.int (2) 337),glB K "MOST_HANDS" (.int (6) 339),glB K "LAY" (.str "lay" 479),glB K "SAY" (.str "say" 481),noB K "str",nsB K "_law_cell_at" 444&&ckB K (.ref 443) "_law_cell_at" 444,nsB K "_law_mixed" 456&&ckB K (.ref 455) "_law_mixed" 456,mtB K (cmA 2) "__init__" 270&&ckB K (.ref 269) "Ledger.__init__" 270,nsB K "is_rising" 383&&ckB K (.ref 382) "is_rising" 383,nsB K "is_whole" 132&&ckB K (.ref 131) "is_whole" 132,nsB K "is_hand" 139&&ckB K (.ref 138) "is_hand" 139,nsB K "are_leaders" 388&&ckB K (.ref 387) "are_leaders" 388,nsB K "is_limit" 395&&ckB K (.ref 394) "is_limit" 395,mtB K (cmA 1) "__init__" 409&&ckB K (.ref 408) "Plan.__init__" 409,nsB K "is_number_of_hands" 146&&ckB K (.ref 145) "is_number_of_hands" 146,nsB K "is_passing" 153&&ckB K (.ref 152) "is_passing" 153,nsB K "first_wrong_passing" 160&&ckB K (.ref 159) "first_wrong_passing" 160,mtB K (cmA 0) "__init__" 174&&ckB K (.ref 173) "Web.__init__" 174,nsB K "is_box" 243&&ckB K (.ref 242) "is_box" 243,nsB K "is_chain" 236&&ckB K (.ref 235) "is_chain" 236,nsB K "is_chain_of" 248&&ckB K (.ref 247) "is_chain_of" 248,nsB K "is_deed" 255&&ckB K (.ref 254) "is_deed" 255,mtB K (cmA 2) "take_lay" 298&&ckB K (.ref 297) "Ledger.take_lay" 298,mtB K (cmA 2) "is_laid_ahead" 319&&ckB K (.ref 318) "Ledger.is_laid_ahead" 319,mtB K (cmA 1) "limit" 416&&ckB K (.ref 415) "Plan.limit" 416,mtB K (cmA 2) "is_late" 326&&ckB K (.ref 325) "Ledger.is_late" 326,mtB K (cmA 2) "is_said_ahead" 340&&ckB K (.ref 339) "Ledger.is_said_ahead" 340,mtB K (cmA 2) "is_sayable" 333&&ckB K (.ref 332) "Ledger.is_sayable" 333,mtB K (cmA 2) "take_say" 305&&ckB K (.ref 304) "Ledger.take_say" 305,mtB K (cmA 2) "take" 291&&ckB K (.ref 290) "Ledger.take" 291,mtB K (cmA 2) "move" 284&&ckB K (.ref 283) "Ledger.move" 284,nsB K "_law_ways" 461&&ckB K (.ref 460) "_law_ways" 461,nsB K "_law_chains" 466&&ckB K (.ref 465) "_law_chains" 466,nsB K "_law_taken" 473&&ckB K (.ref 472) "_law_taken" 473,mtB K (cmA 2) "said" 364&&ckB K (.ref 363) "Ledger.said" 364,mtB K (cmA 2) "has_all_words" 345&&ckB K (.ref 344) "Ledger.has_all_words" 345,mtB K (cmA 2) "laid" 352&&ckB K (.ref 351) "Ledger.laid" 352,mtB K (cmA 2) "opened" 357&&ckB K (.ref 356) "Ledger.opened" 357,nsB K "_law_alike" 449&&ckB K (.ref 448) "_law_alike" 449,nsB K "law" 478&&ckB K (.ref 477) "law" 478,mkB K (cmA 0),mkB K (cmA 2),mkB K (cmA 1)]
abbrev os (K:Frag):List (Option Obj):=[K.lookup 444,K.lookup 456,K.lookup 270,K.lookup 263,K.lookup 383,K.lookup 132,K.lookup 139,K.lookup 388,K.lookup 395,K.lookup 409,K.lookup 146,K.lookup 153,K.lookup 160,K.lookup 174,K.lookup 243,K.lookup 236,K.lookup 248,K.lookup 255,K.lookup 298,K.lookup 319,K.lookup 416,K.lookup 326,K.lookup 340,K.lookup 333,K.lookup 305,K.lookup 291,K.lookup 284,K.lookup 461,K.lookup 466,K.lookup 473,K.lookup 364,K.lookup 345,K.lookup 352,K.lookup 357,K.lookup 449,K.lookup 478]
abbrev ov (p:Program):List (Option Obj):=[some ⟨(.type "function"),none,.func (fnOf "_law_cell_at" "_law_cell_at" (L2.C6 (D0 p 34)) (L2.C5 (D0 p 34)) (L2.B9 (D0 p 34)) .none .none .none (.str "law_wordswap_k25_boxes_opened" 739) none (.ref 443) .none),#[]⟩,some ⟨(.type "function"),none,.func (fnOf "_law_mixed" "_law_mixed" (L2.C6 (D0 p 36)) (L2.C5 (D0 p 36)) (L2.B9 (D0 p 36)) .none .none .none (.str "law_wordswap_k25_boxes_opened" 739) none (.ref 455) .none),#[]⟩,some ⟨(.type "function"),none,.func (fnOf "__init__" "Ledger.__init__" (L2.C6 (L2.C0 (D0 p 27) 0)) (L2.C5 (L2.C0 (D0 p 27) 0)) (L2.B9 (L2.C0 (D0 p 27) 0)) (.ref 263) .none .none (.str "wordswap.ledgers" 477) none (.ref 269) .none),#[]⟩,some ⟨(.type "tuple"),none,.seq #[.none] 0,#[]⟩,some ⟨(.type "function"),none,.func (fnOf "is_rising" "is_rising" (L2.C6 (D0 p 29)) (L2.C5 (D0 p 29)) (L2.B9 (D0 p 29)) .none .none .none (.str "wordswap.plans" 658) none (.ref 382) .none),#[]⟩,some ⟨(.type "function"),none,.func (fnOf "is_whole" "is_whole" (L2.C6 (D0 p 13)) (L2.C5 (D0 p 13)) (L2.B9 (D0 p 13)) .none .none .none (.str "wordswap.webs" 335) none (.ref 131) .none),#[]⟩,some ⟨(.type "function"),none,.func (fnOf "is_hand" "is_hand" (L2.C6 (D0 p 14)) (L2.C5 (D0 p 14)) (L2.B9 (D0 p 14)) .none .none .none (.str "wordswap.webs" 335) none (.ref 138) .none),#[]⟩,some ⟨(.type "function"),none,.func (fnOf "are_leaders" "are_leaders" (L2.C6 (D0 p 30)) (L2.C5 (D0 p 30)) (L2.B9 (D0 p 30)) .none .none .none (.str "wordswap.plans" 658) none (.ref 387) .none),#[]⟩,some ⟨(.type "function"),none,.func (fnOf "is_limit" "is_limit" (L2.C6 (D0 p 31)) (L2.C5 (D0 p 31)) (L2.B9 (D0 p 31)) .none .none .none (.str "wordswap.plans" 658) none (.ref 394) .none),#[]⟩,some ⟨(.type "function"),none,.func (fnOf "__init__" "Plan.__init__" (L2.C6 (L2.C0 (D0 p 32) 0)) (L2.C5 (L2.C0 (D0 p 32) 0)) (L2.B9 (L2.C0 (D0 p 32) 0)) .none .none .none (.str "wordswap.plans" 658) none (.ref 408) .none),#[]⟩,some ⟨(.type "function"),none,.func (fnOf "is_number_of_hands" "is_number_of_hands" (L2.C6 (D0 p 15)) (L2.C5 (D0 p 15)) (L2.B9 (D0 p 15)) .none .none .none (.str "wordswap.webs" 335) none (.ref 145) .none),#[]⟩,some ⟨(.type "function"),none,.func (fnOf "is_passing" "is_passing" (L2.C6 (D0 p 16)) (L2.C5 (D0 p 16)) (L2.B9 (D0 p 16)) .none .none .none (.str "wordswap.webs" 335) none (.ref 152) .none),#[]⟩,some ⟨(.type "function"),none,.func (fnOf "first_wrong_passing" "first_wrong_passing" (L2.C6 (D0 p 17)) (L2.C5 (D0 p 17)) (L2.B9 (D0 p 17)) .none .none .none (.str "wordswap.webs" 335) none (.ref 159) .none),#[]⟩,some ⟨(.type "function"),none,.func (fnOf "__init__" "Web.__init__" (L2.C6 (L2.C0 (D0 p 18) 0)) (L2.C5 (L2.C0 (D0 p 18) 0)) (L2.B9 (L2.C0 (D0 p 18) 0)) .none .none .none (.str "wordswap.webs" 335) none (.ref 173) .none),#[]⟩,some ⟨(.type "function"),none,.func (fnOf "is_box" "is_box" (L2.C6 (D0 p 24)) (L2.C5 (D0 p 24)) (L2.B9 (D0 p 24)) .none .none .none (.str "wordswap.ledgers" 477) none (.ref 242) .none),#[]⟩,some ⟨(.type "function"),none,.func (fnOf "is_chain" "is_chain" (L2.C6 (D0 p 20)) (L2.C5 (D0 p 20)) (L2.B9 (D0 p 20)) .none .none .none (.str "wordswap.chains" 469) none (.ref 235) .none),#[]⟩,some ⟨(.type "function"),none,.func (fnOf "is_chain_of" "is_chain_of" (L2.C6 (D0 p 25)) (L2.C5 (D0 p 25)) (L2.B9 (D0 p 25)) .none .none .none (.str "wordswap.ledgers" 477) none (.ref 247) .none),#[]⟩,some ⟨(.type "function"),none,.func (fnOf "is_deed" "is_deed" (L2.C6 (D0 p 26)) (L2.C5 (D0 p 26)) (L2.B9 (D0 p 26)) .none .none .none (.str "wordswap.ledgers" 477) none (.ref 254) .none),#[]⟩,some ⟨(.type "function"),none,.func (fnOf "take_lay" "Ledger.take_lay" (L2.C6 (L2.C0 (D0 p 27) 4)) (L2.C5 (L2.C0 (D0 p 27) 4)) (L2.B9 (L2.C0 (D0 p 27) 4)) .none .none .none (.str "wordswap.ledgers" 477) none (.ref 297) .none),#[]⟩,some ⟨(.type "function"),none,.func (fnOf "is_laid_ahead" "Ledger.is_laid_ahead" (L2.C6 (L2.C0 (D0 p 27) 7)) (L2.C5 (L2.C0 (D0 p 27) 7)) (L2.B9 (L2.C0 (D0 p 27) 7)) .none .none .none (.str "wordswap.ledgers" 477) none (.ref 318) .none),#[]⟩,some ⟨(.type "function"),none,.func (fnOf "limit" "Plan.limit" (L2.C6 (L2.C0 (D0 p 32) 1)) (L2.C5 (L2.C0 (D0 p 32) 1)) (L2.B9 (L2.C0 (D0 p 32) 1)) .none .none .none (.str "wordswap.plans" 658) none (.ref 415) .none),#[]⟩,some ⟨(.type "function"),none,.func (fnOf "is_late" "Ledger.is_late" (L2.C6 (L2.C0 (D0 p 27) 8)) (L2.C5 (L2.C0 (D0 p 27) 8)) (L2.B9 (L2.C0 (D0 p 27) 8)) .none .none .none (.str "wordswap.ledgers" 477) none (.ref 325) .none),#[]⟩,some ⟨(.type "function"),none,.func (fnOf "is_said_ahead" "Ledger.is_said_ahead" (L2.C6 (L2.C0 (D0 p 27) 10)) (L2.C5 (L2.C0 (D0 p 27) 10)) (L2.B9 (L2.C0 (D0 p 27) 10)) .none .none .none (.str "wordswap.ledgers" 477) none (.ref 339) .none),#[]⟩,some ⟨(.type "function"),none,.func (fnOf "is_sayable" "Ledger.is_sayable" (L2.C6 (L2.C0 (D0 p 27) 9)) (L2.C5 (L2.C0 (D0 p 27) 9)) (L2.B9 (L2.C0 (D0 p 27) 9)) .none .none .none (.str "wordswap.ledgers" 477) none (.ref 332) .none),#[]⟩,some ⟨(.type "function"),none,.func (fnOf "take_say" "Ledger.take_say" (L2.C6 (L2.C0 (D0 p 27) 5)) (L2.C5 (L2.C0 (D0 p 27) 5)) (L2.B9 (L2.C0 (D0 p 27) 5)) .none .none .none (.str "wordswap.ledgers" 477) none (.ref 304) .none),#[]⟩,some ⟨(.type "function"),none,.func (fnOf "take" "Ledger.take" (L2.C6 (L2.C0 (D0 p 27) 3)) (L2.C5 (L2.C0 (D0 p 27) 3)) (L2.B9 (L2.C0 (D0 p 27) 3)) .none .none .none (.str "wordswap.ledgers" 477) none (.ref 290) .none),#[]⟩,some ⟨(.type "function"),none,.func (fnOf "move" "Ledger.move" (L2.C6 (L2.C0 (D0 p 27) 2)) (L2.C5 (L2.C0 (D0 p 27) 2)) (L2.B9 (L2.C0 (D0 p 27) 2)) .none .none .none (.str "wordswap.ledgers" 477) none (.ref 283) .none),#[]⟩,some ⟨(.type "function"),none,.func (fnOf "_law_ways" "_law_ways" (L2.C6 (D0 p 37)) (L2.C5 (D0 p 37)) (L2.B9 (D0 p 37)) .none .none .none (.str "law_wordswap_k25_boxes_opened" 739) none (.ref 460) .none),#[]⟩,some ⟨(.type "function"),none,.func (fnOf "_law_chains" "_law_chains" (L2.C6 (D0 p 38)) (L2.C5 (D0 p 38)) (L2.B9 (D0 p 38)) .none .none .none (.str "law_wordswap_k25_boxes_opened" 739) none (.ref 465) .none),#[]⟩,some ⟨(.type "function"),none,.func (fnOf "_law_taken" "_law_taken" (L2.C6 (D0 p 39)) (L2.C5 (D0 p 39)) (L2.B9 (D0 p 39)) .none .none .none (.str "law_wordswap_k25_boxes_opened" 739) none (.ref 472) .none),#[]⟩,some ⟨(.type "function"),none,.func (fnOf "said" "Ledger.said" (L2.C6 (L2.C0 (D0 p 27) 14)) (L2.C5 (L2.C0 (D0 p 27) 14)) (L2.B9 (L2.C0 (D0 p 27) 14)) .none .none .none (.str "wordswap.ledgers" 477) none (.ref 363) .none),#[]⟩,some ⟨(.type "function"),none,.func (fnOf "has_all_words" "Ledger.has_all_words" (L2.C6 (L2.C0 (D0 p 27) 11)) (L2.C5 (L2.C0 (D0 p 27) 11)) (L2.B9 (L2.C0 (D0 p 27) 11)) .none .none .none (.str "wordswap.ledgers" 477) none (.ref 344) .none),#[]⟩,some ⟨(.type "function"),none,.func (fnOf "laid" "Ledger.laid" (L2.C6 (L2.C0 (D0 p 27) 12)) (L2.C5 (L2.C0 (D0 p 27) 12)) (L2.B9 (L2.C0 (D0 p 27) 12)) .none .none .none (.str "wordswap.ledgers" 477) none (.ref 351) .none),#[]⟩,some ⟨(.type "function"),none,.func (fnOf "opened" "Ledger.opened" (L2.C6 (L2.C0 (D0 p 27) 13)) (L2.C5 (L2.C0 (D0 p 27) 13)) (L2.B9 (L2.C0 (D0 p 27) 13)) .none .none .none (.str "wordswap.ledgers" 477) none (.ref 356) .none),#[]⟩,some ⟨(.type "function"),none,.func (fnOf "_law_alike" "_law_alike" (L2.C6 (D0 p 35)) (L2.C5 (D0 p 35)) (L2.B9 (D0 p 35)) .none .none .none (.str "law_wordswap_k25_boxes_opened" 739) none (.ref 448) .none),#[]⟩,some ⟨(.type "function"),none,.func (fnOf "law" "law" (L2.C6 (D0 p 40)) (L2.C5 (D0 p 40)) (L2.B9 (D0 p 40)) .none .none .none (.str "law_wordswap_k25_boxes_opened" 739) none (.ref 477) .none),#[]⟩]
theorem hop:∀w:World,(fencedOpening treeTable PySem.Challenge.pw_wordswap_k25_boxes_opened w 7822).map (λs=>(s.heap,s.gens,s.drawn,s.toks))=some (boot_heap w.params,#[],boot_drawn,boot_toks):=boot_open (by kernel_rfl) (by kernel_rfl) (λs=>by kernel_rfl)
theorem hck:∀(w:World) (o:OsState),(a28 (PySem.W.Fast.tw6613529449190102663 11 (some (.ref 6))) (PySem.W.Fast.tw10156331382660048174 (PySem.W.Fast.tw11892475500146522536 PySem.W.Fast.tw14364793385576792824) PySem.W.Fast.tw6960177723723214813 w) 7822 (aT9 w o) (topStub PySem.W.Fast.tw6960177723723214813)).map (λS=>(lk PySem.W.Fast.tw4187177175401517315 PySem.W.Fast.tw6960177723723214813 (view PySem.W.Fast.tw6960177723723214813 kps) lse (xt PySem.W.Fast.tw6960177723723214813) w S.abs,(bs (av9 S)).all id,os (av9 S)))=some ((true,openGood (view PySem.W.Fast.tw6960177723723214813 kps) lse),true,ov PySem.W.Fast.tw6960177723723214813):=λw o=>by kernel_rfl
theorem hdl:LeftO PySem.Challenge.pw_wordswap_k25_boxes_opened (view PySem.Challenge.pw_wordswap_k25_boxes_opened kps) lse (xt PySem.Challenge.pw_wordswap_k25_boxes_opened) (λs=>av8 s.heap) (Kw PySem.Challenge.pw_wordswap_k25_boxes_opened 7822) 7822/\∀w,((bs (Kw PySem.Challenge.pw_wordswap_k25_boxes_opened 7822 w)).all id,os (Kw PySem.Challenge.pw_wordswap_k25_boxes_opened 7822 w))=(true,ov PySem.Challenge.pw_wordswap_k25_boxes_opened):=a32 (q:=λp=>view p kps) (Xt:=xt) (ob:=λK=>((bs K).all id,os K)) (va:=λp=>(true,ov p)) PySem.W.Fast.te6960177723723214813 PySem.W.Fast.te6613529449190102663 PySem.W.Fast.te10156331382660048174 PySem.W.Fast.te11892475500146522536 PySem.W.Fast.te14364793385576792824 PySem.W.Fast.te4187177175401517315 hop hck
theorem bp3 {w:World} {h:Heap} {mg:Str->Option Value} {fa:Addr} {K:Frag} (e:(bs K).all id=true/\os K=ov PySem.Challenge.pw_wordswap_k25_boxes_opened) (X:K.In h) (G:h.Ns mainGlobals mg) (hfa:mg "law" = some (.ref fa)):∃fd:FuncData,(∀(s:Shared) (v:Value),BindsTo s fd ⟨[v],[]⟩ [("_law_script",v)])/\∀base:Heap,K.In base->base.Ns mainGlobals mg->L2.FnOk PySem.Challenge.rw_wordswap_k25_boxes_opened.prog w K mg base L2.CX0 8 fa fd ["_law_script"] (aT7 K):=by
 have b:=λi {x}=>bp1 e.1 i (b:=x)
 have z:=hfa.symm.trans (PySem.W.mg_of X G (of_decide_eq_true (an2 (b 44 rfl)).1))
 cases z
 refine⟨fnOf "law" "law" (L2.C6 (top 40)) (L2.C5 (top 40)) (L2.B9 (top 40)) .none .none .none (.str "law_wordswap_k25_boxes_opened" 739) none (.ref 477) .none,λs v=>.of_eq rfl,λbase _ _=>?_⟩
 have E:En PySem.Challenge.rw_wordswap_k25_boxes_opened.prog w K mg base cmA:=⟨⟨h,X,G⟩⟩
 have B:=base_of E (b 0 rfl) (b 1 rfl)
 have GL:a72 mg:=⟨⟨_,E.of (b 5 rfl)⟩,⟨_,E.of (b 6 rfl)⟩,⟨_,E.of (b 7 rfl)⟩,⟨_,E.of (b 8 rfl)⟩⟩
 have BS:=E.no (b 9 rfl)
 have F0:=mkF (st:=(top 34)) (lat e.2 0 rfl rfl) (b 10 rfl)
 have F1:=mkF (st:=(top 36)) (lat e.2 1 rfl rfl) (b 11 rfl)
 have F2:=bp2 (st:=(L2.C0 (top 27) 0)) (lat e.2 2 rfl rfl) (lat e.2 3 rfl rfl) (b 12 rfl)
 have F3:=mkF (st:=(top 29)) (lat e.2 4 rfl rfl) (b 13 rfl)
 have F4:=mkF (st:=(top 13)) (lat e.2 5 rfl rfl) (b 14 rfl)
 have F5:=mkF (st:=(top 14)) (lat e.2 6 rfl rfl) (b 15 rfl)
 have F6:=mkF (st:=(top 30)) (lat e.2 7 rfl rfl) (b 16 rfl)
 have F7:=mkF (st:=(top 31)) (lat e.2 8 rfl rfl) (b 17 rfl)
 have F8:=mkF (st:=(L2.C0 (top 32) 0)) (lat e.2 9 rfl rfl) (b 18 rfl)
 have F9:=mkF (st:=(top 15)) (lat e.2 10 rfl rfl) (b 19 rfl)
 have F10:=mkF (st:=(top 16)) (lat e.2 11 rfl rfl) (b 20 rfl)
 have F11:=mkF (st:=(top 17)) (lat e.2 12 rfl rfl) (b 21 rfl)
 have F12:=mkF (st:=(L2.C0 (top 18) 0)) (lat e.2 13 rfl rfl) (b 22 rfl)
 have F13:=mkF (st:=(top 24)) (lat e.2 14 rfl rfl) (b 23 rfl)
 have F14:=mkF (st:=(top 20)) (lat e.2 15 rfl rfl) (b 24 rfl)
 have F15:=mkF (st:=(top 25)) (lat e.2 16 rfl rfl) (b 25 rfl)
 have F16:=mkF (st:=(top 26)) (lat e.2 17 rfl rfl) (b 26 rfl)
 have F17:=mkF (st:=(L2.C0 (top 27) 4)) (lat e.2 18 rfl rfl) (b 27 rfl)
 have F18:=mkF (st:=(L2.C0 (top 27) 7)) (lat e.2 19 rfl rfl) (b 28 rfl)
 have F19:=mkF (st:=(L2.C0 (top 32) 1)) (lat e.2 20 rfl rfl) (b 29 rfl)
 have F20:=mkF (st:=(L2.C0 (top 27) 8)) (lat e.2 21 rfl rfl) (b 30 rfl)
 have F21:=mkF (st:=(L2.C0 (top 27) 10)) (lat e.2 22 rfl rfl) (b 31 rfl)
 have F22:=mkF (st:=(L2.C0 (top 27) 9)) (lat e.2 23 rfl rfl) (b 32 rfl)
 have F23:=mkF (st:=(L2.C0 (top 27) 5)) (lat e.2 24 rfl rfl) (b 33 rfl)
 have F24:=mkF (st:=(L2.C0 (top 27) 3)) (lat e.2 25 rfl rfl) (b 34 rfl)
 have F25:=mkF (st:=(L2.C0 (top 27) 2)) (lat e.2 26 rfl rfl) (b 35 rfl)
 have F26:=mkF (st:=(top 37)) (lat e.2 27 rfl rfl) (b 36 rfl)
 have F27:=mkF (st:=(top 38)) (lat e.2 28 rfl rfl) (b 37 rfl)
 have F28:=mkF (st:=(top 39)) (lat e.2 29 rfl rfl) (b 38 rfl)
 have F29:=mkF (st:=(L2.C0 (top 27) 14)) (lat e.2 30 rfl rfl) (b 39 rfl)
 have F30:=mkF (st:=(L2.C0 (top 27) 11)) (lat e.2 31 rfl rfl) (b 40 rfl)
 have F31:=mkF (st:=(L2.C0 (top 27) 12)) (lat e.2 32 rfl rfl) (b 41 rfl)
 have F32:=mkF (st:=(L2.C0 (top 27) 13)) (lat e.2 33 rfl rfl) (b 42 rfl)
 have F33:=mkF (st:=(top 35)) (lat e.2 34 rfl rfl) (b 43 rfl)
 have F34:=mkF (st:=(top 40)) (lat e.2 35 rfl rfl) (b 44 rfl)
 have D_law_cell_at:=mkD E (f:=L4) (ok_law_cell_at B F0) (b 10 rfl) (F0.binds (by walk_at "b2"))
 have D_law_mixed:=mkD E (f:=J6) (ok_law_mixed B F1) (b 11 rfl) (F1.binds (by walk_at "b2"))
 have D_Ledger_init:=mkC E (f:=L3) (ok_Ledger_init B F2) (b 12 rfl) (b 46 rfl) (b 3 rfl) (F2.binds 3 rfl λ_ _ _ _ _ _ _ us hl=>match us,hl with | [_,_,_],_=>⟨_,rfl,rfl⟩) λ_ _ _ _=>aa3
 have D_is_rising:=mkD E (f:=P0) (ok_is_rising B F3) (b 13 rfl) (F3.binds (by walk_at "b1"))
 have D_is_whole:=mkD E (f:=L0) (ok_is_whole B F4) (b 14 rfl) (F4.binds (by walk_at "b1"))
 have D_is_hand:=mkD E (f:=J7) (ok_is_hand B D_is_whole F5) (b 15 rfl) (F5.binds (by walk_at "b2"))
 have D_are_leaders:=mkD E (f:=M6) (ok_are_leaders B D_is_rising D_is_hand F6) (b 16 rfl) (F6.binds (by walk_at "b2"))
 have D_is_limit:=mkD E (f:=Q7) (ok_is_limit B D_is_whole F7) (b 17 rfl) (F7.binds (by walk_at "b1"))
 have D_Plan_init:=mkC E (f:=N7) (ok_Plan_init B D_are_leaders D_is_limit F8) (b 18 rfl) (b 47 rfl) (b 4 rfl) (F8.binds (by walk_at "b4")) λ_ _ _ _=>ak6
 have D_is_number_of_hands:=mkD E (f:=G2) (ok_is_number_of_hands B GL D_is_whole F9) (b 19 rfl) (F9.binds (by walk_at "b1"))
 have D_is_passing:=mkD E (f:=K8) (ok_is_passing B D_is_hand F10) (b 20 rfl) (F10.binds (by walk_at "b2"))
 have D_first_wrong_passing:=mkD E (f:=E9) (ok_first_wrong_passing B D_is_passing F11) (b 21 rfl) (F11.binds (by walk_at "b2"))
 have D_Web_init:=mkC E (f:=N8) (ok_Web_init B D_is_number_of_hands D_first_wrong_passing F12) (b 22 rfl) (b 45 rfl) (b 2 rfl) (F12.binds (by walk_at "b3")) λ_ _ _ _=>at7
 have D_is_box:=mkD E (f:=W6) (ok_is_box B D_is_passing F13) (b 23 rfl) (F13.binds (by walk_at "b2"))
 have D_is_chain:=mkD E (f:=Q8) (ok_is_chain B D_is_hand F14) (b 24 rfl) (F14.binds (by walk_at "b3"))
 have D_is_chain_of:=mkD E (f:=M7) (ok_is_chain_of B D_is_hand D_is_chain F15) (b 25 rfl) (F15.binds (by walk_at "b2"))
 have D_is_deed:=mkD E (f:=P1) (ok_is_deed B GL D_is_box D_is_chain_of F16) (b 26 rfl) (F16.binds (by walk_at "b2"))
 have D_Ledger_take_lay:=mkM E (f:=f_Ledger_take_lay) (ok_Ledger_take_lay B F17) (b 27 rfl) (F17.binds (by walk_at "b2"))
 have D_Ledger_is_laid_ahead:=mkM E (f:=E3) (ok_Ledger_is_laid_ahead B F18) (b 28 rfl) (F18.binds (by walk_at "b2"))
 have D_Plan_limit:=mkM E (f:=P7) (ok_Plan_limit B F19) (b 29 rfl) (F19.binds (by walk_at "b2"))
 have D_Ledger_is_late:=mkM E (f:=J8) (ok_Ledger_is_late B D_Plan_limit F20) (b 30 rfl) (F20.binds (by walk_at "b3"))
 have D_Ledger_is_said_ahead:=mkM E (f:=E4) (ok_Ledger_is_said_ahead B F21) (b 31 rfl) (F21.binds (by walk_at "b2"))
 have D_Ledger_is_sayable:=mkM E (f:=G8) (ok_Ledger_is_sayable B D_Ledger_is_said_ahead F22) (b 32 rfl) (F22.binds (by walk_at "b2"))
 have D_Ledger_take_say:=mkM E (f:=f_Ledger_take_say) (ok_Ledger_take_say B D_Ledger_is_laid_ahead D_Ledger_is_late D_Ledger_is_sayable F23) (b 33 rfl) (F23.binds (by walk_at "b2"))
 have D_Ledger_take:=mkM E (f:=G4) (ok_Ledger_take B GL D_is_deed D_Ledger_take_lay D_Ledger_take_say F24) (b 34 rfl) (F24.binds (by walk_at "b2"))
 have D_Ledger_move:=mkM E (f:=J4) (ok_Ledger_move B F25) (b 35 rfl) (F25.binds (by walk_at "b1"))
 have D_law_ways:=mkD E (f:=Q9) (ok_law_ways B F26) (b 36 rfl) (F26.binds (by walk_at "b2"))
 have D_law_chains:=mkD E (f:=N9) (ok_law_chains B D_law_ways F27) (b 37 rfl) (F27.binds (by walk_at "b3"))
 have D_law_taken:=mkD E (f:=P2) (ok_law_taken B D_Ledger_take F28) (b 38 rfl) (F28.binds (by walk_at "b2"))
 have D_Ledger_said:=mkM E (f:=M8) (ok_Ledger_said B F29) (b 39 rfl) (F29.binds (by walk_at "b2"))
 have D_Ledger_has_all_words:=mkM E (f:=E5) (ok_Ledger_has_all_words B D_Ledger_said F30) (b 40 rfl) (F30.binds (by walk_at "b2"))
 have D_Ledger_laid:=mkM E (f:=J5) (ok_Ledger_laid B F31) (b 41 rfl) (F31.binds (by walk_at "b1"))
 have D_Ledger_opened:=mkM E (f:=K7) (ok_Ledger_opened B D_Ledger_has_all_words D_Ledger_laid F32) (b 42 rfl) (F32.binds (by walk_at "b1"))
 have y:=(F33.binds (ps:=["_law_found","_law_due"]) (by walk_at "b2"))
 have D_law_alike_0:=mkD E (k:=1) (f:=V0) (ar:=2) aM3 (b 43 rfl) y λ_ _ _ _ h=>nomatch h
 have D_law_alike_1:=mkD E (f:=i4) (ok_law_alike B BS D_law_alike_0 F33) (b 43 rfl) y
 have D_law_alike_2:=mkD E (f:=i5) (ok_law_alike B BS D_law_alike_1 F33) (b 43 rfl) y
 have D_law_alike_3:=mkD E (f:=i6) (ok_law_alike B BS D_law_alike_2 F33) (b 43 rfl) y
 have D_law_alike_4:=mkD E (f:=i7) (ok_law_alike B BS D_law_alike_3 F33) (b 43 rfl) y
 have D_law_alike:=mkD E (f:=c6) (ok_law_alike B BS D_law_alike_4 F33) (b 43 rfl) y
 exact (ok_law (P:=PySem.Challenge.rw_wordswap_k25_boxes_opened.prog) (w:=w) (base:=base) B D_law_cell_at D_law_mixed D_Ledger_init D_Plan_init D_Web_init D_Ledger_take D_Ledger_move D_law_chains D_law_taken D_Ledger_opened D_law_alike D_Ledger_laid F34).imp λvs H Q E q=>be8 law_pure vs H Q E q
end Ws
open PySem PySem.W PyProof.Rows
set_option Elab.async false
set_option maxRecDepth 100000 in
set_option maxHeartbeats 0 in
theorem PySem.Challenge.cw_wordswap_k25_boxes_opened_holds : PySem.Challenge.rw_wordswap_k25_boxes_opened.Holds := by
 w_on;o_law
 refine Ws.aU2 (l:=PySem.Challenge.rw_wordswap_k25_boxes_opened) (d:=⟨"law",L2.C6 (Ws.top 40),L2.C5 (Ws.top 40),L2.B9 (Ws.top 40),Ws.bk9 (Ws.top 40)⟩) Ws.hdl.1 (by kernel_rfl) (by kernel_rfl) (by kernel_rfl) (by first | rfl | kernel_rfl) (by assumption) (by decide +kernel) ⟨rfl,rfl,rfl,rfl,rfl,by decide +kernel⟩ ?hw ?hc
 case hw=>w_witness2
 case hc=>exact Ws.aL2 (l:=PySem.Challenge.rw_wordswap_k25_boxes_opened) (k:=8) (x:="_law_script") rfl (by kernel_rfl) ⟨rfl,by decide,by decide⟩ (λw h Y=>Y) λw mg fa h KX G hmg=>Ws.bp3 (Prod.mk.inj (Ws.hdl.2 w)) KX G hmg
