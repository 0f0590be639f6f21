import PyProof.Rows.All
import Wide.All
import OpenK.AllK
import Wide.FinOn
import Lean
import PyProof.EqAt
import PyProof.EqKinds
import PyProof.TupleCall
import PySem.Challenge.RW_wordswap_k33_own_word
import PyProof.ExcBaseAll.ValueError
import PyProof.NsDelKeeps
import PyProof.ExcArgs
import KE.KIntText
import PyProof.StrLawsChain
import PyProof.StrWalks
import PyProof.Draws
import PyProof.EnumMake
import PyProof.Rows.CallKwBuiltin
import PyProof.AttrMissHeap
noncomputable section
set_option compiler.extract_closed false
set_option Elab.async false
set_option linter.all false
set_option maxRecDepth 100000
namespace L2
open PySem PySem.Spec PyProof.Rows
abbrev Key:=Sum Int Str
def ao3:Key->Value->Bool
 | .inl k,v=>Value.isInt k v
 | .inr x,v=>Value.isStrOf x v
def bp1(w:World):Key->Int
 | .inl k=>hashInt k
 | .inr x=>hashStr w x
theorem keyIs_shape:∀{k:Key} {v:Value},ao3 k v=true->(∃i t,k=Sum.inl i/\v=Value.int i t)\/(∃x t,k=Sum.inr x/\v=Value.str x t)
 | .inl i,v,h=>by
   obtain⟨t,e⟩:=Value.isInt_shape (k:=i) (v:=v) h
   exact .inl ⟨i,t,rfl,e⟩
 | .inr x,v,h=>by
   obtain⟨t,e⟩:=Value.isStrOf_shape (x:=x) (v:=v) h
   exact .inr ⟨x,t,rfl,e⟩
theorem aM2(i:Int)(t:Tok):ao3 (.inl i) (.int i t)=true:=by simp [ao3,Value.isInt]
theorem aM3(x:Str)(t:Tok):ao3 (.inr x) (.str x t)=true:=by simp [ao3,Value.isStrOf]
theorem bg2(a b:Int):decide ((Sum.inl a:Key)=Sum.inl b)=(a == b):=by
 by_cases e:a=b
 ·subst e;simp
 ·have h:¬(Sum.inl a:Key)=Sum.inl b:=λq=>e (Sum.inl.inj q)
  rw [decide_eq_false h]
  exact (beq_eq_false_iff_ne.mpr e).symm
theorem bg3(a b:Str):decide ((Sum.inr a:Key)=Sum.inr b)=decide (a=b):=by
 by_cases e:a=b
 ·subst e;simp
 ·have h:¬(Sum.inr a:Key)=Sum.inr b:=λq=>e (Sum.inr.inj q)
  rw [decide_eq_false h,decide_eq_false e]
theorem bg4(a:Int)(b:Str):decide ((Sum.inl a:Key)=Sum.inr b)=false:=decide_eq_false (λq=>nomatch q)
theorem bg5(a:Str)(b:Int):decide ((Sum.inr a:Key)=Sum.inl b)=false:=decide_eq_false (λq=>nomatch q)
def L7(prog:Program)(w:World):PySem.KeyKind prog w Key where
 is:=ao3
 hash:=bp1 w
 inj:=λv a b ha hb=>by
  rcases keyIs_shape ha with ⟨i,t,rfl,rfl⟩ | ⟨x,t,rfl,rfl⟩
  ·rcases keyIs_shape hb with ⟨j,u,rfl,e⟩ | ⟨y,u,rfl,e⟩
   ·injection e with e1 _;rw [e1]
   ·exact nomatch e
  ·rcases keyIs_shape hb with ⟨j,u,rfl,e⟩ | ⟨y,u,rfl,e⟩
   ·exact nomatch e
   ·injection e with e1 _;rw [e1]
 byValue:=λk v h=>by
  rcases keyIs_shape h with ⟨i,t,rfl,rfl⟩ | ⟨x,t,rfl,rfl⟩ <;> rfl
 pyHash:=λhv h=>by
  rcases keyIs_shape hv with ⟨i,t,rfl,rfl⟩ | ⟨x,t,rfl,rfl⟩
  ·exact wpAny_pyHash_int h
  ·exact wpAny_pyHash_str h
 eqBool:=λhu hv h=>by
  rcases keyIs_shape hu with ⟨i,t,rfl,rfl⟩ | ⟨x,t,rfl,rfl⟩
  ·rcases keyIs_shape hv with ⟨j,u,rfl,rfl⟩ | ⟨y,u,rfl,rfl⟩
   ·rw [bg2] at h;exact wpAny_eqBool_int h
   ·rw [bg4] at h;exact SeqAt.EqAt.int_str i t y u _ _ _ _ h
  ·rcases keyIs_shape hv with ⟨j,u,rfl,rfl⟩ | ⟨y,u,rfl,rfl⟩
   ·rw [bg5] at h;exact SeqAt.EqAt.str_int x t j u _ _ _ _ h
   ·rw [bg3] at h;exact wpAny_eqBool_str h
 «strs»:=λk x t v h=>by
  rcases keyIs_shape h with ⟨i,u,rfl,e⟩ | ⟨y,u,rfl,e⟩
  ·exact nomatch e
  ·injection e with e1 _
   subst e1
   cases v <;> rfl
theorem aw8(prog:Program)(w:World)(i:Int)(t:Tok):(L7 prog w).is (.inl i) (.int i t)=true:=aM2 i t
theorem aw9(prog:Program)(w:World)(x:Str)(t:Tok):(L7 prog w).is (.inr x) (.str x t)=true:=aM3 x t
inductive V where
 | non | bl (b:Bool) | int (i:Int) | str (x:Str) | byt (b:Array UInt8) | flt (b:UInt64) | ref (a:Addr) | ty (n:String)
 deriving DecidableEq
def RelV:V->Value->Prop
 | .non,u=>u=Value.none
 | .bl b,u=>u=Value.bool b
 | .int i,u=>∃t,u=Value.int i t
 | .str x,u=>∃t,u=Value.str x t
 | .byt b,u=>∃t,u=Value.bytes b t
 | .flt b,u=>∃t,u=Value.float b t
 | .ref a,u=>u=Value.ref a
 | .ty n,u=>u=Value.type n
abbrev Vals:List V->List Value->Prop:=Paired RelV
theorem Vals.length{xs:List V}{us:List Value}(r:Vals xs us):xs.length=us.length:=Paired.length r
theorem Vals.get:∀{xs:List V} {us:List Value} {i:Nat} {x:V},Vals xs us->xs[i]?=some x->∃u,us[i]?=some u/\RelV x u
 | _,_,_,_,.nil,e=>by simp at e
 | _,_,0,_,.cons r _,e=>by simp at e;subst e;exact⟨_,rfl,r⟩
 | _,_,i+1,x,.cons _ t,e=>by
   obtain⟨u,h1,h2⟩:=Vals.get (i:=i) (x:=x) t (by simpa using e)
   exact⟨u,by simpa using h1,h2⟩
theorem Vals.append:∀{xs ys:List V} {us ws:List Value},Vals xs us->Vals ys ws->Vals (xs++ys) (us++ws)
 | _,_,_,_,.nil,s=>s
 | _,_,_,_,.cons r t,s=>.cons r (Vals.append t s)
theorem Vals.take:∀{xs:List V} {us:List Value} (n:Nat),Vals xs us->Vals (xs.take n) (us.take n)
 | _,_,0,_=>.nil
 | _,_,_+1,.nil=>.nil
 | _,_,n+1,.cons r t=>.cons r (Vals.take n t)
theorem Vals.drop:∀{xs:List V} {us:List Value} (n:Nat),Vals xs us->Vals (xs.drop n) (us.drop n)
 | _,_,0,r=>r
 | _,_,_+1,.nil=>.nil
 | _,_,n+1,.cons _ t=>Vals.drop n t
def RelO:Option V->Option Value->Prop
 | some v,some u=>RelV v u
 | none,none=>True
 | _,_=>False
def KV{κ:Type}:List (κ×V)->List (κ×Value)->Prop:=Paired λ(p:κ×V) (q:κ×Value)=>p.1=q.1/\RelV p.2 q.2
def kV:Key->V
 | .inl i=>.int i
 | .inr x=>.str x
inductive HO where
 | lst (xs:List V)
 | tup (xs:List V)
 | dK (kvs:List (Key×V)) | dT (kvs:List (List Key×V))
 | set (S:Int->Bool) (n:Nat)
 | ins (C dx:Addr) (fs:List (Str×V))
 | own (x:Addr)
 | xd (fs:List (Str×V))
 | met (f x:Addr)
 | rng (lo hi:Int)
 | frz (o:Obj) (u:HO)
 | tbl (ps:Array Value)
 | ext (φ:Heap->Prop)
abbrev Hp:=Addr->Option HO
def upd(H:Hp)(a:Addr)(o:HO):Hp:=λb=>if b=a then some o else H b
theorem D8{H:Hp}{a:Addr}{o:HO}:upd H a o a=some o:=by unfold upd;rw [if_pos rfl]
theorem E4{H:Hp}{a b:Addr}{o:HO}(h:b≠a):upd H a o b=H b:=by unfold upd;rw [if_neg h]
theorem bd7{H:Hp}{a b:Addr}{o u:HO}(h:H a=some o)(h':H b=some u)(d:o≠u):a≠b:=by
 intro e;subst e;rw [h] at h';exact d (Option.some.inj h')
theorem K9{H:Hp}{a b:Addr}{o:HO}(h:H a=some o)(h':H b=none):a≠b:=by
 intro e;subst e;rw [h] at h';cases h'
section
variable(P:Program)(w:World)
def ObjOk(H:Hp)(h:Heap)(a:Addr):HO->Prop
 | .lst xs=>xs.length<=sizeLine/\∃(its:List Value) (n:Nat),Vals xs its/\h.get? a=some { cls:=.type "list",data:=.seq its.toArray n }
 | .tup xs=>xs.length<=sizeLine/\∃its:List Value,Vals xs its/\IsTup h a its.toArray
 | .dK kvs=>kvs.length<=sizeLine/\(a == sysModules)=false/\∃vs,KV kvs vs/\h.DictOf (L7 P w) a vs
 | .dT kvs=>kvs.length<=sizeLine/\(a == sysModules)=false/\∃xs:List (List Key×Addr×Value),
  Paired (λ(p:List Key×V) (q:List Key×Addr×Value)=>p.1=q.1/\H q.2.1=some (.tup (p.1.map kV))/\RelV p.2 q.2.2) kvs xs/\
  ∃o es ep,h.get? a=some o/\o.ExactDict/\o.data=.dict es ep/\es.toList=xs.map (entryOfKey (tupleKind (L7 P w)))/\(xs.map (·.1)).Nodup
 | .set S n=>h.SetOf (intKind P w) a S n
 | .ins C dx fs=>H dx=some (.own a)/\fs.length<=1000/\dx≠a/\h.get? a=some (PySem.W.instObj C dx)/\
  ∃mA,h.Ns1 dx mA/\(∀f,RelO (fs.lookup f) (mA f))/\PySem.Within mA (fs.map (·.1))
 | .own _=>∃o,h.get? a=some o
 | .xd fs=>∃mA,h.Ns1 a mA/\∀f,RelO (fs.lookup f) (mA f)
 | .rng lo hi=>∃t u v,h.get? a=some { cls:=.type "range",data:=.fields #[.int lo t,.int hi u,.int 1 v] }
 | .frz o u=>h.get? a=some o/\ObjOk H h a u
 | .tbl ps=>h.get? a=some { cls:=.none,data:=.fields ps }
 | .met f x=>h.get? a=some (PySem.W.methodObj (.ref f) (.ref x))
 | .ext φ=>φ h/\(∃o,h.get? a=some o)/\∀h1 h2:Heap,φ h1->(∀o,h1.get? a=some o->h2.get? a=some o)->φ h2
def HOk(H:Hp)(h:Heap):Prop:=∀a o,H a=some o->ObjOk P w H h a o
end
section
variable{P:Program}{w:World}{H H':Hp}{h h':Heap}{a:Addr}{o:HO}
theorem ObjOk.lt(x:ObjOk P w H h a o):a<h.objs.size:=by
 cases o with
 | lst xs=>obtain⟨_,_,_,_,e⟩:=x;exact Heap.lt_size e
 | tup xs=>obtain⟨_,_,_,p⟩:=x;exact p.lt
 | dK kvs=>obtain⟨_,_,_,_,o,_,_,e,_⟩:=x;exact Heap.lt_size e
 | dT kvs=>obtain⟨_,_,_,_,o,_,_,e,_⟩:=x;exact Heap.lt_size e
 | set S n=>obtain⟨o,_,_,_,e,_⟩:=x;exact Heap.lt_size e
 | ins C dx fs=>obtain⟨_,_,_,e,_⟩:=x;exact Heap.lt_size e
 | own y=>obtain⟨_,e⟩:=x;exact Heap.lt_size e
 | xd fs=>obtain⟨_,⟨_,_,_,e,_⟩,_⟩:=x;exact Heap.lt_size e
 | rng lo hi=>obtain⟨_,_,_,e⟩:=x;exact Heap.lt_size e
 | frz ob u=>obtain⟨e,_⟩:=x;exact Heap.lt_size e
 | tbl ps=>exact Heap.lt_size (show h.get? a=some _ from x)
 | met f y=>exact Heap.lt_size (show h.get? a=some _ from x)
 | ext φ=>obtain⟨_,⟨_,e⟩,_⟩:=x;exact Heap.lt_size e
theorem Paired.mapP{α β:Type}{F G:α->β->Prop}:∀{l₁:List α} {l₂:List β},Paired F l₁ l₂->(∀a b,F a b->G a b)->Paired G l₁ l₂
 | _,_,.nil,_=>.nil
 | _,_,.cons r t,f=>.cons (f _ _ r) (Paired.mapP t f)
theorem ObjOk.stay(x:ObjOk P w H h a o)(k:∀b u,(b=a\/H b=some (.own a))->h.get? b=some u->h'.get? b=some u)
 (ho:∀b,H b=some (.own a)->H' b=some (.own a)) (ht:∀b xs,H b=some (.tup xs)->H' b=some (.tup xs)):ObjOk P w H' h' a o:=by
 induction o with
 | lst xs=>obtain⟨z,its,n,r,e⟩:=x;exact⟨z,its,n,r,k _ _ (.inl rfl) e⟩
 | tup xs=>obtain⟨z,its,r,ob,e,c⟩:=x;exact⟨z,its,r,ob,k _ _ (.inl rfl) e,c⟩
 | dK kvs=>obtain⟨z,y,vs,r,ob,es,ep,e,c⟩:=x;exact⟨z,y,vs,r,ob,es,ep,k _ _ (.inl rfl) e,c⟩
 | dT kvs=>
   obtain⟨z,y,xs,r,ob,es,ep,e,c⟩:=x
   exact⟨z,y,xs,Paired.mapP r λp q z=>⟨z.1,ht _ _ z.2.1,z.2.2⟩,ob,es,ep,k _ _ (.inl rfl) e,c⟩
 | set S n=>obtain⟨ob,es,ep,t,e,c⟩:=x;exact⟨ob,es,ep,t,k _ _ (.inl rfl) e,c⟩
 | ins C dx fs=>
   obtain⟨d,z,ne,e,mA,⟨od,es,ep,e2,c⟩,r⟩:=x
   exact⟨ho _ d,z,ne,k _ _ (.inl rfl) e,mA,⟨od,es,ep,k _ _ (.inr d) e2,c⟩,r⟩
 | own y=>obtain⟨ob,e⟩:=x;exact⟨ob,k _ _ (.inl rfl) e⟩
 | xd fs=>obtain⟨mA,⟨od,es,ep,e,c⟩,r⟩:=x;exact⟨mA,⟨od,es,ep,k _ _ (.inl rfl) e,c⟩,r⟩
 | rng lo hi=>obtain⟨t,u,v,e⟩:=x;exact⟨t,u,v,k _ _ (.inl rfl) e⟩
 | frz ob u ih=>obtain⟨e,q⟩:=x;exact⟨k _ _ (.inl rfl) e,ih q⟩
 | tbl ps=>
   have e:h.get? a=some { cls:=.none,data:=.fields ps }:=x
   show h'.get? a=some { cls:=.none,data:=.fields ps }
   exact k a _ (.inl rfl) e
 | met f y=>
   have e:h.get? a=some (PySem.W.methodObj (.ref f) (.ref y)):=x
   show h'.get? a=some (PySem.W.methodObj (.ref f) (.ref y))
   exact k a _ (.inl rfl) e
 | ext φ=>obtain⟨p,⟨o,e⟩,st⟩:=x;exact⟨st _ _ p λo q=>k _ _ (.inl rfl) q,⟨o,k _ _ (.inl rfl) e⟩,st⟩
theorem HOk.lt(x:HOk P w H h)(e:H a=some o):a<h.objs.size:=(x a o e).lt
theorem HOk.fresh(x:HOk P w H h)(e:h.objs.size<=a):H a=none:=by
 cases q:H a with
 | none=>rfl
 | some u=>exact absurd (Nat.lt_of_lt_of_le (x.lt q) e) (Nat.lt_irrefl _)
theorem HOk.kept(x:HOk P w H h)(k:∀b u,h.get? b=some u->h'.get? b=some u):HOk P w H h':=λa o e=>
 (x a o e).stay (λb u _ q=>k b u q) (λ_ q=>q) λ_ _ q=>q
theorem HOk.laid(x:HOk P w H h)(k:∀b u,h.get? b=some u->h'.get? b=some u)(hp:h.objs.size<=a)(new:ObjOk P w (upd H a o) h' a o):HOk P w (upd H a o) h':=λb u e=>by
 have hn:=x.fresh hp
 by_cases hb:b=a
 ·subst hb;rw [D8] at e;cases e;exact new
 ·rw [E4 hb] at e
  exact (x b u e).stay (λc v _ q=>k c v q) (λc q=>by rw [E4 (K9 q hn)];exact q) λc xs q=>by rw [E4 (K9 q hn)];exact q
end
def Rd(H:Hp)(a:Addr)(u:HO):Prop:=H a=some u\/∃o,H a=some (.frz o u)
theorem Rd.ok{P:Program}{w:World}{H:Hp}{h:Heap}{a:Addr}{u:HO}(r:Rd H a u)(x:HOk P w H h):ObjOk P w H h a u:=by
 rcases r with r | ⟨o,r⟩
 ·exact x a u r
 ·obtain⟨_,q⟩:=x a _ r
  exact q
def Mut:Option HO->Prop
 | some (.lst _)=>True
 | some (.dK _)=>True
 | some (.dT _)=>True
 | some (.set _ _)=>True
 | some (.ins _ _ _)=>True
 | some (.ext _)=>True
 | _=>False
section
variable{P:Program}{w:World}{H:Hp}{h h':Heap}{x e:Addr}{o':HO}
theorem HOk.write(ok:HOk P w H h)(mu:Mut (H x))(he:e=x\/H e=some (.own x))(k:∀b u,b≠e->h.get? b=some u->h'.get? b=some u)(heo:∃u,h'.get? e=some u)
 (new:ObjOk P w (upd H x o') h' x o'):HOk P w (upd H x o') h':=λb u q=>by
 have nown:∀c y,H c=some (.own y)->c≠x:=λc y r z=>by subst z;rw [r] at mu;exact mu
 have ntup:∀c xs,H c=some (.tup xs)->c≠x:=λc xs r z=>by subst z;rw [r] at mu;exact mu
 by_cases hb:b=x
 ·subst hb;rw [D8] at q;cases q;exact new
 ·rw [E4 hb] at q
  by_cases hbe:b=e
  ·have q':H b=some (.own x):=by
    rcases he with z | z
    ·exact absurd (hbe.trans z) hb
    ·rw [hbe];exact z
   rw [q] at q';cases q'
   obtain⟨v,hv⟩:=heo
   exact⟨v,by rw [hbe];exact hv⟩
  ·refine (ok b u q).stay (λc v hc r=>k c v ?_ r) (λc r=>by rw [E4 (nown c b r)];exact r) λc xs r=>by rw [E4 (ntup c xs r)];exact r
   rcases hc with rfl | hc
   ·exact hbe
   ·rintro rfl
    rcases he with z | z
    ·exact nown c b hc z
    ·rw [hc] at z;cases z;exact hb rfl
end
structure Un(fs ex:List Addr)(H H':Hp)(h h':Heap):Prop where
 keep:∀b o,h.get? b=some o->H b=none->b∉fs->b∉ex->h'.get? b=some o
 slot:∀b o,h.get? b=some o->H b=none->b∈fs->b∉ex->∃sl,h'.get? b=some { o with slots:=sl }
 free:∀b o,h.get? b=some o->H b=none->b∉ex->H' b=none
 there:∀b o,h.get? b=some o->b∉ex->∃o',h'.get? b=some o'
 tups:∀b xs,H b=some (.tup xs)->H' b=some (.tup xs)
 frzs:∀b o u,H b=some (.frz o u)->H' b=some (.frz o u)
 tbls:∀b ps,H b=some (.tbl ps)->∃more,H' b=some (.tbl (ps++more))
section
variable{fs fs' ex ex':List Addr}{H H1 H2:Hp}{h h1 h2 h':Heap}{a x e:Addr}{o:HO}
theorem Un.any(u:Un fs ex H H1 h h1){b:Addr}{ob:Obj}(q:h.get? b=some ob)(n:H b=none)(hx:b∉ex):∃sl,h1.get? b=some { ob with slots:=sl }:=by
 by_cases hb:b∈fs
 ·exact u.slot b ob q n hb hx
 ·exact⟨ob.slots,u.keep b ob q n hb hx⟩
theorem Un.kept(k:∀b u,h.get? b=some u->h'.get? b=some u):Un fs ex H H h h':=
 ⟨λb ob q _ _ _=>k b ob q,λb ob q _ _ _=>⟨ob.slots,k b ob q⟩,λ_ _ _ n _=>n,λb ob q _=>⟨ob,k b ob q⟩,λ_ _ q=>q,λ_ _ _ q=>q,λ_ ps q=>⟨#[],by rw [q];simp⟩⟩
theorem Un.refl:Un fs ex H H h h:=Un.kept λ_ _ q=>q
theorem Un.laid(k:∀b u,h.get? b=some u->h'.get? b=some u)(hp:h.objs.size<=a)(hn:H a=none):Un fs ex H (upd H a o) h h' where
 keep:=λb u q _ _ _=>k b u q
 slot:=λb u q _ _ _=>⟨u.slots,k b u q⟩
 free:=λb u q n _=>by rw [E4 (Nat.ne_of_lt (Nat.lt_of_lt_of_le (Heap.lt_size q) hp))];exact n
 there:=λb u q _=>⟨u,k b u q⟩
 tups:=λb xs q=>by rw [E4 (K9 q hn)];exact q
 frzs:=λb u xs q=>by rw [E4 (K9 q hn)];exact q
 tbls:=λb ps q=>⟨#[],by rw [E4 (K9 q hn),q];simp⟩
theorem Un.write(mu:Mut (H x))(he:e=x\/H e=some (.own x))(k:∀b u,b≠e->h.get? b=some u->h'.get? b=some u)(heo:∃u,h'.get? e=some u):Un fs ex H (upd H x o) h h':=by
 have hx:∀b,H b=none->b≠x:=λb n z=>by subst z;rw [n] at mu;exact mu
 have hb:∀b,H b=none->b≠e:=λb n z=>by
  subst z
  rcases he with r | r
  ·exact hx b n r
  ·rw [n] at r;cases r
 have hm:∀b u,H b=some u->¬Mut (some u)->b≠x:=λb u q nm z=>by subst z;rw [q] at mu;exact nm mu
 refine⟨λb u q n _ _=>k b u (hb b n) q,λb u q n _ _=>⟨u.slots,k b u (hb b n) q⟩,λb u q n _=>by rw [E4 (hx b n)];exact n,λb u q _=>?_,
  λb xs q=>by rw [E4 (hm b _ q λz=>z)];exact q,λb u xs q=>by rw [E4 (hm b _ q λz=>z)];exact q,λb ps q=>⟨#[],by rw [E4 (hm b _ q λz=>z),q];simp⟩⟩
 by_cases hbe:b=e
 ·subst hbe;exact heo
 ·exact⟨u,k b u hbe q⟩
end
def trk(h:Heap)(H:Hp):List Addr:=(List.range h.objs.size).filter λa=>(H a).isSome
def as0(h:Heap)(H:Hp):Heap:=PySem.W.hideAll h (trk h H)
theorem aM4(h:Heap)(H:Hp):(as0 h H).objs.size=h.objs.size:=PySem.W.hideAll_size _ _
theorem aS7{h:Heap}{H:Hp}{b:Addr}{o:Obj}(e:h.get? b=some o)(n:H b=none):(as0 h H).get? b=some o:=
 PySem.W.hideAll_get _ e λhm=>by
  have q:(H b).isSome=true:=(List.mem_filter.mp hm).2
  rw [n] at q;simp at q
theorem a47{h:Heap}{H:Hp}{b:Addr}{o:Obj}(e:(as0 h H).get? b=some o):h.get? b=some o/\H b=none:=by
 have e':h.get? b=some o:=PySem.W.of_hideAll (trk h H) e
 refine⟨e',?_⟩
 cases q:H b with
 | none=>rfl
 | some x=>
   have hm:b∈trk h H:=List.mem_filter.mpr ⟨List.mem_range.mpr (Heap.lt_size e'),by simp [q]⟩
   have z:(as0 h H).get? b=none:=PySem.W.hideAll_none (trk h H) hm
   rw [z] at e;cases e
structure Mod(K:PySem.W.Frag)(mg:Str->Option Value)(base:Heap):Prop where
 kin:K.In base
 glob:base.Ns mainGlobals mg
 blt:∃mb,base.Ns builtinsNs mb/\∀x:Str,x≠"__name__"->mb x=bootBuiltins x
 nolimit:base.NoLimit
structure Cx where
 prog:Program
 w:World
 K:PySem.W.Frag
 mg:Str->Option Value
 base:Heap
 A:Around
 N:List Str
 s₀:Shared
 H₀:Hp
 env:Env
 outer:List Env
 stack:List Env
 ex:List Addr
 fn:Str->Bool
 calm:Bool
 pn:List (Addr×Obj)
 xe:Value->Shared->Prop
def frs(l:List Env):List Addr:=l.filterMap (·.frame)
abbrev Cx.fs(X:Cx):List Addr:=frs X.outer
def Vis(sc:Scope)(x:Str):Prop:=sc.names.lookup x=some .local\/sc.names.lookup x=some .cell\/sc.names.lookup x=some .free
def Loc(sc:Scope)(x:Str):Prop:=sc.names.lookup x=some .local\/sc.names.lookup x=some .cell
def bu9(env:Env)(h:Heap)(m:Str->Option Value)(x:Str)(u:Value):Prop:=
 (env.kindOf x=some .local/\m x=some u)\/((env.kindOf x=some .cell\/env.kindOf x=some .free)/\∃c,env.cells.lookup x=some c/\h.IsCell c (some u))
structure Cx.Ok(X:Cx):Prop where
 mod:Mod X.K X.mg X.base
 kind:X.env.scope.kind=.function
 glob:X.env.globals=mainGlobals
 blt:X.env.builtins=builtinsNs
 above:X.s₀.heap.objs.size<=X.env.locals
 inj:∀x y c,X.env.cells.lookup x=some c->X.env.cells.lookup y=some c->x=y
 has:∀x,(X.env.kindOf x=some .cell\/X.env.kindOf x=some .free)->∃c,X.env.cells.lookup x=some c
 cab:∀x c,X.fn x=true->X.env.cells.lookup x=some c->X.s₀.heap.objs.size<=c
 hd:X.calm=true->X.A.handled=none
 frames:X.A.frames=some X.stack
 stk:X.stack=X.outer\/(X.stack=X.env::X.outer/\X.env.frame=some X.env.locals)
 exf:∀b∈X.ex,b≠X.env.locals/\∀x c,X.env.cells.lookup x=some c->c≠b
 bs:∀b o,X.base.get? b=some o->X.s₀.heap.get? b=some o/\X.H₀ b=none
 bsz:X.base.objs.size<=X.s₀.heap.objs.size
 noex:∀b o,X.base.get? b=some o->b∉X.ex
 exfs:∀b∈X.ex,b∉X.fs
 funs:X.s₀.heap.FunFrames X.base X.outer
 frf:∀b∈X.fs,X.H₀ b=none
structure Inv(X:Cx)(pins:List (Addr×Obj))(σ:List (Option V))(H:Hp)(s:Shared):Prop where
 ok:X.Ok
 os:s.os=X.s₀.os
 bare:AllBare s.gens
 base:Un X.fs X.ex X.H₀ H X.s₀.heap s.heap
 loc:∃m,s.heap.Ns X.env.locals m/\∀(i:Nat) (x:Str) (v:V),X.N[i]?=some x->σ[i]?=some (some v)->Vis X.env.scope x->∃u,RelV v u/\bu9 X.env s.heap m x u
 cell:∀x c,X.env.cells.lookup x=some c->∃v,s.heap.IsCell c v
 free:H X.env.locals=none
 freeC:∀x c,X.env.cells.lookup x=some c->H c=none
 pin:∀p∈X.pn++pins,s.heap.get? p.1=some p.2/\H p.1=none/\p.1≠X.env.locals/\p.1∉X.fs/\∀v,p.2.data≠.cell v
 hok:HOk X.prog X.w H s.heap
 len:σ.length=X.N.length
section
variable{X:Cx}{pins:List (Addr×Obj)}{σ:List (Option V)}{H H':Hp}{s:Shared}{h':Heap}
theorem Cx.Ok.nofr(ok:X.Ok){b:Addr}{o:Obj}(e:X.base.get? b=some o):b∉X.fs:=λhb=>by
 have:=(ok.funs.mem hb).1
 rw [e] at this;cases this
theorem Inv.bs(I:Inv X pins σ H s):∀b o,X.base.get? b=some o->s.heap.get? b=some o/\H b=none:=λb o e=>
 ⟨I.base.keep b o (I.ok.bs b o e).1 (I.ok.bs b o e).2 (I.ok.nofr e) (I.ok.noex b o e),I.base.free b o (I.ok.bs b o e).1 (I.ok.bs b o e).2 (I.ok.noex b o e)⟩
theorem Inv.bk(I:Inv X pins σ H s):∀b o,X.base.get? b=some o->s.heap.get? b=some o:=λb o e=>(I.bs b o e).1
theorem Inv.mod(I:Inv X pins σ H s):Mod X.K X.mg X.base:=I.ok.mod
theorem Inv.kIn(I:Inv X pins σ H s):X.K.In s.heap:=I.ok.mod.kin.keeps I.bk
theorem Inv.lt(I:Inv X pins σ H s):X.env.locals<s.heap.objs.size:=let ⟨_,hn,_⟩:=I.loc;hn.lt
theorem Inv.sz(I:Inv X pins σ H s):X.s₀.heap.objs.size<=s.heap.objs.size:=Nat.le_trans I.ok.above (Nat.le_of_lt I.lt)
theorem Inv.nofs(I:Inv X pins σ H s){a:Addr}(h:s.heap.objs.size<=a):a∉X.fs:=λhb=>by
 obtain⟨_,o,ho,_⟩:=I.ok.funs.mem hb
 exact absurd (Nat.lt_of_lt_of_le (Heap.lt_size ho) (Nat.le_trans I.sz h)) (Nat.lt_irrefl _)
theorem Inv.cne(I:Inv X pins σ H s):∀x c,X.env.cells.lookup x=some c->c≠X.env.locals:=λx c e z=>by
 obtain⟨v,o,ho,hd⟩:=I.cell x c e
 obtain⟨m,⟨o',es,ep,ho',hd',_⟩,_⟩:=I.loc
 rw [z,ho'] at ho;cases ho;rw [hd'] at hd;cases hd
theorem Inv.funs(I:Inv X pins σ H s):s.heap.FunFrames X.base X.outer:=by
 have all:∀(l:List Env),(∀b∈frs l,b∈X.fs)->X.s₀.heap.FunFrames X.base l->s.heap.FunFrames X.base l:=by
  intro l
  induction l with
  | nil=>intro _ _;trivial
  | cons env r ih=>
    intro hs hl
    obtain⟨hk,⟨L,o,hf,hn,ho,hd⟩,hr⟩:=hl
    have hL:L∈X.fs:=hs L (by unfold frs;rw [List.filterMap_cons,hf];exact List.mem_cons_self)
    obtain⟨sl,e⟩:=I.base.slot L o ho (I.ok.frf L hL) hL λz=>I.ok.exfs L z hL
    exact⟨hk,⟨L,_,hf,hn,e,hd⟩,ih (λb hb=>hs b (by unfold frs;rw [List.filterMap_cons,hf];exact List.mem_cons_of_mem _ hb)) hr⟩
 exact all X.outer (λ_ hb=>hb) I.ok.funs
theorem Inv.stack(I:Inv X pins σ H s):s.heap.FunFrames X.base X.stack:=by
 rcases I.ok.stk with e | ⟨e,hf⟩
 ·rw [e];exact I.funs
 ·rw [e]
  obtain⟨m,hn,_⟩:=I.loc
  refine .cons (by rw [I.ok.kind];decide) hf hn ?_ I.funs
  exact Heap.get?_none_of_le (Nat.le_trans I.ok.bsz I.ok.above)
theorem Inv.stkSub(I:Inv X pins σ H s):∀b∈frs X.stack,b∈X.env.locals::X.fs:=λb hb=>by
 rcases I.ok.stk with e | ⟨e,hf⟩
 ·rw [e] at hb;exact List.mem_cons_of_mem _ hb
 ·rw [e] at hb
  unfold frs at hb
  rw [List.filterMap_cons,hf] at hb
  exact hb
theorem Inv.stkFree(I:Inv X pins σ H s):∀b∈frs X.stack,H b=none:=λb hb=>by
 rcases List.mem_cons.mp (I.stkSub b hb) with e | hb
 ·rw [e];exact I.free
 ·obtain⟨_,o,ho,_⟩:=I.ok.funs.mem hb
  exact I.base.free b o ho (I.ok.frf b hb) λz=>I.ok.exfs b z hb
theorem Inv.step{g':Array GenState}{t':Nat}{d':Drawn}{ch:List Addr}(I:Inv X pins σ H s)
 (hch:∀b∈ch,(b∈X.ex\/X.s₀.heap.objs.size<=b)/\b≠X.env.locals/\(∀x c,X.env.cells.lookup x=some c->c≠b)/\∀p∈X.pn++pins,p.1≠b)
 (keep:∀b o,b≠X.env.locals->b∉X.fs->b∉ch->s.heap.get? b=some o->H b=none->h'.get? b=some o)
 (slot:∀b o,b≠X.env.locals->b∈X.fs->b∉ch->s.heap.get? b=some o->H b=none->∃sl,h'.get? b=some { o with slots:=sl }) (free:∀b o,b∉ch->s.heap.get? b=some o->H b=none->H' b=none)
 (there:∀b o,b∉ch->s.heap.get? b=some o->∃o',h'.get? b=some o')
 (tups:∀b xs,H b=some (.tup xs)->H' b=some (.tup xs)) (frzs:∀b o u,H b=some (.frz o u)->H' b=some (.frz o u)) (tbls:∀b ps,H b=some (.tbl ps)->∃more,H' b=some (.tbl (ps++more)))
 (ns:∀m,s.heap.Ns X.env.locals m->h'.Ns X.env.locals m) (hok:HOk X.prog X.w H' h') (hg:AllBare g') :
 Inv X pins σ H' { s with heap:=h',gens:=g',drawn:=d',toks:=t' }:=by
 have neL:∀b o,X.s₀.heap.get? b=some o->b≠X.env.locals:=λb o e=>Nat.ne_of_lt (Nat.lt_of_lt_of_le (Heap.lt_size e) I.ok.above)
 have neC:∀b o,X.s₀.heap.get? b=some o->b∉X.ex->b∉ch:=λb o e hx hb=>by
  rcases (hch b hb).1 with z | z
  ·exact hx z
  ·exact absurd (Nat.lt_of_lt_of_le (Heap.lt_size e) z) (Nat.lt_irrefl _)
 have cellK:∀x c,X.env.cells.lookup x=some c->∀v,s.heap.IsCell c v->h'.IsCell c v:=λx c e v hq=>by
  obtain ⟨o,ho,hd⟩:=hq
  have nch:c∉ch:=λz=>(hch c z).2.2.1 x c e rfl
  by_cases hc:c∈X.fs
  ·obtain⟨sl,q⟩:=slot c o (I.cne x c e) hc nch ho (I.freeC x c e)
   exact⟨_,q,hd⟩
  ·exact⟨o,keep c o (I.cne x c e) hc nch ho (I.freeC x c e),hd⟩
 refine⟨I.ok,I.os,hg,⟨λb o e n hb hx=>?_,λb o e n hb hx=>?_,λb o e n hx=>?_,λb o e hx=>?_,λb xs e=>tups b xs (I.base.tups b xs e),λb o xs e=>frzs b o xs (I.base.frzs b o xs e),λb ps e=>?_⟩,?_,λx c e=>?_,?_,λx c e=>?_,λp hp=>?_,hok,I.len⟩
 ·exact keep b o (neL b o e) hb (neC b o e hx) (I.base.keep b o e n hb hx) (I.base.free b o e n hx)
 ·obtain⟨sl,e1⟩:=I.base.slot b o e n hb hx
  obtain⟨sl',e2⟩:=slot b _ (neL b o e) hb (neC b o e hx) e1 (I.base.free b o e n hx)
  exact⟨sl',e2⟩
 ·obtain⟨o',e1⟩:=I.base.there b o e hx
  exact free b o' (neC b o e hx) e1 (I.base.free b o e n hx)
 ·obtain⟨o',e1⟩:=I.base.there b o e hx
  exact there b o' (neC b o e hx) e1
 ·obtain⟨m1,e1⟩:=I.base.tbls b ps e
  obtain⟨m2,e2⟩:=tbls b _ e1
  exact⟨m1++m2,by rw [e2,Array.append_assoc]⟩
 ·obtain⟨m,hn,hl⟩:=I.loc
  refine⟨m,ns m hn,λi x v e1 e2 e3=>?_⟩
  obtain⟨u,r,l⟩:=hl i x v e1 e2 e3
  refine⟨u,r,?_⟩
  rcases l with l | ⟨k,c,e,z⟩
  ·exact .inl l
  ·exact .inr ⟨k,c,e,cellK x c e _ z⟩
 ·obtain⟨v,z⟩:=I.cell x c e
  exact⟨v,cellK x c e v z⟩
 ·obtain⟨m,⟨o,_,_,ho,_⟩,_⟩:=I.loc
  exact free _ o (λz=>(hch _ z).2.1 rfl) ho I.free
 ·obtain⟨v,o,ho,hd⟩:=I.cell x c e
  exact free c o (λz=>(hch c z).2.2.1 x c e rfl) ho (I.freeC x c e)
 ·obtain⟨e,n,ne,nf,d⟩:=I.pin p hp
  have nch:p.1∉ch:=λz=>(hch p.1 z).2.2.2 p hp rfl
  exact⟨keep p.1 p.2 ne nf nch e n,free p.1 p.2 nch e n,ne,nf,d⟩
theorem Inv.un{t':Nat}(I:Inv X pins σ H s)(u:Un X.fs [] H H' s.heap h')(hok:HOk X.prog X.w H' h'):Inv X pins σ H' { s with heap:=h',toks:=t' }:=by
 obtain⟨m,⟨o,es,ep,ho,r⟩,_⟩:=id I.loc
 obtain⟨sl,hL⟩:=u.any ho I.free (by simp)
 exact I.step (g':=s.gens) (d':=s.drawn) (ch:=[]) (λ_ z=>nomatch z) (λb o _ hb _ e n=>u.keep b o e n hb (by simp)) (λb o _ hb _ e n=>u.slot b o e n hb (by simp)) (λb o _ e n=>u.free b o e n (by simp)) (λb o _ e=>u.there b o e (by simp)) u.tups u.frzs u.tbls (λm' hm=>by
  obtain⟨o',es',ep',ho',r'⟩:=hm
  rw [ho] at ho';cases ho'
  exact⟨_,es',ep',hL,r'⟩) hok I.bare
theorem Inv.call{g':Array GenState}{t':Nat}{d':Drawn}{ch:List Addr}(I:Inv X pins σ H s)(u:Un (frs X.stack) ch H H' s.heap h')(hok:HOk X.prog X.w H' h')(hg:AllBare g')
 (hch:∀b∈ch,(b∈X.ex\/X.s₀.heap.objs.size<=b)/\b≠X.env.locals/\(∀x c,X.env.cells.lookup x=some c->c≠b)/\∀p∈X.pn++pins,p.1≠b) :
 Inv X pins σ H' { s with heap:=h',gens:=g',drawn:=d',toks:=t' }:=by
 obtain⟨m,⟨o,es,ep,ho,r⟩,_⟩:=id I.loc
 obtain⟨sl,hL⟩:=u.any ho I.free λz=>(hch _ z).2.1 rfl
 exact I.step (ch:=ch) hch (λb o hL hb hc e n=>u.keep b o e n (λz=>(List.mem_cons.mp (I.stkSub b z)).elim hL hb) hc) (λb o _ _ hc e n=>u.any e n hc) (λb o hc e n=>u.free b o e n hc) (λb o hc e=>u.there b o e hc) u.tups u.frzs u.tbls (λm' hm=>by
  obtain⟨o',es',ep',ho',r'⟩:=hm
  rw [ho] at ho';cases ho'
  exact⟨_,es',ep',hL,r'⟩) hok hg
theorem Inv.turned{t':Nat}{it:Addr}(I:Inv X pins σ H s)(k:∀b o,b≠it->s.heap.get? b=some o->h'.get? b=some o)(hn:H it=none)(hL:it≠X.env.locals)
 (h1:it∈X.ex\/X.s₀.heap.objs.size<=it) (h2:∀x c,X.env.cells.lookup x=some c->c≠it) (h3:∀p∈X.pn++pins,p.1≠it):Inv X pins σ H { s with heap:=h',toks:=t' }:=by
 have nit:∀b u,H b=some u->b≠it:=λb u e z=>by rw [z,hn] at e;cases e
 refine I.step (g':=s.gens) (d':=s.drawn) (ch:=[it]) (λb hb=>?_) (λb o _ _ hc e _=>k b o (λz=>hc (by simp [z])) e) (λb o _ _ hc e _=>⟨o.slots,k b o (λz=>hc (by simp [z])) e⟩) (λ_ _ _ _ n=>n)
  (λb o hc e=>⟨o,k b o (λz=>hc (by simp [z])) e⟩) (λ_ _ e=>e) (λ_ _ _ e=>e) (λb ps e=>⟨#[],by rw [e];simp⟩) (λm hm=>?_) (λb u e=>?_) I.bare
 ·have e:b=it:=by simpa using hb
  subst e
  exact⟨h1,hL,h2,h3⟩
 ·obtain⟨o,es,ep,ho,r⟩:=hm
  exact⟨o,es,ep,k _ o (Ne.symm hL) ho,r⟩
 ·refine (I.hok b u e).stay (λc v hc q=>k c v ?_ q) (λ_ q=>q) λ_ _ q=>q
  rcases hc with z | z
  ·rw [z];exact nit b u e
  ·exact nit c _ z
theorem Inv.tok(I:Inv X pins σ H s)(t:Nat):Inv X pins σ H { s with toks:=t }:=I.un (h':=s.heap) (t':=t) Un.refl I.hok
theorem Inv.kept{t':Nat}(I:Inv X pins σ H s)(k:∀b u,s.heap.get? b=some u->h'.get? b=some u):Inv X pins σ H { s with heap:=h',toks:=t' }:=I.un (Un.kept k) (I.hok.kept k)
theorem Inv.laid{a:Addr}{o:HO}{t':Nat}(I:Inv X pins σ H s)(k:∀b u,s.heap.get? b=some u->h'.get? b=some u)(hp:s.heap.objs.size<=a)(new:ObjOk X.prog X.w (upd H a o) h' a o) :
 Inv X pins σ (upd H a o) { s with heap:=h',toks:=t' }:=I.un (Un.laid k hp (I.hok.fresh hp)) (I.hok.laid k hp new)
theorem Inv.write{x e:Addr}{o:HO}{t':Nat}(I:Inv X pins σ H s)(mu:Mut (H x))(he:e=x\/H e=some (.own x))(k:∀b u,b≠e->s.heap.get? b=some u->h'.get? b=some u)(heo:∃u,h'.get? e=some u)
 (new:ObjOk X.prog X.w (upd H x o) h' x o):Inv X pins σ (upd H x o) { s with heap:=h',toks:=t' }:=I.un (Un.write mu he k heo) (I.hok.write mu he k heo new)
theorem Inv.pins_of{pins':List (Addr×Obj)}(I:Inv X pins σ H s)(h:∀p∈pins',s.heap.get? p.1=some p.2/\H p.1=none/\p.1≠X.env.locals/\p.1∉X.fs/\∀v,p.2.data≠.cell v):Inv X pins' σ H s:=
 ⟨I.ok,I.os,I.bare,I.base,I.loc,I.cell,I.free,I.freeC,λp hp=>(List.mem_append.mp hp).elim (λz=>I.pin p (List.mem_append_left _ z)) (h p),I.hok,I.len⟩
theorem ax0{N:List Str}(hN:N.Nodup){i j:Nat}{x:Str}(a:N[i]?=some x)(b:N[j]?=some x):i=j:=by
 obtain⟨h1,e1⟩:=List.getElem?_eq_some_iff.mp a
 obtain⟨h2,e2⟩:=List.getElem?_eq_some_iff.mp b
 exact (List.getElem_inj hN).mp (e1.trans e2.symm)
theorem aM5{M:Model}{A:Around}{E:Value->Shared->Prop}{i:Nat}{x:Str}{v:V}{u:Value}{Q:Unit->Shared->Prop}(I:Inv X pins σ H s)(hN:X.N.Nodup)(hi:X.N[i]?=some x)(hx:Loc X.env.scope x)(r:RelV v u)
 (h:∀s',Inv X pins (σ.set i (some v)) H s'->(∃a,Heap.SameBut a s.heap s'.heap/\(a=X.env.locals\/X.env.cells.lookup x=some a))->Q () s') (hf:X.fn x=true\/X.env.scope.names.lookup x=some .local:=by first | exact .inl rfl | exact .inr rfl | assumption):wpAny M A (storeName X.env x u) Q E s:=by
 obtain⟨m,hn,hl⟩:=id I.loc
 have hcls:(X.env.scope.kind == .class||(X.env.scope.kind == .module&&X.env.locals != X.env.globals))=false:=by rw [I.ok.kind];rfl
 have hiσ:i<σ.length:=by rw [I.len];exact (List.getElem?_eq_some_iff.mp hi).1
 have cne:=I.cne
 have tracked:∀{a:Addr} {h':Heap},(∃o,s.heap.get? a=some o/\H a=none)->Heap.SameBut a s.heap h'->HOk X.prog X.w H h':=λ{a h'} ha hs b ob e=>by
  obtain⟨_,_,hfree⟩:=ha
  refine (I.hok b ob e).stay (λc w' hc q=>(hs.2 c ?_).trans q) (λ_ q=>q) λ_ _ q=>q
  rintro rfl
  rcases hc with rfl | hc
  ·rw [hfree] at e;cases e
  ·rw [hfree] at hc;cases hc
 rcases hx with hk | hk
 ·refine wpAny_storeName_local hk hn (λh' hn' hs=>?_) hcls
  obtain⟨oL,_,_,hoL,_⟩:=id hn
  refine h _ ⟨I.ok,I.os,I.bare,⟨λb o e n hb hx=>?_,λb o e n hb hx=>?_,I.base.free,λb o e hx=>?_,I.base.tups,I.base.frzs,I.base.tbls⟩,⟨_,hn',λj y v' e1 e2 e3=>?_⟩,λy c e=>?_,I.free,I.freeC,λp hp=>?_,tracked ⟨oL,hoL,I.free⟩ hs,by simpa using I.len⟩ ⟨_,hs,.inl rfl⟩
  ·exact (hs.2 b (Nat.ne_of_lt (Nat.lt_of_lt_of_le (Heap.lt_size e) I.ok.above))).trans (I.base.keep b o e n hb hx)
  ·obtain⟨sl,e1⟩:=I.base.slot b o e n hb hx
   exact⟨sl,(hs.2 b (Nat.ne_of_lt (Nat.lt_of_lt_of_le (Heap.lt_size e) I.ok.above))).trans e1⟩
  ·obtain⟨o',e1⟩:=I.base.there b o e hx
   exact⟨o',(hs.2 b (Nat.ne_of_lt (Nat.lt_of_lt_of_le (Heap.lt_size e) I.ok.above))).trans e1⟩
  ·by_cases hj:j=i
   ·subst hj
    rw [hi] at e1;cases e1
    rw [List.getElem?_set_self hiσ] at e2
    cases e2
    exact⟨u,r,.inl ⟨hk,by simp⟩⟩
   ·rw [List.getElem?_set_ne (Ne.symm hj)] at e2
    obtain⟨u',r',q⟩:=hl j y v' e1 e2 e3
    refine⟨u',r',?_⟩
    rcases q with ⟨k,e⟩ | ⟨k,c,e,z⟩
    ·refine .inl ⟨k,?_⟩
     have:y≠x:=λe=>hj (ax0 hN e1 (e ▸ hi))
     simp [this,e]
    ·exact .inr ⟨k,c,e,z.sameBut hs (cne y c e)⟩
  ·obtain⟨w',z⟩:=I.cell y c e
   exact⟨w',z.sameBut hs (cne y c e)⟩
  ·obtain⟨e,n,ne,nf,d⟩:=I.pin p hp
   exact⟨(hs.2 p.1 ne).trans e,n,ne,nf,d⟩
 ·have hfn:X.fn x=true:=by
   rcases hf with z | z
   ·exact z
   ·rw [z] at hk;cases hk
  obtain⟨c,hc⟩:=I.ok.has x (.inl hk)
  obtain⟨w',z⟩:=I.cell x c hc
  refine wpAny_storeName_cell I.ok.kind hk hc z (λh' hc' hs=>?_)
  obtain⟨oc,hoc,hocd⟩:=id z
  refine h { s with heap:=h' } ⟨I.ok,I.os,I.bare,⟨λb o e n hb hx=>?_,λb o e n hb hx=>?_,I.base.free,λb o e hx=>?_,I.base.tups,I.base.frzs,I.base.tbls⟩,⟨m,hn.sameBut hs (Ne.symm (cne x c hc)),λj y v' e1 e2 e3=>?_⟩,λy c' e=>?_,I.free,I.freeC,λp hp=>?_,tracked ⟨oc,hoc,I.freeC x c hc⟩ hs,by simpa using I.len⟩ ⟨c,hs,.inr hc⟩
  ·exact (hs.2 b (Nat.ne_of_lt (Nat.lt_of_lt_of_le (Heap.lt_size e) (I.ok.cab x c hfn hc)))).trans (I.base.keep b o e n hb hx)
  ·obtain⟨sl,e1⟩:=I.base.slot b o e n hb hx
   exact⟨sl,(hs.2 b (Nat.ne_of_lt (Nat.lt_of_lt_of_le (Heap.lt_size e) (I.ok.cab x c hfn hc)))).trans e1⟩
  ·obtain⟨o',e1⟩:=I.base.there b o e hx
   exact⟨o',(hs.2 b (Nat.ne_of_lt (Nat.lt_of_lt_of_le (Heap.lt_size e) (I.ok.cab x c hfn hc)))).trans e1⟩
  ·by_cases hj:j=i
   ·subst hj
    rw [hi] at e1;cases e1
    rw [List.getElem?_set_self hiσ] at e2
    cases e2
    exact⟨u,r,.inr ⟨.inl hk,c,hc,hc'⟩⟩
   ·rw [List.getElem?_set_ne (Ne.symm hj)] at e2
    obtain⟨u',r',q⟩:=hl j y v' e1 e2 e3
    refine⟨u',r',?_⟩
    rcases q with q | ⟨k,c',e,z'⟩
    ·exact .inl q
    ·refine .inr ⟨k,c',e,z'.sameBut hs ?_⟩
     rintro rfl
     exact hj (ax0 hN e1 (I.ok.inj _ _ _ e hc ▸ hi))
  ·by_cases hcc:c'=c
   ·subst hcc;exact⟨_,hc'⟩
   ·obtain⟨w2,z2⟩:=I.cell y c' e
    exact⟨w2,z2.sameBut hs hcc⟩
  ·obtain⟨e,n,ne,nf,d⟩:=I.pin p hp
   refine⟨(hs.2 p.1 ?_).trans e,n,ne,nf,d⟩
   intro q
   rw [q,hoc] at e
   have q':oc=p.2:=Option.some.inj e
   exact d w' (by rw [←q'];exact hocd)
theorem ae9{M:Model}{A:Around}{E:Value->Shared->Prop}{i:Nat}{x:Str}{v:V}{u:Value}{Q:Unit->Shared->Prop}(I:Inv X pins σ H s)(hN:X.N.Nodup)(hi:X.N[i]?=some x)(hx:Loc X.env.scope x)(r:RelV v u)
 (h:∀s',Inv X pins (σ.set i (some v)) H s'->Q () s') (hf:X.fn x=true\/X.env.scope.names.lookup x=some .local:=by first | exact .inl rfl | exact .inr rfl | assumption):wpAny M A (storeName X.env x u) Q E s:=
 aM5 I hN hi hx r (λs' I' _=>h s' I') hf
theorem Inv.call'{s':Shared}{ch:List Addr}(I:Inv X pins σ H s)(ho:s'.os=s.os)(u:Un (frs X.stack) ch H H' s.heap s'.heap)(hok:HOk X.prog X.w H' s'.heap)(hg:AllBare s'.gens)
 (hch:∀b∈ch,(b∈X.ex\/X.s₀.heap.objs.size<=b)/\b≠X.env.locals/\(∀x c,X.env.cells.lookup x=some c->c≠b)/\∀p∈X.pn++pins,p.1≠b):Inv X pins σ H' s':=by
 obtain⟨h',g',d',t',o'⟩:=s'
 have e:o'=s.os:=ho
 subst e
 exact I.call (g':=g') (t':=t') (d':=d') u hok hg hch
end
abbrev XK:=Value->Option Addr->Hp->Prop
abbrev St:=List (Option V)
abbrev VK:=V->Hp->Prop
abbrev TE:=St->Hp->VK->Prop
abbrev TT:=St->Hp->(Bool->Hp->Prop)->Prop
abbrev TA:=St->Hp->(List V->Hp->Prop)->Prop
structure aC3 where
 nx:St->Hp->Prop
 rt:VK
 bk:St->Hp->Prop:=λ_ _=>False
 ct:St->Hp->Prop:=λ_ _=>False
abbrev TS:=aC3->St->Hp->Prop
def EP(X:Cx)(pins:List (Addr×Obj))(σ:St)(Q:VK)(u:Value)(s':Shared):Prop:=∃v H',Inv X pins σ H' s'/\RelV v u/\Q v H'
def TP(X:Cx)(pins:List (Addr×Obj))(σ:St)(Q:Bool->Hp->Prop)(b:Bool)(s':Shared):Prop:=∃H',Inv X pins σ H' s'/\Q b H'
def AP(X:Cx)(pins:List (Addr×Obj))(σ:St)(Q:List V->Hp->Prop)(us:List Value)(s':Shared):Prop:=∃vs H',Inv X pins σ H' s'/\Vals vs us/\Q vs H'
def SP(X:Cx)(pins:List (Addr×Obj))(D:aC3)(f:Flow)(s':Shared):Prop:=
 match f with
 | .next=>∃σ' H',Inv X pins σ' H' s'/\D.nx σ' H'
 | .brk=>∃σ' H',Inv X pins σ' H' s'/\D.bk σ' H'
 | .cont=>∃σ' H',Inv X pins σ' H' s'/\D.ct σ' H'
 | .ret u=>∃v σ' H',Inv X pins σ' H' s'/\RelV v u/\D.rt v H'
def PE(X:Cx)(e:Expr)(t:TE):Prop:=
 ∀(pins:List (Addr×Obj)) (s:Shared) (σ:St) (H:Hp) (Q:VK),Inv X pins σ H s->t σ H Q->wpAny (model X.prog X.w) X.A (eval e X.env) (EP X pins σ Q) X.xe s
def PT(X:Cx)(e:Expr)(t:TT):Prop:=
 ∀(pins:List (Addr×Obj)) (s:Shared) (σ:St) (H:Hp) (Q:Bool->Hp->Prop),Inv X pins σ H s->t σ H Q->wpAny (model X.prog X.w) X.A (isTrue e X.env (eval e X.env)) (TP X pins σ Q) X.xe s
def PW(X:Cx)(e:Expr)(t:TT):Prop:=
 ∀(whole:Sem Value) (pins:List (Addr×Obj)) (s:Shared) (σ:St) (H:Hp) (Q:Bool->Hp->Prop),Inv X pins σ H s->t σ H Q->wpAny (model X.prog X.w) X.A (isTrue e X.env whole) (TP X pins σ Q) X.xe s
theorem PW.pt{X:Cx}{e:Expr}{t:TT}(h:PW X e t):PT X e t:=h _
def PA(X:Cx)(es:List Expr)(t:TA):Prop:=
 ∀(pos:Pos) (pins:List (Addr×Obj)) (s:Shared) (σ:St) (H:Hp) (Q:List V->Hp->Prop),Inv X pins σ H s->t σ H Q->wpAny (model X.prog X.w) X.A (spliced (backTo pos (starEach es X.env))) (AP X pins σ Q) X.xe s
def PS(X:Cx)(st:Stmt)(t:TS):Prop:=
 ∀(pins:List (Addr×Obj)) (s:Shared) (σ:St) (H:Hp) (D:aC3),Inv X pins σ H s->t D σ H->wpAny (model X.prog X.w) X.A (exec st X.env) (SP X pins D) X.xe s
def PSs(X:Cx)(st:List Stmt)(t:TS):Prop:=
 ∀(pins:List (Addr×Obj)) (s:Shared) (σ:St) (H:Hp) (D:aC3),Inv X pins σ H s->t D σ H->wpAny (model X.prog X.w) X.A (execs st X.env) (SP X pins D) X.xe s
theorem thn{α:Type}{t:Sem α}{Q Q':α->Shared->Prop}{M:Model}{A:Around}{E:Value->Shared->Prop}{s:Shared}(h:wpAny M A t Q E s)(hQ:∀a s,Q a s->Q' a s):wpAny M A t Q' E s:=wpAny_mono h hQ λ_ _ x=>x
section
variable{X:Cx}
def bg6(i:Nat):TE:=λσ H Q=>∃v,σ[i]?=some (some v)/\Q v H
def tC(v:V):TE:=λ_ H Q=>Q v H
theorem bg7{i:Nat}{x:Str}{pos:Pos}(hN:X.N[i]?=some x)(hv:Vis X.env.scope x)(hd:(x == ("__debug__" : Str))=false:=by decide)(hcd:(x == ("__classdict__" : Str))=false:=by decide):PE X (.Name x pos) (bg6 i):=by
 intro pins s σ H Q I h
 obtain⟨v,e,h⟩:=h
 obtain⟨m,hn,hl⟩:=I.loc
 obtain⟨u,r,l⟩:=hl i x v hN e hv
 have fin:EP X pins σ Q u s:=⟨v,H,I,r,h⟩
 rcases l with ⟨hk,hm⟩ | ⟨hk,c,hc,hcell⟩
 ·exact wpAny_Name (wpAny_loadName_local I.ok.kind hk hn hm fin) hd
 ·rcases hk with hk | hk
  ·exact wpAny_Name (wpAny_loadName_cell I.ok.kind hk hc hcell fin) hd
  ·exact wpAny_Name (wpAny_loadName_free I.ok.kind hk hc hcell fin hcd) hd
theorem aS8{i j pos}:PE X (.Constant (.int i) j pos) (tC (.int i)):=λ_ _ _ H _ I h=>wpAny_Constant_int ⟨.int i,H,I.tok _,⟨_,rfl⟩,h⟩
theorem bp2{b j pos}:PE X (.Constant (.bool b) j pos) (tC (.bl b)):=λ_ _ _ H _ I h=>Constant_bool ⟨.bl b,H,I,rfl,h⟩
theorem bg8{j pos}:PE X (.Constant .none j pos) (tC .non):=λ_ _ _ H _ I h=>Constant_none ⟨.non,H,I,rfl,h⟩
theorem bg9{x j pos}:PE X (.Constant (.str x) j pos) (tC (.str x)):=λ_ _ _ H _ I h=>Calls.Constant_str ⟨.str x,H,I.tok _,⟨_,rfl⟩,h⟩
def Gl(X:Cx)(x:Str):Prop:=X.env.kindOf x=some .globalImplicit
theorem as1{E:Value->Shared->Prop}{pins:List (Addr×Obj)}{s:Shared}{σ:St}{H:Hp}{x:Str}{u:Value}{pos:Pos}{Q:Value->Shared->Prop}(I:Inv X pins σ H s)(hg:Gl X x)(hm:X.mg x=some u)(h:Q u s)
 (hd:(x == ("__debug__" : Str))=false:=by decide):wpAny (model X.prog X.w) X.A (eval (.Name x pos) X.env) Q E s:=
 Calls.Name_function_global I.ok.kind hg (Calls.loadGlobal_global (by rw [I.ok.glob];exact I.mod.glob.keeps I.bk) hm h) hd
theorem U1{E:Value->Shared->Prop}{pins:List (Addr×Obj)}{s:Shared}{σ:St}{H:Hp}{x:Str}{u:Value}{pos:Pos}{Q:Value->Shared->Prop}(I:Inv X pins σ H s)(hg:Gl X x)(hm:X.mg x=none)(hv:bootBuiltins x=some u)(h:Q u s)
 (hn:x≠"__name__":=by decide) (hd:(x == ("__debug__" : Str))=false:=by decide):wpAny (model X.prog X.w) X.A (eval (.Name x pos) X.env) Q E s:=by
 obtain⟨mb,h1,h2⟩:=I.mod.blt
 exact Calls.Name_function_global I.ok.kind hg (Calls.loadGlobal_builtin (by rw [I.ok.glob];exact I.mod.glob.keeps I.bk) hm (by rw [I.ok.blt];exact h1.keeps I.bk) ((h2 x hn).trans hv) h) hd
theorem aH3{x:Str}{v:V}{u:Value}{pos:Pos}(hg:Gl X x)(hm:X.mg x=some u)(r:RelV v u)(hd:(x == ("__debug__" : Str))=false:=by decide):PE X (.Name x pos) (tC v):=
 λ_ _ _ H _ I h=>as1 I hg hm ⟨v,H,I,r,h⟩ hd
theorem aH4{x:Str}{v:V}{u:Value}{pos:Pos}(hg:Gl X x)(hm:X.mg x=none)(hv:bootBuiltins x=some u)(r:RelV v u)(hn:x≠"__name__":=by decide)(hd:(x == ("__debug__" : Str))=false:=by decide):PE X (.Name x pos) (tC v):=
 λ_ _ _ H _ I h=>U1 I hg hm hv ⟨v,H,I,r,h⟩ hn hd
variable{a b:Expr}{ta tb:TE}{pos:Pos}
def PC(X:Cx)(op:CmpOp)(a b:Expr)(t:TE):Prop:=
 ∀(pins:List (Addr×Obj)) (s:Shared) (σ:St) (H:Hp) (Q:VK),Inv X pins σ H s->t σ H Q->
  wpAny (model X.prog X.w) X.A (eval a X.env) (λv s₁=>wpAny (model X.prog X.w) X.A (eval b X.env) (λu s₂=>wpAny (model X.prog X.w) X.A (compareOp op v u) (EP X pins σ Q) X.xe s₂) X.xe s₁) X.xe s
def bp3(ta:TE):TE:=λσ H Q=>ta σ H λx H1=>Q (.bl (decide (x=.non))) H1
def bd8(ta:TE):TE:=λσ H Q=>ta σ H λx H1=>Q (.bl (!decide (x=.non))) H1
theorem RelV.none_iff{x:V}{v:Value}(r:RelV x v):(v == Value.none)=decide (x=.non):=by
 cases x with
 | non=>cases r;rfl
 | bl _=>cases r;rfl
 | int _=>obtain⟨t,rfl⟩:=r;rfl
 | str _=>obtain⟨t,rfl⟩:=r;rfl
 | byt _=>obtain⟨t,rfl⟩:=r;rfl
 | flt _=>obtain⟨t,rfl⟩:=r;rfl
 | ref _=>cases r;rfl
 | ty _=>cases r;rfl
theorem aS9{j pos'}(ha:PE X a ta):PC X .Is a (.Constant .none j pos') (bp3 ta):=by
 intro pins s σ H Q I h
 refine thn (ha pins s σ H _ I h) λv s1 ⟨x,H1,I1,r1,q1⟩=>?_
 exact Constant_none (is_none_gen ⟨.bl _,H1,I1,by rw [r1.none_iff];rfl,q1⟩)
theorem a48{j pos'}(ha:PE X a ta):PC X .IsNot a (.Constant .none j pos') (bd8 ta):=by
 intro pins s σ H Q I h
 refine thn (ha pins s σ H _ I h) λv s1 ⟨x,H1,I1,r1,q1⟩=>?_
 exact Constant_none (isnot_none_gen ⟨.bl _,H1,I1,by rw [r1.none_iff];rfl,q1⟩)
def tB(t:TE):TT:=λσ H Q=>t σ H λx H1=>∃c,x=.bl c/\Q c H1
theorem aT0{op:CmpOp}{t:TE}(h:PC X op a b t)(h1:behindInMarks op b=false:=by first | exact nobehind _ (by decide) (by decide) | rfl):PE X (.Compare a [op] [b] pos) t:=λpins s σ H Q I hw=>wpAny_Compare1 (h pins s σ H Q I hw) h1
theorem aC4{op:CmpOp}{t:TE}(h:PC X op a b t)(h1:behindInMarks op b=false:=by first | exact nobehind _ (by decide) (by decide) | rfl):PT X (.Compare a [op] [b] pos) (tB t):=by
 intro pins s σ H Q I hw
 refine wpAny_isTrue_Compare1 (thn (h pins s σ H _ I hw) λv s1 h1=>thn h1 λu s2 h2=>thn h2 λc s3 ⟨x,H1,I1,r1,q1⟩=>?_) h1
 obtain⟨d,rfl,q⟩:=q1
 cases r1
 exact wpAny_truthy_bool ⟨H1,I1,q⟩
theorem bh0{e:Expr}{t:TE}(h:PE X e t)(he:∀whole,isTrue e X.env whole=(do let v ←whole;standAt e.pos;holding [v] (truthy v)):=by intro _;rfl):PT X e (tB t):=by
 intro pins s σ H Q I hw
 refine isTrue_plain (thn (h pins s σ H _ I hw) λv s1 ⟨x,H1,I1,r1,q1⟩=>?_) (he _)
 obtain⟨d,rfl,q⟩:=q1
 cases r1
 exact wpAny_truthy_bool ⟨H1,I1,q⟩
variable{tA tB':TT}{rest:List Expr}
def tAnd(t u:TT):TT:=λσ H Q=>t σ H λc H1=>if c=true then u σ H1 Q else Q false H1
def tOr(t u:TT):TT:=λσ H Q=>t σ H λc H1=>if c=true then Q true H1 else u σ H1 Q
def tNot(t:TT):TT:=λσ H Q=>t σ H λc H1=>Q (!c) H1
theorem a49(ha:PT X a tA):PW X (.BoolOp .And [a] pos) tA:=by
 intro wh pins s σ H Q I h
 refine isTrue_and (thn (ha pins s σ H Q I h) λc s1 e=>?_)
 cases c with
 | true=>exact isTrue_and_nil e
 | false=>exact e
theorem bh1(ha:PT X a tA):PW X (.BoolOp .Or [a] pos) tA:=by
 intro wh pins s σ H Q I h
 refine isTrue_or (thn (ha pins s σ H Q I h) λc s1 e=>?_)
 cases c with
 | false=>exact isTrue_or_nil e
 | true=>exact e
theorem bh2(ha:PT X a tA)(hb:PW X (.BoolOp .And (b::rest) pos) tB'):PW X (.BoolOp .And (a::b::rest) pos) (tAnd tA tB'):=by
 intro wh pins s σ H Q I h
 refine isTrue_and (thn (ha pins s σ H _ I h) λc s1 ⟨H1,I1,q1⟩=>?_)
 cases c with
 | true=>exact hb wh pins s1 σ H1 Q I1 q1
 | false=>exact⟨H1,I1,q1⟩
theorem bp4(ha:PT X a tA)(hb:PW X (.BoolOp .Or (b::rest) pos) tB'):PW X (.BoolOp .Or (a::b::rest) pos) (tOr tA tB'):=by
 intro wh pins s σ H Q I h
 refine isTrue_or (thn (ha pins s σ H _ I h) λc s1 ⟨H1,I1,q1⟩=>?_)
 cases c with
 | true=>exact⟨H1,I1,q1⟩
 | false=>exact hb wh pins s1 σ H1 Q I1 q1
theorem bh3(ha:PT X a tA):PT X (.UnaryOp .Not a pos) (tNot tA):=by
 intro pins s σ H Q I h
 exact isTrue_not (ha pins s σ H (λc H1=>Q (!c) H1) I h)
def bp5(ta tb:TE):TE:=λσ H Q=>ta σ H λx H1=>∃c,x=.bl c/\if c=true then tb σ H1 Q else Q (.bl false) H1
def bv0(ta tb:TE):TE:=λσ H Q=>ta σ H λx H1=>∃c,x=.bl c/\if c=true then Q (.bl true) H1 else tb σ H1 Q
def bp6(ta:TE):TE:=λσ H Q=>ta σ H λx H1=>∃c,x=.bl c/\Q (.bl (!c)) H1
theorem aT1{op}{t:TE}(h:PE X a t):PE X (.BoolOp op [a] pos) t:=λpins s σ H Q I hw=>BoolOp_one (h pins s σ H Q I hw)
theorem bh4(ha:PE X a ta)(hb:PE X (.BoolOp .And (b::rest) pos) tb):PE X (.BoolOp .And (a::b::rest) pos) (bp5 ta tb):=by
 intro pins s σ H Q I h
 refine BoolOp_and (thn (ha pins s σ H _ I h) λv s1 ⟨x,H1,I1,r1,q1⟩=>?_)
 obtain⟨c,rfl,q1⟩:=q1
 cases r1
 refine wpAny_truthy_bool ?_
 cases c with
 | true=>exact hb pins s1 σ H1 Q I1 q1
 | false=>exact⟨.bl false,H1,I1,rfl,q1⟩
theorem bp7(ha:PE X a ta)(hb:PE X (.BoolOp .Or (b::rest) pos) tb):PE X (.BoolOp .Or (a::b::rest) pos) (bv0 ta tb):=by
 intro pins s σ H Q I h
 refine BoolOp_or (thn (ha pins s σ H _ I h) λv s1 ⟨x,H1,I1,r1,q1⟩=>?_)
 obtain⟨c,rfl,q1⟩:=q1
 cases r1
 refine wpAny_truthy_bool ?_
 cases c with
 | false=>exact hb pins s1 σ H1 Q I1 q1
 | true=>exact⟨.bl true,H1,I1,rfl,q1⟩
theorem bh5(ha:PE X a ta):PE X (.UnaryOp .Not a pos) (bp6 ta):=by
 intro pins s σ H Q I h
 refine UnaryOp_ (thn (ha pins s σ H _ I h) λv s1 ⟨x,H1,I1,r1,q1⟩=>?_)
 obtain⟨c,rfl,q1⟩:=q1
 cases r1
 exact not_of (wpAny_truthy_bool ⟨.bl (!c),H1,I1,rfl,q1⟩)
def tIf(t:TT)(ta tb:TE):TE:=λσ H Q=>t σ H λc H1=>if c=true then ta σ H1 Q else tb σ H1 Q
theorem aT2{c:Expr}(hc:PT X c tA)(ha:PE X a ta)(hb:PE X b tb):PE X (.IfExp c a b pos) (tIf tA ta tb):=by
 intro pins s σ H Q I h
 refine wpAny_IfExp (thn (hc pins s σ H _ I h) λd s1 ⟨H1,I1,q1⟩=>?_)
 cases d with
 | true=>exact ha pins s1 σ H1 Q I1 q1
 | false=>exact hb pins s1 σ H1 Q I1 q1
end
def SqL(K:PySem.W.Frag)(H:Hp)(a:Addr)(xs:List V):Prop:=
 Rd H a (.lst xs)\/
  ∃(o:Obj) (its:Array Value) (n:Nat),K.lookup a=some o/\o.cls=.type "list"/\o.dict=none/\o.data=.seq its n/\its.size<=sizeLine/\Vals xs its.toList
def SqT(K:PySem.W.Frag)(H:Hp)(a:Addr)(xs:List V):Prop:=
 Rd H a (.tup xs)\/
  ∃(o:Obj) (its:Array Value) (n:Nat),K.lookup a=some o/\o.cls=.type "tuple"/\o.data=.seq its n/\its.size<=sizeLine/\Vals xs its.toList
def bv1:Value->Option V
 | .none=>some .non
 | .bool b=>some (.bl b)
 | .int i _=>some (.int i)
 | .str x _=>some (.str x)
 | .bytes b _=>some (.byt b)
 | .float b _=>some (.flt b)
 | .ref a=>some (.ref a)
 | .type n=>some (.ty n)
 | _=>none
theorem RelV.abs{x:V}{u:Value}(r:RelV x u):bv1 u=some x:=by
 cases x with
 | non=>cases r;rfl
 | bl _=>cases r;rfl
 | int _=>obtain⟨t,rfl⟩:=r;rfl
 | str _=>obtain⟨t,rfl⟩:=r;rfl
 | byt _=>obtain⟨t,rfl⟩:=r;rfl
 | flt _=>obtain⟨t,rfl⟩:=r;rfl
 | ref _=>cases r;rfl
 | ty _=>cases r;rfl
theorem RelV.inj{x y:V}{u:Value}(r:RelV x u)(q:RelV y u):x=y:=Option.some.inj (r.abs.symm.trans q.abs)
theorem Vals.inj:∀{xs ys:List V} {us:List Value},Vals xs us->Vals ys us->xs=ys
 | _,_,_,.nil,.nil=>rfl
 | _,_,_,.cons r t,.cons r' t'=>by rw [r.inj r',Vals.inj t t']
section
variable{X:Cx}{pins:List (Addr×Obj)}{σ:St}{H:Hp}{s:Shared}{a:Addr}{xs ys:List V}
theorem SqL.of{K:PySem.W.Frag}(h:H a=some (.lst xs)):SqL K H a xs:=.inl (.inl h)
theorem SqT.of{K:PySem.W.Frag}(h:H a=some (.tup xs)):SqT K H a xs:=.inl (.inl h)
theorem Inv.list(I:Inv X pins σ H s)(h:SqL X.K H a xs):∃its:List Value,Vals xs its/\PlainL s.heap a its.toArray/\xs.length<=sizeLine:=by
 rcases h with h | ⟨o,its,n,hk,hc,hd,hs,hz,r⟩
 ·obtain⟨z,its,n,r,e⟩:=h.ok I.hok
  exact⟨its,r,⟨_,n,e,rfl,rfl,rfl⟩,z⟩
 ·refine⟨its.toList,r,⟨o,n,I.kIn a o hk,hc,hd,by simpa using hs⟩,?_⟩
  have e:=r.length
  simp only [Array.length_toList] at e
  omega
theorem Inv.tuple(I:Inv X pins σ H s)(h:SqT X.K H a xs):∃its:List Value,Vals xs its/\IsTup s.heap a its.toArray/\xs.length<=sizeLine:=by
 rcases h with h | ⟨o,its,n,hk,hc,hs,hz,r⟩
 ·obtain⟨z,its,r,p⟩:=h.ok I.hok
  exact⟨its,r,p,z⟩
 ·refine⟨its.toList,r,⟨o,I.kIn a o hk,hc,n,by simpa using hs⟩,?_⟩
  have e:=r.length
  simp only [Array.length_toList] at e
  omega
theorem Inv.list_inj(I:Inv X pins σ H s)(h:SqL X.K H a xs)(h':SqL X.K H a ys):xs=ys:=by
 obtain⟨its,r,⟨o,n,e,_,_,d⟩,_⟩:=I.list h
 obtain⟨its',r',⟨o',n',e',_,_,d'⟩,_⟩:=I.list h'
 rw [e] at e';cases e'
 rw [d] at d'
 injection d' with d1 _
 have:its=its':=by simpa using congrArg Array.toList d1
 subst this
 exact r.inj r'
theorem Inv.tuple_inj(I:Inv X pins σ H s)(h:SqT X.K H a xs)(h':SqT X.K H a ys):xs=ys:=by
 obtain⟨its,r,⟨o,e,_,n,d⟩,_⟩:=I.tuple h
 obtain⟨its',r',⟨o',e',_,n',d'⟩,_⟩:=I.tuple h'
 rw [e] at e';cases e'
 rw [d] at d'
 injection d' with d1 _
 have:its=its':=by simpa using congrArg Array.toList d1
 subst this
 exact r.inj r'
end
abbrev Cx.wish(X:Cx)(E:Value->Shared->Prop):Cx:={ X with xe:=E }
abbrev Cx.nox(X:Cx):Cx:=X.wish λ_ _=>False
theorem Cx.Ok.wish{X:Cx}(ok:X.Ok)(E:Value->Shared->Prop):(X.wish E).Ok:=
 ⟨ok.mod,ok.kind,ok.glob,ok.blt,ok.above,ok.inj,ok.has,ok.cab,ok.hd,ok.frames,ok.stk,ok.exf,ok.bs,ok.bsz,ok.noex,ok.exfs,ok.funs,ok.frf⟩
theorem Cx.Ok.unwish{X:Cx}{E:Value->Shared->Prop}(ok:(X.wish E).Ok):X.Ok:=
 ⟨ok.mod,ok.kind,ok.glob,ok.blt,ok.above,ok.inj,ok.has,ok.cab,ok.hd,ok.frames,ok.stk,ok.exf,ok.bs,ok.bsz,ok.noex,ok.exfs,ok.funs,ok.frf⟩
section
variable{X:Cx}{pins:List (Addr×Obj)}{σ:St}{H:Hp}{s:Shared}{E:Value->Shared->Prop}
theorem Inv.wish(I:Inv X pins σ H s)(E:Value->Shared->Prop):Inv (X.wish E) pins σ H s:=⟨I.ok.wish E,I.os,I.bare,I.base,I.loc,I.cell,I.free,I.freeC,I.pin,I.hok,I.len⟩
theorem Inv.unwish(I:Inv (X.wish E) pins σ H s):Inv X pins σ H s:=⟨I.ok.unwish,I.os,I.bare,I.base,I.loc,I.cell,I.free,I.freeC,I.pin,I.hok,I.len⟩
theorem SP.unwish{D:aC3}{f:Flow}{s':Shared}(h:SP (X.wish E) pins D f s'):SP X pins D f s':=by
 cases f with
 | next=>obtain⟨σ',H',I,q⟩:=h;exact⟨σ',H',I.unwish,q⟩
 | brk=>obtain⟨σ',H',I,q⟩:=h;exact⟨σ',H',I.unwish,q⟩
 | cont=>obtain⟨σ',H',I,q⟩:=h;exact⟨σ',H',I.unwish,q⟩
 | ret u=>obtain⟨v,σ',H',I,r,q⟩:=h;exact⟨v,σ',H',I.unwish,r,q⟩
theorem PSs.nox{st:List Stmt}{t:TS}(h:PSs X.nox st t):PSs X st t:=λpins s σ H D I hw=>
 wpAny_mono (h pins s σ H D (I.wish _) hw) (λ_ _ q=>q.unwish) λ_ _ z=>False.elim z
end
section
variable{X:Cx}{st:Stmt}{rest:List Stmt}{t u:TS}{e:Expr}{te:TE}{pos:Pos}
def tNext:TS:=λD σ H=>D.nx σ H
def bv2(t u:TS):TS:=λD σ H=>t { D with nx:=u D } σ H
theorem a50:PSs X [] tNext:=λ_ _ σ H _ I h=>wpAny_execs_nil ⟨σ,H,I,h⟩
theorem aT3(h1:PS X st t)(h2:PSs X rest u):PSs X (st::rest) (bv2 t u):=by
 intro pins s σ H D I h
 refine wpAny_execs_cons (thn (h1 pins s σ H { D with nx:=u D } I h) λf s1 q=>?_)
 cases f with
 | next=>
   obtain⟨σ',H',I',q⟩:=q
   exact h2 pins s1 σ' H' D I' q
 | ret v=>exact q
 | brk=>exact q
 | cont=>exact q
theorem a51(h1:PS X st t):PSs X [st] t:=by
 intro pins s σ H D I h
 refine wpAny_execs_cons (thn (h1 pins s σ H D I h) λf s1 q=>?_)
 cases f with
 | next=>exact wpAny_execs_nil q
 | ret v=>exact q
 | brk=>exact q
 | cont=>exact q
theorem Inv.quiet{pins:List (Addr×Obj)}{σ:St}{H:Hp}{s:Shared}(I:Inv X pins σ H s):interactive X.env=false:=by simp [interactive,I.ok.kind]
def bp8(te:TE):TS:=λD σ H=>te σ H λ_ H1=>D.nx σ H1
theorem a52(he:PE X e te)(hs:swapsWith e none pos.line X.env=pure false:=by rfl):PS X (.Expr e pos) (bp8 te):=by
 intro pins s σ H D I h
 exact wpAny_Expr_any (thn (he pins s σ H _ I h) λv s1 ⟨x,H1,I1,r1,q1⟩=>⟨σ,H1,I1,q1⟩) I.quiet hs
def bv3(te:TE):TS:=λD σ H=>te σ H D.rt
theorem bh6(he:PE X e te):PS X (.Return (some e) pos) (bv3 te):=by
 intro pins s σ H D I h
 exact wpAny_Return_some (thn (he pins s σ H _ I h) λv s1 ⟨x,H1,I1,r1,q1⟩=>⟨x,σ,H1,I1,r1,q1⟩)
def bv4(c:TT)(t u:TS):TS:=λD σ H=>c σ H λb H1=>if b=true then t D σ H1 else u D σ H1
theorem bp9{c:Expr}{a b:List Stmt}{tc:TT}(hc:PT X c tc)(ha:PSs X a t)(hb:PSs X b u):PS X (.If c a b pos) (bv4 tc t u):=by
 intro pins s σ H D I h
 refine wpAny_If (thn (hc pins s σ H _ I h) λd s1 ⟨H1,I1,q1⟩=>?_)
 cases d with
 | true=>exact ha pins s1 σ H1 D I1 q1
 | false=>exact hb pins s1 σ H1 D I1 q1
def tNever:TS:=λ_ _ _=>False
theorem aT4:PS X st tNever:=λ_ _ _ _ _ _ h=>h.elim
end
abbrev TG:=V->St->Hp->(St->Hp->Prop)->Prop
abbrev TGs:=List V->St->Hp->(St->Hp->Prop)->Prop
def PG(X:Cx)(target:Expr)(t:TG):Prop:=
 ∀(pins:List (Addr×Obj)) (s:Shared) (σ:St) (H:Hp) (v:V) (u:Value) (Q:St->Hp->Prop),Inv X pins σ H s->RelV v u->t v σ H Q->
  wpAny (model X.prog X.w) X.A (assign target X.env u) (λ_ s'=>∃σ' H',Inv X pins σ' H' s'/\Q σ' H') X.xe s
def PGs(X:Cx)(ts:List Expr)(t:TGs):Prop:=
 ∀(pins:List (Addr×Obj)) (s:Shared) (σ:St) (H:Hp) (vs:List V) (us:List Value) (Q:St->Hp->Prop),Inv X pins σ H s->Vals vs us->t vs σ H Q->
  wpAny (model X.prog X.w) X.A (assignInOrder ((assignEach ts X.env).map (·.2)) us) (λ_ s'=>∃σ' H',Inv X pins σ' H' s'/\Q σ' H') X.xe s
section
variable{X:Cx}{pos:Pos}
def gName(i:Nat):TG:=λv σ H Q=>Q (σ.set i (some v)) H
theorem pg_name{i:Nat}{x:Str}(hN:X.N.Nodup)(hi:X.N[i]?=some x)(hx:Loc X.env.scope x)(hf:X.fn x=true\/X.env.scope.names.lookup x=some .local:=by first | exact .inl rfl | exact .inr rfl | assumption):PG X (.Name x pos) (gName i):=by
 intro pins s σ H v u Q I r h
 exact wpAny_assign_Name (ae9 I hN hi hx r (λs' I'=>⟨_,H,I',h⟩) hf)
def gNil:TGs:=λvs σ H Q=>vs=[]/\Q σ H
def gCons(t:TG)(u:TGs):TGs:=λvs σ H Q=>∃v r,vs=v::r/\t v σ H λσ' H'=>u r σ' H' Q
theorem a53:PGs X [] gNil:=by
 intro pins s σ H vs us Q I r h
 obtain⟨e,h⟩:=h
 subst e
 cases r
 exact assignInOrder_nil ⟨σ,H,I,h⟩
theorem aT5{e:Expr}{es:List Expr}{t:TG}{u:TGs}(h1:PG X e t)(h2:PGs X es u)
 (hs:(assignEach (e::es) X.env).map (·.2)=assign e X.env::(assignEach es X.env).map (·.2):=by rfl):PGs X (e::es) (gCons t u):=by
 intro pins s σ H vs us Q I r h
 obtain⟨v,vr,e1,h⟩:=h
 subst e1
 cases r with
 | cons r rr=>
   rw [hs]
   refine assignInOrder_cons (thn (h1 pins s σ H _ _ _ I r h) λ_ s1 ⟨σ1,H1,I1,q1⟩=>?_)
   exact h2 pins s1 σ1 H1 _ _ Q I1 rr q1
def gTup(K:PySem.W.Frag)(n:Nat)(t:TGs):TG:=λv σ H Q=>∃a xs,v=.ref a/\SqT K H a xs/\xs.length=n/\t xs σ H Q
theorem bh7{es:List Expr}{k:Nat}{t:TGs}{n:Nat}(hc:X.calm=true)(h:PGs X es t)
 (hn:(assignEach es X.env).length=n:=by rfl) (hst:(assignEach es X.env).findIdx? (·.1)=none:=by rfl):PG X (.Tuple es k pos) (gTup X.K n t):=by
 intro pins s σ H v u Q I r hw
 obtain⟨a,xs,e1,hq,hl,hw⟩:=hw
 subst e1
 cases r
 obtain⟨its,rv,ht,hz⟩:=I.tuple hq
 refine assign_Tuple_tuple (I.ok.hd hc) ht (by simp [hn,←hl,rv.length]) hst λh' hx=>?_
 have I1:Inv X pins σ H { s with heap:=h' }:=I.kept (t':=s.toks) λb o e=>hx b o (Nat.ne_of_lt (Heap.lt_size e)) e
 exact h pins _ σ H xs _ Q I1 (by simpa using rv) hw
def bq0(te:TE)(g:TG):TS:=λD σ H=>te σ H λx H1=>g x σ H1 D.nx
theorem bh8{i:Nat}{x:Str}{e:Expr}{te:TE}{pos':Pos}(hN:X.N.Nodup)(hi:X.N[i]?=some x)(hx:Loc X.env.scope x)(he:PE X e te)(hs:swapsWith e (some (.Name x pos')) pos.line X.env=pure false:=by rfl)(hf:X.fn x=true\/X.env.scope.names.lookup x=some .local:=by first | exact .inl rfl | exact .inr rfl | assumption) :
 PS X (.Assign [.Name x pos'] e pos) (bq0 te (gName i)):=by
 intro pins s σ H D I h
 refine wpAny_Assign_Name (thn (he pins s σ H _ I h) λv s1 ⟨y,H1,I1,r1,q1⟩=>?_) hs
 exact ae9 I1 hN hi hx r1 (λs2 I2=>⟨_,H1,I2,q1⟩) hf
def bh9(c:TT)(tb:TS):TS:=λD σ H=>∃W:Nat->St->Hp->Prop,(∃m,W m σ H)/\∀m σ H,W m σ H->
 c σ H λb H1=>if b=true then ∃N:St->Hp->Prop,(∀σ' H',N σ' H'->∃m',m'<m/\W m' σ' H')/\tb { D with nx:=N,ct:=N,bk:=D.nx } σ H1 else D.nx σ H1
theorem aT6{c:Expr}{body:List Stmt}{tc:TT}{tb:TS}(hp:PassesOwn (model X.prog X.w) X.A X.env X.xe)(hc:PT X c tc)(hb:PSs X body tb):PS X (.While c body [] pos) (bh9 tc tb):=by
 intro pins s σ H D I h
 obtain⟨W,⟨m0,w0⟩,turn⟩:=h
 refine wpAny_While (codeAny_whileLoop (λn s'=>∃σ' H',Inv X pins σ' H' s'/\W n σ' H') ?_ m0 ⟨σ,H,I,w0⟩)
 rintro n s1 ⟨σ1,H1,I1,w1⟩
 refine wpAny_passesOwn hp (thn (hc pins s1 σ1 H1 _ I1 (turn n σ1 H1 w1)) λb s2 ⟨H2,I2,q2⟩=>?_)
 cases b with
 | true=>
   obtain⟨N,hN,q2⟩:=q2
   rw [if_pos rfl]
   refine wpAny_passesOwn hp (thn (hb pins s2 σ1 H2 _ I2 q2) λf s3 q3=>?_)
   cases f with
   | next=>
     obtain⟨σ3,H3,I3,n3⟩:=q3
     obtain⟨m',hm,w3⟩:=hN σ3 H3 n3
     exact⟨m',hm,σ3,H3,I3,w3⟩
   | cont=>
     obtain⟨σ3,H3,I3,n3⟩:=q3
     obtain⟨m',hm,w3⟩:=hN σ3 H3 n3
     exact⟨m',hm,σ3,H3,I3,w3⟩
   | brk=>exact q3
   | ret v=>exact q3
 | false=>
   rw [if_neg Bool.false_ne_true]
   exact wpAny_execs_nil ⟨σ1,H2,I2,q2⟩
end
structure It where
 go:Nat->Hp->Prop
 yld:Nat->Hp->V->Hp->Prop
 stop:Nat->Hp->Prop
def t8(X:Cx)(pins:List (Addr×Obj))(H:Hp)(b:Addr):Prop:=
 H b=none/\b≠X.env.locals/\b∉X.fs/\(b∈X.ex\/X.s₀.heap.objs.size<=b)/\(∀x c,X.env.cells.lookup x=some c->c≠b)/\∀p∈X.pn++pins,p.1≠b
theorem Inv.fpOk{X:Cx}{pins:List (Addr×Obj)}{σ:St}{H H':Hp}{s:Shared}{b:Addr}(I:Inv X pins σ H s)(hb:s.heap.objs.size<=b)(hn:H' b=none):t8 X pins H' b:=by
 refine⟨hn,Nat.ne_of_gt (Nat.lt_of_lt_of_le I.lt hb),I.nofs hb,.inr (Nat.le_trans I.sz hb),λx c e z=>?_,λp hp z=>?_⟩
 ·obtain⟨v,q⟩:=I.cell x c e
  exact absurd (Nat.lt_of_lt_of_le q.lt (by rw [z];exact hb)) (Nat.lt_irrefl _)
 ·exact absurd (Nat.lt_of_lt_of_le (Heap.lt_size (I.pin p hp).1) (by rw [z];exact hb)) (Nat.lt_irrefl _)
structure aC5(P:Program)(w:World)(K:PySem.W.Frag)(tg:Expr)(J:It)(fp:List Addr)(it:Addr)(tn:Nat->Heap->Prop):Prop where
 mem:it∈fp
 obj:∀i h,tn i h->∀b∈fp,∃o,h.get? b=some o/\∀v,o.data≠.cell v
 keep:∀i h h',tn i h->(∀b∈fp,∀o,h.get? b=some o->h'.get? b=some o)->tn i h'
 item:∀(X:Cx),X.prog=P->X.w=w->X.K=K->X.calm=true->∀(i:Nat) (pins:List (Addr×Obj)) (s:Shared) (σ:St) (H:Hp) (E:Value->Shared->Prop),Inv X pins σ H s->(∀b∈fp,t8 X pins H b)->tn i s.heap->J.go i H->
  wpAny (model P w) X.A (pyNext (.ref it)) (λr s1=>∃u,r=some u/\
   wpAny (model P w) X.A (letOwnedTupleGo tg (.ref it) u) (λ_ s2=>∃x H',Inv X pins σ H' s2/\RelV x u/\J.yld i H x H'/\tn (i+1) s2.heap/\∀b∈fp,H' b=none) E s1) E s
 done:∀(X:Cx),X.prog=P->X.w=w->X.K=K->X.calm=true->∀(i:Nat) (pins:List (Addr×Obj)) (s:Shared) (σ:St) (H:Hp) (E:Value->Shared->Prop),Inv X pins σ H s->(∀b∈fp,t8 X pins H b)->tn i s.heap->J.stop i H->
  wpAny (model P w) X.A (pyNext (.ref it)) (λr s1=>r=none/\Inv X pins σ H s1) E s
 self:∀(A:Around) (i:Nat) (s:Shared) (Q:Value->Shared->Prop) (E:Value->Shared->Prop),tn i s.heap->Q (.ref it) s->wpAny (model P w) A (pyIter (.ref it)) Q E s
abbrev TI:=St->Hp->(It->Hp->Prop)->Prop
def PIE(X:Cx)(pins:List (Addr×Obj))(σ:St)(tg:Expr)(R:It->Hp->Prop)(itv:Value)(s2:Shared):Prop:=
 ∃(it:Addr) (fp:List Addr) (tn:Nat->Heap->Prop) (J:It) (H':Hp),itv=.ref it/\Inv X pins σ H' s2/\aC5 X.prog X.w X.K tg J fp it tn/\tn 0 s2.heap/\(∀b∈fp,t8 X pins H' b)/\R J H'
def PI(X:Cx)(tg iter:Expr)(wi:TI):Prop:=
 ∀(pins:List (Addr×Obj)) (s:Shared) (σ:St) (H:Hp) (R:It->Hp->Prop),Inv X pins σ H s->wi σ H R->
  wpAny (model X.prog X.w) X.A (eval iter X.env) (λv s1=>wpAny (model X.prog X.w) X.A (pyIter v) (PIE X pins σ tg R) X.xe s1) X.xe s
theorem aT7{M:Model}{A:Around}{E:Value->Shared->Prop}{s:Shared}{tg:Expr}{it:Addr}{u:Value}{o:Obj}{n:String}{vs:Array Value}{Q:Unit->Shared->Prop}(ho:s.heap.get? it=some o)(hc:o.cls=.type n)(hd:o.data=.fields vs)
 (hn:["enumerate","zip","dict_itemiterator","dict_reverseitemiterator","odict_iterator","itertools.zip_longest","itertools.pairwise"].contains n=false) (hQ:Q () s):wpAny M A (letOwnedTupleGo tg (.ref it) u) Q E s:=by
 unfold letOwnedTupleGo
 cases tg <;> first
  | exact wpAny_pure hQ
  | (cases u <;> first
   | exact wpAny_pure hQ
   | (refine wpAny_bind (wpAny_load ho ?_)
      rw [hc,hd]
      show wpAny M A (if (["enumerate","zip","dict_itemiterator","dict_reverseitemiterator","odict_iterator","itertools.zip_longest","itertools.pairwise"].contains n&&vs[0]? == some (rawInt _))=true then _ else _) Q E s
      rw [if_neg (by intro h;rw [hn,Bool.false_and] at h;cases h)]
      exact wpAny_pure hQ))
def Itl(K:PySem.W.Frag)(a:Addr):It:=
 ⟨λi H=>∃xs x,SqL K H a xs/\xs[i]?=some x,λi H x H'=>H'=H/\∀xs,SqL K H a xs->xs[i]?=some x,λi H=>∃xs,SqL K H a xs/\xs.length<=i⟩
def Itt(K:PySem.W.Frag)(a:Addr):It:=
 ⟨λi H=>∃xs x,SqT K H a xs/\xs[i]?=some x,λi H x H'=>H'=H/\∀xs,SqT K H a xs->xs[i]?=some x,λi H=>∃xs,SqT K H a xs/\xs.length<=i⟩
def Itr(lo:Int)(n:Nat):It:=⟨λi _=>i<n,λi H x H'=>H'=H/\x=.int (lo+i),λi _=>n<=i⟩
theorem ao4{P:Program}{w:World}{K:PySem.W.Frag}{tg:Expr}(a it:Addr):aC5 P w K tg (Itl K a) [it] it (λi h=>h.IsListIter it a i) where
 mem:=by simp
 obj:=λi h st b hb=>by
  have e:b=it:=by simpa using hb
  subst e
  obtain⟨o,e,c,d⟩:=st
  exact⟨o,e,λv z=>by rw [d] at z;cases z⟩
 keep:=λi h h' st k=>st.at λo e=>k it (by simp) o e
 item:=by
  intro X hP hw hK hc i pins s σ H E I hf st hg
  subst hP hw hK
  obtain⟨xs,x,hq,hx⟩:=hg
  obtain⟨its,rv,p,hz⟩:=I.list hq
  obtain⟨u,hu,ru⟩:=rv.get hx
  obtain⟨f0,f1,f2,f3,f4,f5⟩:=hf it (by simp)
  refine wpAny_pyNext_list_item st p.isList (x:=u) (by simpa using hu) λh' st' sb=>?_
  have I1:Inv X pins σ H { s with heap:=h' }:=I.turned (t':=s.toks) (λb o hb e=>(sb.2 b hb).trans e) f0 f1 f3 f4 f5
  obtain⟨o,e,c,d⟩:=id st'
  exact⟨u,rfl,aT7 (s:={ s with heap:=h' }) e c d (by decide) ⟨x,H,I1,ru,⟨rfl,λys hy=>by rw [I.list_inj hy hq];exact hx⟩,st',λb hb=>(hf b hb).1⟩⟩
 done:=by
  intro X hP hw hK hc i pins s σ H E I hf st hg
  subst hP hw hK
  obtain⟨xs,hq,hx⟩:=hg
  obtain⟨its,rv,p,hz⟩:=I.list hq
  obtain⟨f0,f1,f2,f3,f4,f5⟩:=hf it (by simp)
  have hl:=rv.length
  exact wpAny_pyNext_list_end (I.ok.hd hc) st p.isList (by simp;omega) λh' eb=>⟨rfl,I.turned (t':=s.toks) (λb o hb e=>eb b o hb e) f0 f1 f3 f4 f5⟩
 self:=λ_ _ _ _ _ st h=>wpAny_pyIter_listiter st h
theorem af0{P:Program}{w:World}{K:PySem.W.Frag}{tg:Expr}(a it:Addr):aC5 P w K tg (Itt K a) [it] it (λi h=>h.IsTupleIter it a i) where
 mem:=by simp
 obj:=λi h st b hb=>by
  have e:b=it:=by simpa using hb
  subst e
  obtain⟨o,e,c,d⟩:=st
  exact⟨o,e,λv z=>by rw [d] at z;cases z⟩
 keep:=λi h h' st k=>st.at λo e=>k it (by simp) o e
 item:=by
  intro X hP hw hK hc i pins s σ H E I hf st hg
  subst hP hw hK
  obtain⟨xs,x,hq,hx⟩:=hg
  obtain⟨its,rv,p,hz⟩:=I.tuple hq
  obtain⟨u,hu,ru⟩:=rv.get hx
  obtain⟨f0,f1,f2,f3,f4,f5⟩:=hf it (by simp)
  refine wpAny_pyNext_tuple_item st (show s.heap.IsTuple a its.toArray from p) (x:=u) (by simpa using hu) λh' st' sb=>?_
  have I1:Inv X pins σ H { s with heap:=h' }:=I.turned (t':=s.toks) (λb o hb e=>(sb.2 b hb).trans e) f0 f1 f3 f4 f5
  obtain⟨o,e,c,d⟩:=id st'
  exact⟨u,rfl,aT7 (s:={ s with heap:=h' }) e c d (by decide) ⟨x,H,I1,ru,⟨rfl,λys hy=>by rw [I.tuple_inj hy hq];exact hx⟩,st',λb hb=>(hf b hb).1⟩⟩
 done:=by
  intro X hP hw hK hc i pins s σ H E I hf st hg
  subst hP hw hK
  obtain⟨xs,hq,hx⟩:=hg
  obtain⟨its,rv,p,hz⟩:=I.tuple hq
  obtain⟨f0,f1,f2,f3,f4,f5⟩:=hf it (by simp)
  have hl:=rv.length
  exact wpAny_pyNext_tuple_end (I.ok.hd hc) st (show s.heap.IsTuple a its.toArray from p) (by simp;omega) λh' eb=>⟨rfl,I.turned (t':=s.toks) (λb o hb e=>eb b o hb e) f0 f1 f3 f4 f5⟩
 self:=λ_ _ _ _ _ st h=>wpAny_pyIter_tupleiter st h
theorem aC6{P:Program}{w:World}{K:PySem.W.Frag}{tg:Expr}(it:Addr)(lo:Int)(n:Nat):aC5 P w K tg (Itr lo n) [it] it (λi h=>IsRangeIter h it (lo+(i:Nat)*1) ((n:Int) - (i:Nat)) 1) where
 mem:=by simp
 obj:=λi h st b hb=>by
  have e:b=it:=by simpa using hb
  subst e
  exact⟨_,st,λv z=>by
   have z':Data.fields _=Data.cell v:=z
   cases z'⟩
 keep:=λi h h' st k=>k it (by simp) _ st
 item:=by
  intro X hP hw hK hc i pins s σ H E I hf st hg
  subst hP hw hK
  obtain⟨f0,f1,f2,f3,f4,f5⟩:=hf it (by simp)
  have W:=Walks.range (prog:=X.prog) (w:=X.w) (I.ok.hd hc) it lo 1 n
  refine W.item i s _ _ hg st λv h' tk hv st' kk=>?_
  obtain⟨t,rfl⟩:=hv
  have I1:Inv X pins σ H { s with heap:=h',toks:=tk }:=I.turned (λb o hb e=>kk b o (by simpa using hb) e) f0 f1 f3 f4 f5
  refine⟨_,rfl,aT7 (s:={ s with heap:=h',toks:=tk }) (n:="range_iterator") st' rfl rfl (by decide) ⟨.int (lo+i),H,I1,⟨t,?_⟩,⟨rfl,rfl⟩,st',λb hb=>(hf b hb).1⟩⟩
  rw [Int.mul_one]
 done:=by
  intro X hP hw hK hc i pins s σ H E I hf st hg
  subst hP hw hK
  obtain⟨f0,f1,f2,f3,f4,f5⟩:=hf it (by simp)
  exact wpAny_pyNext_range_end (I.ok.hd hc) st (by have:n<=i:=hg;omega) λh' eb=>⟨rfl,I.turned (t':=s.toks) (λb o hb e=>eb b o hb e) f0 f1 f3 f4 f5⟩
 self:=λ_ _ _ _ _ st h=>wpAny_pyIter_rangeiter st h
section
variable{X:Cx}{tg:Expr}
def bq1(K:PySem.W.Frag)(tl:TE):TI:=λσ H R=>tl σ H λx H1=>∃a,x=.ref a/\(∃xs,SqL K H1 a xs)/\R (Itl K a) H1
def bv5(K:PySem.W.Frag)(tl:TE):TI:=λσ H R=>tl σ H λx H1=>∃a,x=.ref a/\(∃xs,SqT K H1 a xs)/\R (Itt K a) H1
theorem a54{l:Expr}{tl:TE}(hl:PE X l tl):PI X tg l (bq1 X.K tl):=by
 intro pins s σ H R I h
 refine thn (hl pins s σ H _ I h) λv s1 ⟨x,H1,I1,r1,q1⟩=>?_
 obtain⟨a,e,⟨xs,hq⟩,q⟩:=q1
 subst e
 cases r1
 obtain⟨its,rv,p,hz⟩:=I1.list hq
 refine wpAny_pyIter_list p.isList ?_
 refine⟨s1.heap.objs.size,[s1.heap.objs.size],_,_,H1,rfl,I1.kept (t':=s1.toks) λb o e=>Heap.get?_push_of_some _ e,ao4 a _,⟨_,Heap.get?_push_size _ rfl,rfl,rfl⟩,λb hb=>?_,q⟩
 have e:b=s1.heap.objs.size:=by simpa using hb
 subst e
 exact I1.fpOk (Nat.le_refl _) (I1.hok.fresh (Nat.le_refl _))
theorem bi0{l:Expr}{tl:TE}(hl:PE X l tl):PI X tg l (bv5 X.K tl):=by
 intro pins s σ H R I h
 refine thn (hl pins s σ H _ I h) λv s1 ⟨x,H1,I1,r1,q1⟩=>?_
 obtain⟨a,e,⟨xs,hq⟩,q⟩:=q1
 subst e
 cases r1
 obtain⟨its,rv,p,hz⟩:=I1.tuple hq
 refine wpAny_pyIter_tuple (show s1.heap.IsTuple a its.toArray from p) ?_
 refine⟨s1.heap.objs.size,[s1.heap.objs.size],_,_,H1,rfl,I1.kept (t':=s1.toks) λb o e=>Heap.get?_push_of_some _ e,af0 a _,⟨_,Heap.get?_push_size _ rfl,rfl,rfl⟩,λb hb=>?_,q⟩
 have e:b=s1.heap.objs.size:=by simpa using hb
 subst e
 exact I1.fpOk (Nat.le_refl _) (I1.hok.fresh (Nat.le_refl _))
theorem ax1{pins:List (Addr×Obj)}{σ:St}{H:Hp}{s:Shared}{R:It->Hp->Prop}{E:Value->Shared->Prop}{lo hi:Int}{t u v:Tok}{tk:Nat}(I:Inv X pins σ H s)(h1 : -(2 ^ 62)<=lo)(h2:lo<2 ^ 62)(h3 : -(2 ^ 62)<=hi)(h4:hi<2 ^ 62)
 (q:R (Itr lo (hi - lo).toNat) H):wpAny (model X.prog X.w) X.A (pyIter (.ref s.heap.objs.size)) (PIE X pins σ tg R) E { s with heap:=s.heap.push { cls:=.type "range",data:=.fields #[.int lo t,.int hi u,.int 1 v] },toks:=tk }:=by
 refine wpAny_pyIter_range (IsRange.new ..) (small_one h1 h2 h3 h4) ?_
 have I1:Inv X pins σ H { s with heap:=s.heap.push { cls:=.type "range",data:=.fields #[.int lo t,.int hi u,.int 1 v] },toks:=tk }:=I.kept λb o e=>Heap.get?_push_of_some _ e
 refine⟨(s.heap.push { cls:=.type "range",data:=.fields #[.int lo t,.int hi u,.int 1 v] }).objs.size,[(s.heap.push { cls:=.type "range",data:=.fields #[.int lo t,.int hi u,.int 1 v] }).objs.size],_,_,H,rfl,
  I1.kept (t':=tk) λb o e=>Heap.get?_push_of_some _ e,aC6 _ lo (hi - lo).toNat,?_,λb hb=>?_,q⟩
 ·have e1:lo+((0:Nat):Int)*1=lo:=by simp
  have e2:(((hi - lo).toNat:Nat):Int) - ((0:Nat):Int)=Builtin.Range.rangeSize lo hi 1:=by rw [rangeSize_one];split <;> omega
  show IsRangeIter _ _ (lo+((0:Nat):Int)*1) ((((hi - lo).toNat:Nat):Int) - ((0:Nat):Int)) 1
  rw [e1,e2]
  exact Heap.get?_push_size _ rfl
 ·have e:b=(s.heap.push { cls:=.type "range",data:=.fields #[.int lo t,.int hi u,.int 1 v] }).objs.size:=by simpa using hb
  subst e
  exact I1.fpOk (Nat.le_refl _) (I1.hok.fresh (Nat.le_refl _))
def iRng1(ta:TA):TI:=λσ H R=>ta σ H λvs H1=>∃j:Int,vs=[.int j]/\-(2 ^ 62)<=j/\j<2 ^ 62/\R (Itr 0 j.toNat) H1
def iRng2(ta:TA):TI:=λσ H R=>ta σ H λvs H1=>∃i j:Int,vs=[.int i,.int j]/\(-(2 ^ 62)<=i/\i<2 ^ 62/\-(2 ^ 62)<=j/\j<2 ^ 62)/\R (Itr i (j - i).toNat) H1
theorem aM6{a:Expr}{ta:TA}{p pos:Pos}(hg:Gl X "range")(hm:X.mg "range" = none)(ha:PA X [a] ta)(hs:starEach [a] X.env=[(false,eval a X.env)]:=by rfl):PI X tg (.Call (.Name "range" p) [a] [] pos) (iRng1 ta):=by
 intro pins s σ H R I h
 refine Call_ (U1 I hg hm boot_range (PyProof.Rows.callWith_type1 (thn (ha pos pins s σ H _ I h) λus s1 ⟨vs,H1,I1,r1,q1⟩=>?_) hs rfl))
 obtain⟨j,e,q1,q2,q⟩:=q1
 subst e
 cases r1 with
 | cons r rr=>
   cases rr
   obtain⟨t,rfl⟩:=r
   exact call_range_1 (ax1 I1 (by omega) (by omega) q1 q2 (by simpa using q))
theorem aM7{a b:Expr}{ta:TA}{p pos:Pos}(hg:Gl X "range")(hm:X.mg "range" = none)(ha:PA X [a,b] ta)(hs:starEach [a,b] X.env=[(false,eval a X.env),(false,eval b X.env)]:=by rfl)(hs2:starEach [b] X.env=[(false,eval b X.env)]:=by rfl) :
 PI X tg (.Call (.Name "range" p) [a,b] [] pos) (iRng2 ta):=by
 intro pins s σ H R I h
 refine Call_ (U1 I hg hm boot_range (PyProof.Rows.callWith_type1 (thn (ha pos pins s σ H _ I h) λus s1 ⟨vs,H1,I1,r1,q1⟩=>?_) (by rw [hs,hs2]) (by rw [hs2];rfl)))
 obtain⟨i,j,e,⟨q1,q2,q3,q4⟩,q⟩:=q1
 subst e
 cases r1 with
 | cons r rr=>
   cases rr with
   | cons r' rr=>
     cases rr
     obtain⟨t,rfl⟩:=r
     obtain⟨t',rfl⟩:=r'
     exact call_range_2 (ax1 I1 q1 q2 q3 q4 q)
def bv6(wi:TI)(g:TG)(tb:TS):TS:=λD σ H=>wi σ H λJ H1=>∃W:Nat->Nat->St->Hp->Prop,(∃m,W 0 m σ H1)/\∀i m σ H,W i m σ H->
 (J.stop i H/\D.nx σ H)\/(J.go i H/\∃N:St->Hp->Prop,(∀σ' H',N σ' H'->∃m',m'<m/\W (i+1) m' σ' H')/\∀x H',J.yld i H x H'->g x σ H' λσ2 H2=>tb { D with nx:=N,ct:=N,bk:=D.nx } σ2 H2)
def af1(fp:List Addr)(h:Heap):List (Addr×Obj):=fp.filterMap λb=>(h.get? b).map λo=>(b,o)
theorem d3{fp:List Addr}{h:Heap}{b:Addr}{o:Obj}(hb:b∈fp)(e:h.get? b=some o):(b,o)∈af1 fp h:=List.mem_filterMap.mpr ⟨b,hb,by rw [e];rfl⟩
theorem aM8{fp:List Addr}{h:Heap}{p:Addr×Obj}(hp:p∈af1 fp h):p.1∈fp/\h.get? p.1=some p.2:=by
 obtain⟨b,hb,e⟩:=List.mem_filterMap.mp hp
 cases q:h.get? b with
 | none=>rw [q] at e;cases e
 | some o=>
   rw [q] at e
   have e':(b,o)=p:=Option.some.inj e
   subst e'
   exact⟨hb,q⟩
theorem Inv.pinned{pins:List (Addr×Obj)}{σ:St}{H:Hp}{s:Shared}{fp:List Addr}(I:Inv X pins σ H s)(hf:∀b∈fp,t8 X pins H b)(ho:∀b∈fp,∃o,s.heap.get? b=some o/\∀v,o.data≠.cell v):Inv X (pins++af1 fp s.heap) σ H s:=
 I.pins_of λp hp=>(List.mem_append.mp hp).elim (λz=>I.pin p (List.mem_append_right _ z)) λz=>by
  obtain⟨hb,e⟩:=aM8 z
  obtain⟨f0,f1,f2,_⟩:=hf p.1 hb
  obtain⟨o,e',d⟩:=ho p.1 hb
  rw [e] at e';cases e'
  exact⟨e,f0,f1,f2,d⟩
theorem Inv.unpinned{pins pl:List (Addr×Obj)}{σ:St}{H:Hp}{s:Shared}(I:Inv X (pins++pl) σ H s):Inv X pins σ H s:=I.pins_of λp hp=>I.pin p (List.mem_append_right _ (List.mem_append_left _ hp))
theorem bi1{iter:Expr}{body:List Stmt}{wi:TI}{g:TG}{tb:TS}{pos:Pos}(hp:PassesOwn (model X.prog X.w) X.A X.env X.xe)(hc:X.calm=true)(hi:PI X tg iter wi)(hg:PG X tg g)(hb:PSs X body tb)
 (hs:∀x,foldedSetIterable iter X.env x=pure x:=by intro _;rfl):PS X (.For tg iter body [] pos) (bv6 wi g tb):=by
 intro pins s σ H D I h
 refine wpAny_For (thn (hi pins s σ H _ I h) λv s1 h1=>thn h1 λitv s2 h2=>?_) hs
 obtain⟨it,fp,tn,J,H2,e,I2,T,st2,f2,W,⟨m0,w0⟩,turn⟩:=h2
 subst e
 have stat:∀{H':Hp},(∀b∈fp,H' b=none)->∀b∈fp,t8 X pins H' b:=λhn b hb=>⟨hn b hb,(f2 b hb).2⟩
 refine codeAny_forLoop_any (λn s'=>∃i σ' H',Inv X pins σ' H' s'/\tn i s'.heap/\(∀b∈fp,H' b=none)/\W i n σ' H') ?_ m0 ⟨0,σ,H2,I2,st2,λb hb=>(f2 b hb).1,w0⟩
 rintro n s3 ⟨i,σ3,H3,I3,st3,fr3,w3⟩
 rcases turn i n σ3 H3 w3 with ⟨stop,qn⟩ | ⟨go,N,hN,step⟩
 ·refine wpAny_passesOwn hp (thn (T.done X rfl rfl rfl hc i pins s3 σ3 H3 X.xe I3 (stat fr3) st3 stop) λr s4 ⟨hr,I4⟩=>?_)
  subst hr
  exact wpAny_execs_nil ⟨σ3,H3,I4,qn⟩
 ·refine wpAny_passesOwn hp (thn (T.item X rfl rfl rfl hc i pins s3 σ3 H3 X.xe I3 (stat fr3) st3 go) λr s4 ⟨u,hr,h4⟩=>?_)
  subst hr
  refine wpAny_passesOwn hp (thn h4 λ_ s5 ⟨x,H5,I5,r5,y5,st5,fr5⟩=>?_)
  have I5':=I5.pinned (stat fr5) (T.obj _ _ st5)
  refine wpAny_passesOwn hp (thn (hg _ s5 σ3 H5 x u _ I5' r5 (step x H5 y5)) λ_ s6 ⟨σ6,H6,I6,q6⟩=>?_)
  refine wpAny_passesOwn hp (thn (hb _ s6 σ6 H6 _ I6 q6) λf s7 q7=>?_)
  have again:∀{σ7:St} {H7:Hp},Inv X (pins++af1 fp s5.heap) σ7 H7 s7->N σ7 H7->∃m,m<n/\∃i σ' H',Inv X pins σ' H' s7/\tn i s7.heap/\(∀b∈fp,H' b=none)/\W i m σ' H':=λ{σ7 H7} I7 n7=>by
   obtain⟨m',hm,w7⟩:=hN σ7 H7 n7
   refine⟨m',hm,i+1,σ7,H7,I7.unpinned,T.keep _ _ _ st5 λb hb o e=>(I7.pin (b,o) (List.mem_append_right _ (List.mem_append_right _ (d3 hb e)))).1,λb hb=>?_,w7⟩
   obtain⟨o,e,d⟩:=T.obj _ _ st5 b hb
   exact (I7.pin (b,o) (List.mem_append_right _ (List.mem_append_right _ (d3 hb e)))).2.1
  cases f with
  | next=>obtain⟨σ7,H7,I7,n7⟩:=q7;exact again I7 n7
  | cont=>obtain⟨σ7,H7,I7,n7⟩:=q7;exact again I7 n7
  | brk=>obtain⟨σ7,H7,I7,q7⟩:=q7;exact⟨σ7,H7,I7.unpinned,q7⟩
  | ret v=>obtain⟨x7,σ7,H7,I7,r7,q7⟩:=q7;exact⟨x7,σ7,H7,I7.unpinned,r7,q7⟩
end
abbrev R2:=V->V->Hp->VK->Prop
def OpR(X:Cx)(f:Value->Value->Sem Value)(r:R2):Prop:=
 ∀(pins:List (Addr×Obj)) (s:Shared) (σ:St) (H:Hp) (x y:V) (v u:Value) (Q:VK),Inv X pins σ H s->RelV x v->RelV y u->r x y H Q->
  wpAny (model X.prog X.w) X.A (f v u) (EP X pins σ Q) X.xe s
def UnR(X:Cx)(f:Value->Sem Value)(r:V->Hp->VK->Prop):Prop:=
 ∀(pins:List (Addr×Obj)) (s:Shared) (σ:St) (H:Hp) (x:V) (v:Value) (Q:VK),Inv X pins σ H s->RelV x v->r x H Q->
  wpAny (model X.prog X.w) X.A (f v) (EP X pins σ Q) X.xe s
def CallR(X:Cx)(f:Value)(r:List V->Hp->VK->Prop):Prop:=
 ∀(pins:List (Addr×Obj)) (s:Shared) (σ:St) (H:Hp) (xs:List V) (us:List Value) (Q:VK),Inv X pins σ H s->Vals xs us->r xs H Q->
  wpAny (model X.prog X.w) X.A (call f us) (EP X pins σ Q) X.xe s
def tOp(r:R2)(ta tb:TE):TE:=λσ H Q=>ta σ H λx H1=>tb σ H1 λy H2=>r x y H2 Q
def tUn(r:V->Hp->VK->Prop)(ta:TE):TE:=λσ H Q=>ta σ H λx H1=>r x H1 Q
def rI(C:Int->Int->Prop)(g:Int->Int->V):R2:=λx y H Q=>∃i j,x=.int i/\y=.int j/\C i j/\Q (g i j) H
def rI0(g:Int->Int->V):R2:=λx y H Q=>∃i j,x=.int i/\y=.int j/\Q (g i j) H
def rU(g:Int->V):V->Hp->VK->Prop:=λx H Q=>∃i,x=.int i/\Q (g i) H
section
variable{X:Cx}{a b c:Expr}{ta tb tc:TE}{pos:Pos}
theorem bi2(ha:PE X a ta)(hb:PE X b tb){pins:List (Addr×Obj)}{s:Shared}{σ:St}{H:Hp}{R:V->V->Hp->Prop}(I:Inv X pins σ H s)
 (h:ta σ H λx H1=>tb σ H1 λy H2=>R x y H2) {Q:Value->Shared->Prop} {f:Value->Value->Sem Value}
 (hf:∀v u s2 x y H2,Inv X pins σ H2 s2->RelV x v->RelV y u->R x y H2->wpAny (model X.prog X.w) X.A (f v u) Q X.xe s2) :
 wpAny (model X.prog X.w) X.A (eval a X.env) (λv s₁=>wpAny (model X.prog X.w) X.A (eval b X.env) (λu s₂=>wpAny (model X.prog X.w) X.A (f v u) Q X.xe s₂) X.xe s₁) X.xe s:=by
 refine thn (ha pins s σ H _ I h) λv s1 ⟨x,H1,I1,r1,q1⟩=>?_
 refine thn (hb pins s1 σ H1 _ I1 q1) λu s2 ⟨y,H2,I2,r2,q2⟩=>?_
 exact hf v u s2 x y H2 I2 r1 r2 q2
theorem bq2{op:Operator}{r:R2}(ho:OpR X (binaryOp op) r)(ha:PE X a ta)(hb:PE X b tb):PE X (.BinOp a op b pos) (tOp r ta tb):=by
 intro pins s σ H Q I h
 exact wpAny_BinOp (bi2 ha hb I h λv u s2 x y H2 I2 rx ry q=>ho pins s2 σ H2 x y v u Q I2 rx ry q)
theorem bq3{op:UnaryOp}{r:V->Hp->VK->Prop}(ho:UnR X (unaryOp op) r)(ha:PE X a ta):PE X (.UnaryOp op a pos) (tUn r ta):=by
 intro pins s σ H Q I h
 exact UnaryOp_ (thn (ha pins s σ H _ I h) λv s1 ⟨x,H1,I1,r1,q1⟩=>ho pins s1 σ H1 x v Q I1 r1 q1)
theorem opI{f:Value->Value->Sem Value}{C:Int->Int->Prop}{g:Int->Int->Int}
 (rule:∀(i j:Int) (t u:Tok) (s:Shared) (Q:Value->Shared->Prop) (E:Value->Shared->Prop),C i j->Q (.int (g i j) s.toks) { s with toks:=s.toks+1 }->wpAny (model X.prog X.w) X.A (f (.int i t) (.int j u)) Q E s) :
 OpR X f (rI C λi j=>.int (g i j)):=by
 intro pins s σ H x y v u Q I rx ry h
 obtain⟨i,j,rfl,rfl,hc,q⟩:=h
 obtain⟨t,rfl⟩:=rx
 obtain⟨t',rfl⟩:=ry
 exact rule i j t t' s _ _ hc ⟨.int (g i j),H,I.tok _,⟨_,rfl⟩,q⟩
theorem bi3{f:Value->Value->Sem Value}{g:Int->Int->Int}
 (rule:∀(i j:Int) (t u:Tok) (s:Shared) (Q:Value->Shared->Prop) (E:Value->Shared->Prop),Q (.int (g i j) s.toks) { s with toks:=s.toks+1 }->wpAny (model X.prog X.w) X.A (f (.int i t) (.int j u)) Q E s) :
 OpR X f (rI0 λi j=>.int (g i j)):=by
 intro pins s σ H x y v u Q I rx ry h
 obtain⟨i,j,rfl,rfl,q⟩:=h
 obtain⟨t,rfl⟩:=rx
 obtain⟨t',rfl⟩:=ry
 exact rule i j t t' s _ _ ⟨.int (g i j),H,I.tok _,⟨_,rfl⟩,q⟩
theorem a55{f:Value->Value->Sem Value}{g:Int->Int->Bool}
 (rule:∀(i j:Int) (t u:Tok) (s:Shared) (Q:Value->Shared->Prop) (E:Value->Shared->Prop),Q (.bool (g i j)) s->wpAny (model X.prog X.w) X.A (f (.int i t) (.int j u)) Q E s) :
 OpR X f (rI0 λi j=>.bl (g i j)):=by
 intro pins s σ H x y v u Q I rx ry h
 obtain⟨i,j,rfl,rfl,q⟩:=h
 obtain⟨t,rfl⟩:=rx
 obtain⟨t',rfl⟩:=ry
 exact rule i j t t' s _ _ ⟨.bl (g i j),H,I,rfl,q⟩
def bq4(i j:Int):Prop:=0<j/\j<1073741824
def CMul(i j:Int):Prop:=(-(2 ^ 64)<i/\i<2 ^ 64)\/(-(2 ^ 64)<j/\j<2 ^ 64)
theorem CMul.ok{i j:Int}(h:CMul i j):IntMulOk i j:=by
 rcases h with ⟨h1,h2⟩ | ⟨h1,h2⟩
 ·exact .of_left (intBits_le_64 h1 h2)
 ·exact .of_right (intBits_le_64 h1 h2)
theorem aC7(k:Nat):(0:Int)<=2 ^ k:=by
 rw [two_pow_cast]
 exact Int.natCast_nonneg _
theorem op_add:OpR X (binaryOp .Add) (rI0 λi j=>.int (i+j)):=bi3 λ_ _ _ _ _ _ _ q=>add_int q
theorem bi4:OpR X (binaryOp .Sub) (rI0 λi j=>.int (i - j)):=bi3 λ_ _ _ _ _ _ _ q=>sub_int q
theorem as2:OpR X (binaryOp .Mult) (rI CMul λi j=>.int (i*j)):=opI λ_ _ _ _ _ _ _ hc q=>mul_int q hc.ok
theorem a56:OpR X (binaryOp .FloorDiv) (rI bq4 λi j=>.int (i / j)):=opI λi j _ _ _ _ _ hc q=>by
 have h1:(0:Int)<j:=hc.1
 have h2:j<1073741824:=hc.2
 exact floordiv_int (by omega) (by rw [Int.fdiv_eq_ediv_of_nonneg i (by omega)];exact q) (.inl (PyProof.noPylong_small (by omega)))
theorem op_mod:OpR X (binaryOp .Mod) (rI (λ_ j=>0<j) λi j=>.int (i%j)):=opI λi j _ _ _ _ _ hc q=>by
 have h1:(0:Int)<j:=hc
 exact mod_int' (by omega) (by rw [Int.fmod_eq_emod_of_nonneg i (by omega)];exact q)
theorem bi5:OpR X (binaryOp .RShift) (rI (λ_ j=>0<=j) λi j=>.int (i / 2 ^ j.toNat)):=opI λi j _ _ _ _ _ hc q=>
 rshift_int hc (by rw [Int.fdiv_eq_ediv_of_nonneg i (aC7 _)];exact q)
theorem bi6:OpR X (binaryOp .BitAnd) (rI0 λi j=>.int (Builtin.bitAnd i j)):=bi3 λ_ _ _ _ _ _ _ q=>and_int q
theorem unI{f:Value->Sem Value}{g:Int->Int}
 (rule:∀(i:Int) (t:Tok) (s:Shared) (Q:Value->Shared->Prop) (E:Value->Shared->Prop),Q (.int (g i) s.toks) { s with toks:=s.toks+1 }->wpAny (model X.prog X.w) X.A (f (.int i t)) Q E s) :
 UnR X f (rU λi=>.int (g i)):=by
 intro pins s σ H x v Q I rx h
 obtain⟨i,rfl,q⟩:=h
 obtain⟨t,rfl⟩:=rx
 exact rule i t s _ _ ⟨.int (g i),H,I.tok _,⟨_,rfl⟩,q⟩
theorem bi7:UnR X (unaryOp .USub) (rU λi=>.int (-i)):=unI λ_ _ _ _ _ q=>neg_int q
theorem ac6:OpR X (compareOp .Lt) (rI0 λi j=>.bl (decide (i<j))):=a55 λ_ _ _ _ _ _ _ q=>lt_int q
theorem aT8:OpR X (compareOp .LtE) (rI0 λi j=>.bl (decide (i<=j))):=a55 λ_ _ _ _ _ _ _ q=>le_int q
theorem bd9:OpR X (compareOp .Gt) (rI0 λi j=>.bl (decide (j<i))):=a55 λ_ _ _ _ _ _ _ q=>gt_int q
theorem bq5:OpR X (compareOp .GtE) (rI0 λi j=>.bl (decide (j<=i))):=a55 λ_ _ _ _ _ _ _ q=>ge_int q
theorem OpR.or{f:Value->Value->Sem Value}{r r':R2}(h:OpR X f r)(h':OpR X f r'):OpR X f (λx y H Q=>r x y H Q\/r' x y H Q):=by
 intro pins s σ H x y v u Q I rx ry q
 rcases q with q | q
 ·exact h pins s σ H x y v u Q I rx ry q
 ·exact h' pins s σ H x y v u Q I rx ry q
theorem D6(b:Expr){op:CmpOp}(h:op≠.In:=by decide)(h2:op≠.NotIn:=by decide):behindInMarks op b=false:=by
 have e1:(op == CmpOp.In)=false:=by cases op <;> first | rfl | exact absurd rfl h
 have e2:(op == CmpOp.NotIn)=false:=by cases op <;> first | rfl | exact absurd rfl h2
 cases b <;> simp [behindInMarks,e1,e2]
theorem a57{op:CmpOp}{r:R2}(ho:OpR X (compareOp op) r)(ha:PE X a ta)(hb:PE X b tb)(hm:behindInMarks op b=false):PE X (.Compare a [op] [b] pos) (tOp r ta tb):=by
 intro pins s σ H Q I h
 exact wpAny_Compare1 (bi2 ha hb I h λv u s2 x y H2 I2 rx ry q=>ho pins s2 σ H2 x y v u Q I2 rx ry q) hm
def be0(t:TE):TT:=λσ H Q=>t σ H λx H'=>∃k,x=.bl k/\Q k H'
theorem a58{op:CmpOp}{r:R2}(ho:OpR X (compareOp op) r)(ha:PE X a ta)(hb:PE X b tb)(hm:behindInMarks op b=false):PT X (.Compare a [op] [b] pos) (be0 (tOp r ta tb)):=by
 intro pins s σ H Q I h
 refine wpAny_isTrue_Compare1 (thn (ha pins s σ H _ I h) λv s1 ⟨x,H1,I1,r1,q1⟩=>thn (hb pins s1 σ H1 _ I1 q1) λu s2 ⟨y,H2,I2,r2,q2⟩=>
  thn (ho pins s2 σ H2 x y v u _ I2 r1 r2 q2) λc s3 ⟨z,H3,I3,r3,k,e,q3⟩=>?_) hm
 subst e
 cases r3
 exact wpAny_truthy_bool ⟨H3,I3,q3⟩
def aT9(r r':R2)(ta tb tc:TE):TE:=λσ H Q=>ta σ H λx H1=>tb σ H1 λy H2=>r x y H2 λz H3=>∃k,z=.bl k/\
 (if k=true then tc σ H3 λw' H4=>r' y w' H4 Q else Q (.bl false) H3)
theorem aU0{op op':CmpOp}{r r':R2}(ho:OpR X (compareOp op) r)(ho':OpR X (compareOp op') r')(ha:PE X a ta)(hb:PE X b tb)(hc:PE X c tc)
 (hm:lastMarks [op,op'] [b,c]=false:=by with_unfolding_all rfl):PE X (.Compare a [op,op'] [b,c] pos) (aT9 r r' ta tb tc):=by
 intro pins s σ H Q I h
 refine Compare_chain (thn (ha pins s σ H _ I h) λv s1 ⟨x,H1,I1,r1,q1⟩=>chain_link (thn (hb pins s1 σ H1 _ I1 q1) λu s2 ⟨y,H2,I2,r2,q2⟩=>
  thn (ho pins s2 σ H2 x y v u _ I2 r1 r2 q2) λd s3 ⟨z,H3,I3,r3,k,e,q3⟩=>?_)) hm
 subst e
 cases r3
 refine wpAny_truthy_bool ?_
 cases k with
 | false=>exact ite_ff ⟨.bl false,H3,I3,rfl,q3⟩
 | true=>exact ite_tt (chain_last (thn (hc pins s3 σ H3 _ I3 q3) λw' s4 ⟨z',H4,I4,r4,q4⟩=>ho' pins s4 σ H4 y z' u w' Q I4 r2 r4 q4))
theorem aC8:(sizeLine:Nat)<2 ^ 63:=by rw [sizeLine_eq];decide
theorem Y4{x:V}{us:List Value}(r:Vals [x] us):∃u,us=[u]/\RelV x u:=by
 cases r with
 | cons r1 r2=>cases r2;exact⟨_,rfl,r1⟩
theorem aH5{x y:V}{us:List Value}(r:Vals [x,y] us):∃u w',us=[u,w']/\RelV x u/\RelV y w':=by
 cases r with
 | cons r1 r2=>
   cases r2 with
   | cons r3 r4=>cases r4;exact⟨_,_,rfl,r1,r3⟩
theorem aM9(hc:X.calm=true):CallR X (.builtin "max") (λxs H Q=>∃i j,xs=[.int i,.int j]/\Q (.int (if j > i then j else i)) H):=by
 intro pins s σ H xs us Q I r h
 obtain⟨i,j,rfl,q⟩:=h
 obtain⟨u,w',rfl,⟨t,rfl⟩,⟨t',rfl⟩⟩:=aH5 r
 refine max_two_ints (I.ok.hd hc) λh' tk k=>⟨_,H,I.kept k,?_,q⟩
 by_cases hj:j > i
 ·rw [if_pos hj,if_pos hj];exact⟨_,rfl⟩
 ·rw [if_neg hj,if_neg hj];exact⟨_,rfl⟩
end
structure ObjM(h:Heap)(x dx C:Addr)(mA:Str->Option Value):Prop where
 obj:h.get? x=some (PySem.W.instObj C dx)
 ns:h.Ns1 dx mA
 ne:dx≠x
theorem aN0{h:Heap}{dx:Addr}{mA:Str->Option Value}(n:h.Ns1 dx mA):∃od,h.get? dx=some od/\∀name,PySem.W.lookIn name od=some (mA name):=by
 obtain⟨o,es,ep,ho,hd,hk,_,hm⟩:=n
 refine⟨o,ho,λname=>?_⟩
 have e:=hm name
 unfold nsFind findBy at e
 rw [←Array.find?_toList] at e
 unfold PySem.W.lookIn
 rw [hd]
 dsimp only
 split
 ·rename_i y q
  rw [q] at e
  exact congrArg some e
 ·rename_i q
  rw [q] at e
  have a:es.toList.any (·.refKey)=false:=by
   rw [List.any_eq_false]
   intro y hy
   obtain⟨z,t,hkey⟩:=hk y (Array.mem_toList_iff.mp hy)
   simp [DictEntry.refKey,hkey]
  have a':¬es.toList.any (·.refKey)=true:=by rw [a];exact Bool.false_ne_true
  rw [if_neg a']
  exact congrArg some e
theorem ObjM.look{h:Heap}{x dx C:Addr}{mA:Str->Option Value}(I:ObjM h x dx C mA):∃od,PySem.W.InstAt h x (PySem.W.instObj C dx) C (some od)/\∀name,PySem.W.lookIn name od=some (mA name):=
 let ⟨od,ho,hl⟩:=aN0 I.ns
 ⟨od,⟨I.obj,rfl,rfl,ho⟩,hl⟩
section
variable{prog:Program}{w:World}{A:Around}{E:Value->Shared->Prop}{s:Shared}{K:PySem.W.Frag}{x dx C f:Addr}{mA:Str->Option Value}{name:Str}{v:Value}
theorem a59{expr:Bool}{Q:Value->Shared->Prop}(X:K.In s.heap)(I:ObjM s.heap x dx C mA)(hg:PySem.W.plainGet K C name=true)(hh:PySem.W.hasDictIn K C=true)
 (ha:PySem.W.findIn K (.ref C) name=some none) (hv:mA name=some v) (hv':PySem.W.handedIn v=true) (h:Q v { s with toks:=s.toks+1 }) :
 wpAny (model prog w) A (getAttr (.ref x) name expr) Q E s:=by
 obtain⟨od,J,hl⟩:=I.look
 exact PySem.W.get_value X J (PySem.W.plainGet_of hg).1 (PySem.W.findObj_own hh ha rfl (by rw [hl,hv])) hv' h
theorem aU1{pl:Sem Bool}{Q:Value×List Value->Shared->Prop}(X:K.In s.heap)(I:ObjM s.heap x dx C mA)(hg:PySem.W.plainGet K C name=true)
 (hf:PySem.W.findIn K (.ref C) name=some (some (.ref f))) (ht:PySem.W.isFn K (.ref f)=true) (hv:mA name=none) (h:Q (.ref f,[.ref x]) s) :
 wpAny (model prog w) A (getMethod (.ref x) name pl) Q E s:=by
 obtain⟨od,J,hl⟩:=I.look
 exact PySem.W.method_fn X J (PySem.W.plainGet_of hg).1 (PySem.W.plainGet_of hg).2 hf (beq_iff_eq.mp ht) (by show (PySem.W.lookIn name od).map (·.isSome)=some false;rw [hl,hv];rfl) h
theorem a60{ns:List Str}{Q:Unit->Shared->Prop}(X:K.In s.heap)(I:ObjM s.heap x dx C mA)
 (hs:PySem.W.findIn K (.ref C) "__setattr__" = some (some (.builtin "object.__setattr__"))) (hp:PySem.W.plainOver K C=true) (ht:PySem.W.takerIn K C name=some none) (hh:PySem.W.hasDictIn K C=true)
 (hw:PySem.Within mA ns) (hsz:ns.length<=sizeLine)
 (h:∀h',ObjM h' x dx C (λy=>if y=name then some v else mA y)->Heap.SameBut dx s.heap h'->Q () { s with heap:=h',toks:=s.toks+2 }) :
 wpAny (model prog w) A (setAttr (.ref x) name v) Q E s:=by
 obtain⟨od,J,hl⟩:=I.look
 refine PySem.W.set_plain X J hs (PySem.W.osa_open (s:={ s with toks:=s.toks+1 }) (r:=none) X J hp ht λb=>?_)
 obtain⟨cd,hc,hd'⟩:=PySem.W.any_some hh
 have hx:s.heap.get? x=some ⟨.ref C,some dx,.plain,#[]⟩:=I.obj
 refine wpAny_bind (wpAny_pure (wpAny_bind (wpAny_bind (wpAny_loadPart hx (wpAny_bind (PySem.W.Looks.here (s:={ s with toks:=s.toks+1 }) (PySem.W.looks_clsIn X hc) ?_))))))
 rw [hd']
 refine wpAny_pure (a:=some dx) (wpAny_bind (wpAny_pure (wpAny_bind ?_)))
 refine wpAny_nsSet1 (s:={ s with toks:=s.toks+1 }) I.ns λh' hn2 hs2=>?_
 obtain⟨oD,esD,epD,hoD,hdD,hcD⟩:=hn2.count (PySem.Within.cons name v hw)
 refine wpAny_bind (wpAny_lookBehind hoD (by rw [hdD];exact pastItsLine_dict (Nat.le_trans hcD (by rw [List.length_cons];omega))) ?_)
 exact wpAny_pure (h _ ⟨(hs2.2 _ (Ne.symm I.ne)).trans I.obj,hn2,I.ne⟩ hs2)
theorem aU2{R:Result->Shared->Prop}{vs:List Value}{kw:List (Str×Value)}(X:K.In s.heap)(hm:PySem.W.makesIn K C=true)
 (hi:PySem.W.findIn K (.ref C) "__init__" = some (some (.ref f))) (hf:PySem.W.typeIn K (.ref f)=some (.type "function"))
 (h:codeAny (model prog w) (A.under (.builtin "type.__call__" ⟨.ref C::vs,kw⟩)) (.call (.ref f) ⟨.ref (s.heap.objs.size+1)::vs,kw⟩) (PySem.W.InitBack (s.heap.objs.size+1) R)
  { s with heap:=(s.heap.push PySem.W.emptyDict).push (PySem.W.instObj C s.heap.objs.size) }) :
 codeAny (model prog w) A (.call (.ref C) ⟨vs,kw⟩) R s:=by
 obtain⟨hh,g,d,t,os⟩:=s
 exact PySem.W.make_core (PySem.W.makes_of X hm) (PySem.W.looks_findIn X hi) (λself=>PySem.W.bind_fn X self hf) (.inl rfl) h
end
def Y2(f:Str)(v:V):List (Str×V)->List (Str×V)
 | []=>[(f,v)]
 | (g,x)::r=>if g=f then (g,v)::r else (g,x)::Y2 f v r
theorem ac7(f g:Str)(v:V):∀fs:List (Str×V),(Y2 f v fs).lookup g=if g=f then some v else fs.lookup g
 | []=>by
   show List.lookup g [(f,v)]=_
   by_cases h:g=f
   ·have hb:(g == f)=true:=beq_iff_eq.mpr h
    simp only [List.lookup,hb,if_pos h]
   ·have hb:(g == f)=false:=beq_eq_false_iff_ne.mpr h
    simp only [List.lookup,hb,if_neg h]
 | (k,x)::r=>by
   have ih:=ac7 f g v r
   rw [show Y2 f v ((k,x)::r)=(if k=f then (k,v)::r else (k,x)::Y2 f v r) from rfl]
   by_cases hk:k=f
   ·rw [if_pos hk]
    by_cases h:g=k
    ·have hb:(g == k)=true:=beq_iff_eq.mpr h
     simp only [List.lookup,hb,if_pos (h.trans hk)]
    ·have hb:(g == k)=false:=beq_eq_false_iff_ne.mpr h
     simp only [List.lookup,hb,if_neg (λe:g=f=>h (e.trans hk.symm))]
   ·rw [if_neg hk]
    by_cases h:g=k
    ·have hb:(g == k)=true:=beq_iff_eq.mpr h
     simp only [List.lookup,hb,if_neg (λe:g=f=>hk (h.symm.trans e))]
    ·have hb:(g == k)=false:=beq_eq_false_iff_ne.mpr h
     simp only [List.lookup,hb]
     exact ih
theorem aa1(f:Str)(v:V):∀fs:List (Str×V),f∈(Y2 f v fs).map (·.1)/\∀g,g∈fs.map (·.1)->g∈(Y2 f v fs).map (·.1)
 | []=>⟨by simp [Y2],λg h=>by simp at h⟩
 | (k,x)::r=>by
   obtain⟨i1,i2⟩:=aa1 f v r
   rw [show Y2 f v ((k,x)::r)=(if k=f then (k,v)::r else (k,x)::Y2 f v r) from rfl]
   by_cases hk:k=f
   ·rw [if_pos hk]
    subst hk
    exact⟨by simp,λg h=>by simpa using h⟩
   ·rw [if_neg hk]
    refine⟨?_,λg h=>?_⟩
    ·rw [List.map_cons]
     exact List.mem_cons_of_mem _ i1
    ·rw [List.map_cons] at h ⊢
     rcases List.mem_cons.mp h with e | e
     ·exact List.mem_cons.mpr (.inl e)
     ·exact List.mem_cons_of_mem _ (i2 g e)
theorem ac8(f:Str)(v:V):∀fs:List (Str×V),(Y2 f v fs).length<=fs.length+1
 | []=>by simp [Y2]
 | (k,x)::r=>by
   have ih:=ac8 f v r
   rw [show Y2 f v ((k,x)::r)=(if k=f then (k,v)::r else (k,x)::Y2 f v r) from rfl]
   by_cases hk:k=f
   ·rw [if_pos hk,List.length_cons,List.length_cons];omega
   ·rw [if_neg hk,List.length_cons,List.length_cons];omega
theorem RelO.some_of{v:V}{o:Option Value}(r:RelO (some v) o):∃u,o=some u/\RelV v u:=by
 cases o with
 | none=>exact (show False from r).elim
 | some u=>exact⟨u,rfl,r⟩
theorem RelO.none_of{o:Option Value}(r:RelO none o):o=none:=by
 cases o with
 | none=>rfl
 | some u=>exact (show False from r).elim
theorem aN1{v:V}{u:Value}(r:RelV v u):PySem.W.handedIn u=true:=by
 cases v with
 | non=>cases (show u=Value.none from r);rfl
 | bl b=>cases (show u=Value.bool b from r);rfl
 | int i=>obtain⟨t,e⟩:=(show ∃t,u=Value.int i t from r);cases e;rfl
 | str x=>obtain⟨t,e⟩:=(show ∃t,u=Value.str x t from r);cases e;rfl
 | byt b=>obtain⟨t,e⟩:=(show ∃t,u=Value.bytes b t from r);cases e;rfl
 | flt b=>obtain⟨t,e⟩:=(show ∃t,u=Value.float b t from r);cases e;rfl
 | ref a=>cases (show u=Value.ref a from r);rfl
 | ty n=>cases (show u=Value.type n from r);rfl
section
variable{P:Program}{w:World}{H H':Hp}{h h':Heap}{a C dx:Addr}{fs fs':List (Str×V)}
theorem ae4(hok:HOk P w H h)(e:H a=some (.ins C dx fs)):∃mA,ObjM h a dx C mA/\(∀f,RelO (fs.lookup f) (mA f))/\PySem.Within mA (fs.map (·.1))/\fs.length<=1000/\H dx=some (.own a):=by
 obtain⟨d,z,ne,ob,mA,n,r,q⟩:=(show ObjOk P w H h a (.ins C dx fs) from hok a _ e)
 exact⟨mA,⟨ob,n,ne⟩,r,q,z,d⟩
end
structure Cls(K:PySem.W.Frag)(C:Addr):Prop where
 pg:PySem.W.plainGet K C Str.empty=true
 hd:PySem.W.hasDictIn K C=true
 po:PySem.W.plainOver K C=true
 sa:PySem.W.findIn K (.ref C) "__setattr__" = some (some (.builtin "object.__setattr__"))
theorem Cls.get{K:PySem.W.Frag}{C:Addr}(c:Cls K C)(f:Str):PySem.W.plainGet K C f=true:=c.pg
def NoAttr(K:PySem.W.Frag)(C:Addr)(f:Str):Prop:=PySem.W.findIn K (.ref C) f=some none
theorem NoAttr.taker{K:PySem.W.Frag}{C:Addr}{f:Str}(n:NoAttr K C f):PySem.W.takerIn K C f=some none:=by
 unfold PySem.W.takerIn
 rw [show PySem.W.findIn K (.ref C) f=some none from n]
 rfl
structure aN2(K:PySem.W.Frag)(C:Addr)(m:Str)(f:Addr):Prop where
 at_:PySem.W.findIn K (.ref C) m=some (some (.ref f))
 fn:PySem.W.isFn K (.ref f)=true
 kp:PySem.W.keepIn K (.ref f)=true
section
variable{X:Cx}{pins:List (Addr×Obj)}{σ:St}{H:Hp}{s:Shared}{a C dx:Addr}{fs:List (Str×V)}{f:Str}{v:V}{A:Around}{E:Value->Shared->Prop}
theorem aC9{b:Bool}{Q:Value->Shared->Prop}(I:Inv X pins σ H s)(e:H a=some (.ins C dx fs))(c:Cls X.K C)(n:NoAttr X.K C f)(l:fs.lookup f=some v)
 (h:∀u s',Inv X pins σ H s'->RelV v u->Q u s'):wpAny (model X.prog X.w) A (getAttr (.ref a) f b) Q E s:=by
 obtain⟨mA,O,r,_,_,_⟩:=ae4 I.hok e
 obtain⟨u,hu,ru⟩:=RelO.some_of (v:=v) (o:=mA f) (by rw [←l];exact r f)
 exact a59 I.kIn O (c.get f) c.hd n hu (aN1 ru) (h u _ (I.tok _) ru)
theorem af2{m:Str}{g:Addr}{pl:Sem Bool}{Q:Value×List Value->Shared->Prop}(I:Inv X pins σ H s)(e:H a=some (.ins C dx fs))(c:Cls X.K C)(k:aN2 X.K C m g)(l:fs.lookup m=none)
 (h:Q (.ref g,[.ref a]) s):wpAny (model X.prog X.w) A (getMethod (.ref a) m pl) Q E s:=by
 obtain⟨mA,O,r,_,_,_⟩:=ae4 I.hok e
 have hn:mA m=none:=RelO.none_of (by rw [←l];exact r m)
 exact aU1 I.kIn O (c.get m) k.at_ k.fn hn h
theorem aD0{y:V}{u:Value}{Q:Unit->Shared->Prop}(I:Inv X pins σ H s)(e:H a=some (.ins C dx fs))(c:Cls X.K C)(n:NoAttr X.K C f)(hl:fs.length<1000)(ry:RelV y u)
 (h:∀s',Inv X pins σ (upd H a (.ins C dx (Y2 f y fs))) s'->Q () s'):wpAny (model X.prog X.w) A (setAttr (.ref a) f u) Q E s:=by
 obtain⟨mA,O,r,wi,_,ho⟩:=ae4 I.hok e
 have hz:(fs.map (·.1)).length<=sizeLine:=by rw [List.length_map,sizeLine_eq];omega
 refine a60 I.kIn O c.sa c.po n.taker c.hd wi hz λh' O' sb=>h _ ?_
 have hd:∃o,h'.get? dx=some o:=let ⟨o,_,_,e',_⟩:=O'.ns;⟨o,e'⟩
 refine I.write (x:=a) (e:=dx) (by rw [e];exact True.intro) (.inr ho) (λb q hb z=>(sb.2 b hb).trans z) hd ?_
 refine⟨by rw [E4 O.ne];exact ho,?_,O.ne,O'.obj,_,O'.ns,λg=>?_,λg hg=>?_⟩
 ·have:=ac8 f y fs;omega
 ·show RelO ((Y2 f y fs).lookup g) (if g=f then some u else mA g)
  rw [ac7]
  by_cases q:g=f
  ·rw [if_pos q,if_pos q];exact ry
  ·rw [if_neg q,if_neg q];exact r g
 ·by_cases q:g=f
  ·rw [q];exact (aa1 f y fs).1
  ·refine (aa1 f y fs).2 g (wi g λz=>hg ?_)
   show (if g=f then some u else mA g)=none
   rw [if_neg q];exact z
theorem Inv.made(I:Inv X pins σ H s):Inv X pins σ (upd (upd H s.heap.objs.size (.own (s.heap.objs.size+1))) (s.heap.objs.size+1) (.ins C s.heap.objs.size []))
 { s with heap:=(s.heap.push PySem.W.emptyDict).push (PySem.W.instObj C s.heap.objs.size) }:=by
 have e1:(s.heap.push PySem.W.emptyDict).get? s.heap.objs.size=some PySem.W.emptyDict:=Heap.get?_push_size s.heap rfl
 have e2:((s.heap.push PySem.W.emptyDict).push (PySem.W.instObj C s.heap.objs.size)).get? (s.heap.objs.size+1)=some (PySem.W.instObj C s.heap.objs.size):=by
  have:=Heap.get?_push_size (s.heap.push PySem.W.emptyDict) (o:=PySem.W.instObj C s.heap.objs.size) rfl
  rwa [Heap.size_push] at this
 have e3:(s.heap.push PySem.W.emptyDict).Ns s.heap.objs.size (λ_=>none):=⟨PySem.W.emptyDict,#[],_,e1,rfl,(λe he=>absurd he (by simp)),λ_=>rfl⟩
 have I1:=I.laid (a:=s.heap.objs.size) (o:=.own (s.heap.objs.size+1)) (h':=s.heap.push PySem.W.emptyDict) (t':=s.toks) (λb u q=>Heap.get?_push_of_some _ q) (Nat.le_refl _) ⟨_,e1⟩
 refine I1.laid (a:=s.heap.objs.size+1) (o:=.ins C s.heap.objs.size []) (t':=s.toks) (λb u q=>Heap.get?_push_of_some _ q) (Nat.le_of_eq (Heap.size_push _ _)) ?_
 have ne:s.heap.objs.size≠s.heap.objs.size+1:=Nat.ne_of_lt (Nat.lt_succ_self _)
 refine⟨by rw [E4 ne,D8],Nat.zero_le _,ne,e2,λ_=>none,(Heap.Ns1.of_empty e3).at λo q=>Heap.get?_push_of_some _ q,λ_=>True.intro,λy hy=>absurd rfl hy⟩
theorem a61{prog:Program}{w:World}{env:Env}{e:Expr}{f:Str}{pos:Pos}{s:Shared}{Q:Value->Shared->Prop}(hb:attributeBase e f env (eval e env)=eval e env)
 (h:wpAny (model prog w) A (eval e env) (λo s₁=>wpAny (model prog w) A (getAttr o f true) Q E s₁) E s):wpAny (model prog w) A (eval (.Attribute e f pos) env) Q E s:=
 Attribute_any_ h (by rw [arm_eval_Attribute,hb])
end
def bv7(K:PySem.W.Frag)(ta:TE)(f:Str):TE:=λσ H Q=>ta σ H λx H1=>∃a C dx fs v,x=.ref a/\H1 a=some (.ins C dx fs)/\Cls K C/\NoAttr K C f/\fs.lookup f=some v/\Q v H1
def sFld(K:PySem.W.Frag)(ta tv:TE)(f:Str):TS:=λD σ H=>tv σ H λy H1=>ta σ H1 λx H2=>∃a C dx fs,x=.ref a/\H2 a=some (.ins C dx fs)/\Cls K C/\NoAttr K C f/\fs.length<1000/\
 D.nx σ (upd H2 a (.ins C dx (Y2 f y fs)))
section
variable{X:Cx}{o e value:Expr}{f:Str}{pos pos' tpos:Pos}{ta tv:TE}
theorem bi8(he:PE X e ta)(hb:attributeBase e f X.env (eval e X.env)=eval e X.env):PE X (.Attribute e f pos) (bv7 X.K ta f):=by
 intro pins s σ H Q I h
 refine a61 hb (thn (he pins s σ H _ I h) λu s1 ⟨x,H1,I1,rx,a,C,dx,fs,v,ex,ea,c,n,l,q⟩=>?_)
 subst ex
 obtain rfl:u=Value.ref a:=rx
 exact aC9 I1 ea c n l λu' s2 I2 ru=>⟨v,H1,I2,ru,q⟩
theorem bi9(ha:PE X o ta)(hv:PE X value tv)(hs:swapsWith value (some (.Attribute o f pos')) pos.line X.env=pure false):PS X (.Assign [.Attribute o f pos'] value pos) (sFld X.K ta tv f):=by
 intro pins s σ H D I h
 refine plainObj_wpAny_Assign_Attribute (thn (hv pins s σ H _ I h) λu s1 ⟨y,H1,I1,ry,q⟩=>thn (ha pins s1 σ H1 _ I1 q) λov s2 ⟨x,H2,I2,rx,a,C,dx,fs,ex,ea,c,n,l,q2⟩=>?_) hs
 subst ex
 obtain rfl:ov=Value.ref a:=rx
 exact aD0 I2 ea c n l ry λs3 I3=>⟨σ,_,I3,q2⟩
end
section
variable{X:Cx}{pins:List (Addr×Obj)}{σ:St}{H:Hp}{s:Shared}{A:Around}{E:Value->Shared->Prop}{Q:Value->Shared->Prop}{c:Value}{b:Bool}
inductive t9 (K:PySem.W.Frag) (H:Hp):V->Value->Prop where
 | non:t9 K H .non (.type "NoneType")
 | bl (x:Bool):t9 K H (.bl x) (.type "bool")
 | int (i:Int):t9 K H (.int i) (.type "int")
 | str (x:Str):t9 K H (.str x) (.type "str")
 | flt (x:UInt64):t9 K H (.flt x) (.type "float")
 | lst {a:Addr} {xs:List V} (e:H a=some (.lst xs)):t9 K H (.ref a) (.type "list")
 | frz {a:Addr} {o:Obj} {xs:List V} (e:H a=some (.frz o (.lst xs))):t9 K H (.ref a) (.type "list")
 | tup {a:Addr} {xs:List V} (e:H a=some (.tup xs)):t9 K H (.ref a) (.type "tuple")
 | dK {a:Addr} {kvs:List (Key×V)} (e:H a=some (.dK kvs)):t9 K H (.ref a) (.type "dict")
 | dT {a:Addr} {kvs:List (List Key×V)} (e:H a=some (.dT kvs)):t9 K H (.ref a) (.type "dict")
 | ins {a C dx:Addr} {fs:List (Str×V)} (e:H a=some (.ins C dx fs)) (cl:Cls K C) (ha:PySem.W.findIn K (.ref C) "__class__" = some (some (.builtin "object.__class__")))
  (hn:PySem.W.specialIn K (.builtin "object.__class__") "__get__" = some (some (.builtin "getset_descriptor.__get__"))) (htk:PySem.W.takesIn K (.builtin "object.__class__")=some true)
  (hm:PySem.W.mroIn K C (.type "object")=some true):t9 K H (.ref a) (.ref C)
theorem ao5{x:V}{u t:Value}(I:Inv X pins σ H s)(rx:RelV x u)(ty:t9 X.K H x t)(e:PySem.W.kitOne X.K t c=some b)(h:∀tk,Q (.bool b) { s with toks:=tk }) :
 wpAny (model X.prog X.w) A (call (.builtin "isinstance") [u,c]) Q E s:=by
 cases ty with
 | non=>cases (show u=Value.none from rx);exact PySem.W.kia_one PySem.W.kitx_none I.kIn True.intro e (λz=>nomatch z) h
 | bl y=>cases (show u=Value.bool y from rx);exact PySem.W.kia_one PySem.W.kitx_bool I.kIn True.intro e (λz=>nomatch z) h
 | int i=>obtain⟨t,q⟩:=(show ∃t,u=Value.int i t from rx);cases q;exact PySem.W.kia_one PySem.W.kitx_int I.kIn True.intro e (λz=>nomatch z) h
 | str y=>obtain⟨t,q⟩:=(show ∃t,u=Value.str y t from rx);cases q;exact PySem.W.kia_one PySem.W.kitx_str I.kIn True.intro e (λz=>nomatch z) h
 | flt y=>obtain⟨t,q⟩:=(show ∃t,u=Value.float y t from rx);cases q;exact PySem.W.kia_one PySem.W.kitx_float I.kIn True.intro e (λz=>nomatch z) h
 | @lst a xs ea=>
   cases (show u=Value.ref a from rx)
   obtain⟨_,_,n,_,h1⟩:=(show ObjOk X.prog X.w H s.heap a (.lst xs) from I.hok a _ ea)
   exact PySem.W.kia_one PySem.W.kitx_list I.kIn ⟨_,h1,rfl⟩ e (λz=>nomatch z) h
 | @frz a ob xs ea=>
   cases (show u=Value.ref a from rx)
   obtain⟨_,_,_,n,_,h1⟩:=(show ObjOk X.prog X.w H s.heap a (.frz ob (.lst xs)) from I.hok a _ ea)
   exact PySem.W.kia_one PySem.W.kitx_list I.kIn ⟨_,h1,rfl⟩ e (λz=>nomatch z) h
 | @tup a xs ea=>
   cases (show u=Value.ref a from rx)
   obtain⟨_,_,_,p⟩:=(show ObjOk X.prog X.w H s.heap a (.tup xs) from I.hok a _ ea)
   obtain⟨o,h1,h2,_⟩:=p
   exact PySem.W.kia_one PySem.W.kitx_tuple I.kIn ⟨o,h1,h2⟩ e (λz=>nomatch z) h
 | @dK a kvs ea=>
   cases (show u=Value.ref a from rx)
   obtain⟨_,_,vs,_,p⟩:=(show ObjOk X.prog X.w H s.heap a (.dK kvs) from I.hok a _ ea)
   obtain⟨o,es,ep,h1,h2,_⟩:=p
   exact PySem.W.kia_one PySem.W.kitx_dict I.kIn ⟨o,h1,h2.1⟩ e (λz=>nomatch z) h
 | @dT a kvs ea=>
   cases (show u=Value.ref a from rx)
   obtain⟨_,_,xs,_,o,es,ep,h1,h2,_⟩:=(show ObjOk X.prog X.w H s.heap a (.dT kvs) from I.hok a _ ea)
   exact PySem.W.kia_one PySem.W.kitx_dict I.kIn ⟨o,h1,h2.1⟩ e (λz=>nomatch z) h
 | @ins a C dx fs ea cl ha hn htk hm=>
   cases (show u=Value.ref a from rx)
   obtain⟨mA,O,_⟩:=ae4 I.hok ea
   obtain⟨od,J,_⟩:=O.look
   exact PySem.W.kia_one (PySem.W.kitx_own (cl.get _) cl.hd ha hn htk hm) I.kIn J e (λz=>nomatch z) h
end
structure Room(k:Nat)(A:Around):Prop where
 hd:A.handled=none
 dp:A.depth+3*k+5<recursionLimit
 un:A.units+16*k+200<cLine
theorem Room.mono{j k:Nat}{A:Around}(r:Room k A)(h:j<=k):Room j A:=⟨r.hd,by have:=r.dp;omega,by have:=r.un;omega⟩
theorem Room.deeper{k:Nat}{A:Around}(r:Room (k+1) A)(env:Env):Room k (A.deeper env):=
 ⟨r.hd,by have:=r.dp;show A.depth+1+3*k+5<_;omega,by have:=r.un;show A.units+3+16*k+200<_;omega⟩
theorem aD1{A:Around}{C:Addr}{us:List Value}{kw:List (Str×Value)}:(A.under (.builtin "type.__call__" ⟨.ref C::us,kw⟩)).depth=A.depth+1:=by
 first | rfl | simp [Around.under,Code.weight,Code.isCreation,Code.isGuard,Code.isCaller,Code.frames,Code.isFrame,guardIds]
theorem aD2{A:Around}{C:Addr}{us:List Value}{kw:List (Str×Value)}:(A.under (.builtin "type.__call__" ⟨.ref C::us,kw⟩)).units=A.units+1:=by
 first | rfl | simp [Around.under,Code.cUnits,Code.frames,Code.isFrame]
theorem Room.make{k:Nat}{A:Around}(r:Room (k+1) A)(C:Addr)(us:List Value)(kw:List (Str×Value)):Room k (A.under (.builtin "type.__call__" ⟨.ref C::us,kw⟩)):=
 ⟨r.hd,by have:=r.dp;rw [aD1];omega,by have:=r.un;rw [aD2];omega⟩
theorem Room.depth{k:Nat}{A:Around}(r:Room k A):A.depth<recursionLimit:=by have:=r.dp;omega
theorem Room.units{k:Nat}{A:Around}(r:Room k A):A.units+64<cLine:=by have:=r.un;omega
def tNil:TA:=λ_ H Q=>Q [] H
def aU3(ta:TE)(tr:TA):TA:=λσ H Q=>ta σ H λx H1=>tr σ H1 λxs H2=>Q (x::xs) H2
section
variable{X:Cx}{e:Expr}{es:List Expr}{te:TE}{t:TA}{pos:Pos}
theorem as3:PA X [] tNil:=λ_ _ _ _ H Q I h=>Calls.spliced_nil ⟨[],H,I,.nil,h⟩
theorem d4(ha:PE X e te)(hr:PA X es t)(hs:starEach (e::es) X.env=(false,eval e X.env)::starEach es X.env:=by rfl):PA X (e::es) (aU3 te t):=by
 intro pos pins s σ H Q I h
 rw [hs]
 show wpAny _ _ (spliced ((false,eval e X.env)::backTo pos (starEach es X.env))) _ _ s
 refine Calls.spliced_cons (thn (ha pins s σ H _ I h) λu s1 ⟨x,H1,I1,r1,q1⟩=>?_)
 exact thn (hr pos pins s1 σ H1 _ I1 q1) λus s2 ⟨xs,H2,I2,r2,q2⟩=>⟨x::xs,H2,I2,.cons r1 r2,q2⟩
def bv8(t:TA):TE:=λσ H Q=>t σ H λxs H1=>xs.length<=sizeLine/\∀p,H1 p=none->Q (.ref p) (upd H1 p (.tup xs))
def bv9(t:TA):TE:=λσ H Q=>t σ H λxs H1=>xs.length<=sizeLine/\∀p,H1 p=none->Q (.ref p) (upd H1 p (.lst xs))
theorem bj0{x1}(h:PA X es t):PE X (.Tuple es x1 pos) (bv8 t):=by
 intro pins s σ H Q I hq
 refine wpAny_Tuple_spliced (thn (h pos pins s σ H _ I hq) λus s1 ⟨xs,H1,I1,r,z,q⟩=>⟨by rw [←r.length];exact z,?_⟩)
 have hf:H1 s1.heap.objs.size=none:=I1.hok.fresh (Nat.le_refl _)
 refine⟨.ref s1.heap.objs.size,upd H1 s1.heap.objs.size (.tup xs),I1.laid (t':=s1.toks) (λb u e=>Heap.get?_push_of_some _ e) (Nat.le_refl _) ?_,rfl,q _ hf⟩
 exact⟨z,us,r,⟨_,Heap.get?_push_size _ rfl,rfl,_,rfl⟩⟩
theorem bj1(h:PA X es t):PE X (.List es pos) (bv9 t):=by
 intro pins s σ H Q I hq
 refine wpAny_List_spliced (thn (h pos pins s σ H _ I hq) λus s1 ⟨xs,H1,I1,r,z,q⟩=>⟨by rw [←r.length];exact z,?_⟩)
 have hf:H1 s1.heap.objs.size=none:=I1.hok.fresh (Nat.le_refl _)
 refine⟨.ref s1.heap.objs.size,upd H1 s1.heap.objs.size (.lst xs),I1.laid (t':=s1.toks) (λb u e=>Heap.get?_push_of_some _ e) (Nat.le_refl _) ?_,rfl,q _ hf⟩
 exact⟨z,us,0,r,Heap.get?_push_size _ rfl⟩
end
abbrev Sp:=List V->Hp->VK->XK->Prop
abbrev CXT:=List Env->Hp->Shared->XK->Value->Shared->Prop
structure Env0(P:Program)(w:World)(K:PySem.W.Frag)(mg:Str->Option Value)(base:Heap)(A:Around)(outer:List Env)(s:Shared)(H:Hp):Prop where
 frames:A.frames=some outer
 mod:Mod K mg base
 bs:∀b o,base.get? b=some o->s.heap.get? b=some o/\H b=none
 bsz:base.objs.size<=s.heap.objs.size
 funs:s.heap.FunFrames base outer
 frf:∀b∈frs outer,H b=none
 hok:HOk P w H s.heap
 bare:AllBare s.gens
def CE(outer:List Env)(P:Program)(w:World)(H:Hp)(s:Shared)(Q:VK)(u:Value)(s':Shared):Prop:=
 ∃v H',s'.os=s.os/\AllBare s'.gens/\Un (frs outer) [] H H' s.heap s'.heap/\HOk P w H' s'.heap/\RelV v u/\Q v H'
def CR(CX:CXT)(outer:List Env)(P:Program)(w:World)(H:Hp)(s:Shared)(Q:VK)(E:XK)(r:Result)(s':Shared):Prop:=
 match r with
 | .ok (.ret u)=>CE outer P w H s Q u s'
 | .ok _=>False
 | .error e=>CX outer H s E e s'
structure FnOk(P:Program)(w:World)(K:PySem.W.Frag)(mg:Str->Option Value)(base:Heap)(CX:CXT)(k:Nat)(f:Addr)(fd:FuncData)(ps:List Str)(sp:Sp):Prop where
 len:∀vs H Q E,sp vs H Q E->vs.length=ps.length
 run:∀(A:Around) (outer:List Env) (s:Shared) (H:Hp) (args:Args) (us:List Value) (vs:List V) (Q:VK) (E:XK),Room k A->Env0 P w K mg base A outer s H->BindsTo s fd args (ps.zip us)->Vals vs us->sp vs H Q E->
  codeAny (model P w) A (.call (.ref f) args) (CR CX outer P w H s Q E) s
theorem FnOk.imp{P:Program}{w:World}{K:PySem.W.Frag}{mg:Str->Option Value}{base:Heap}{CX:CXT}{k:Nat}{f:Addr}{fd:FuncData}{ps:List Str}{sp sp':Sp}(F:FnOk P w K mg base CX k f fd ps sp)
 (h:∀vs H Q E,sp' vs H Q E->sp vs H Q E):FnOk P w K mg base CX k f fd ps sp':=
 ⟨λvs H Q E q=>F.len vs H Q E (h _ _ _ _ q),λA outer s H args us vs Q E hr he hb hv hs=>F.run A outer s H args us vs Q E hr he hb hv (h _ _ _ _ hs)⟩
theorem Env0.make{P:Program}{w:World}{K:PySem.W.Frag}{mg:Str->Option Value}{base:Heap}{A:Around}{outer:List Env}{s:Shared}{H:Hp}(e:Env0 P w K mg base A outer s H)(C:Addr)(us:List Value)(kw:List (Str×Value)) :
 Env0 P w K mg base (A.under (.builtin "type.__call__" ⟨.ref C::us,kw⟩)) outer s H:=⟨by first | exact e.frames | (simpa [Around.under,Code.envs,Code.isFrame,pushEnvs] using e.frames),e.mod,e.bs,e.bsz,e.funs,e.frf,e.hok,e.bare⟩
section
variable{X:Cx}{pins:List (Addr×Obj)}{σ:St}{H:Hp}{s s':Shared}
theorem Inv.env0(I:Inv X pins σ H s):Env0 X.prog X.w X.K X.mg X.base X.A X.stack s H:=
 ⟨I.ok.frames,I.ok.mod,I.bs,Nat.le_trans I.ok.bsz I.sz,I.stack,I.stkFree,I.hok,I.bare⟩
theorem Inv.after{Q:VK}{u:Value}(I:Inv X pins σ H s)(h:CE X.stack X.prog X.w H s Q u s'):EP X pins σ Q u s':=by
 obtain⟨v,H',os,bare,un,hok,r,q⟩:=h
 obtain⟨hh,g,d,t,os'⟩:=s'
 obtain rfl:os'=s.os:=os
 exact⟨v,H',I.call (h':=hh) (g':=g) (d':=d) (t':=t) (ch:=[]) un hok bare (λb z=>absurd z (by simp)),r,q⟩
end
def be1(sp:Sp)(dvs:List V)(E:XK)(t:TA):TE:=λσ H Q=>t σ H λvs H1=>sp (vs++dvs) H1 Q E
def aU4(C:Addr)(m:Str)(sp:Sp)(dvs:List V)(E:XK)(ta:TE)(t:TA):TE:=λσ H Q=>ta σ H λx H1=>∃a dx fs,x=.ref a/\H1 a=some (.ins C dx fs)/\fs.lookup m=none/\
 t σ H1 λvs H2=>sp (x::(vs++dvs)) H2 Q E
def be2(C:Addr)(sp:Sp)(dvs:List V)(E:XK)(t:TA):TE:=λσ H Q=>t σ H λvs H1=>∀x dx,H1 x=none->H1 dx=none->dx≠x->
 sp (.ref x::(vs++dvs)) (upd (upd H1 dx (.own x)) x (.ins C dx [])) (λv H2=>v=.non/\Q (.ref x) H2) E
def Binds(K:PySem.W.Frag)(fd:FuncData)(ps:List Str)(ds:List Value):Prop:=
 ∀(s:Shared) (us:List Value),K.In s.heap->(us++ds).length=ps.length->BindsTo s fd ⟨us,[]⟩ (ps.zip (us++ds))
theorem Binds.all{K:PySem.W.Frag}{fd:FuncData}{ps:List Str}(h:∀us:List Value,us.length=ps.length->bindArgs fd ⟨us,[]⟩=pure (ps.zip us)):Binds K fd ps []:=λs us _ hl=>by
 rw [List.append_nil] at hl ⊢
 exact .of_eq (h us hl)
def r9(CX:CXT)(X:Cx)(E:XK):Prop:=∀(pins:List (Addr×Obj)) (σ:St) (H:Hp) (s:Shared) (e:Value) (s':Shared),Inv X pins σ H s->CX X.stack H s E e s'->X.xe e s'
section
variable{X:Cx}{CX:CXT}{k:Nat}{f C:Addr}{fd:FuncData}{ps:List Str}{sp:Sp}{dvs:List V}{ds:List Value}{E:XK}{x m:Str}{p pos apos:Pos}{e o:Expr}{es:List Expr}{ta:TE}{t:TA}
theorem aD3{pins:List (Addr×Obj)}{σ:St}{H:Hp}{s:Shared}{Q:VK}{us:List Value}{vs:List V}(F:FnOk X.prog X.w X.K X.mg X.base CX k f fd ps sp)(hr:Room k X.A)(hb:Binds X.K fd ps ds)(hd:Vals dvs ds)(hx:r9 CX X E)
 (I:Inv X pins σ H s) (r:Vals vs us) (h:sp (vs++dvs) H Q E):wpAny (model X.prog X.w) X.A (call (.ref f) us) (EP X pins σ Q) X.xe s:=by
 have r2:Vals (vs++dvs) (us++ds):=r.append hd
 have hl:(us++ds).length=ps.length:=by rw [←r2.length];exact F.len _ _ _ _ h
 refine wpAny_call (codeAny_mono (F.run X.A X.stack s H ⟨us,[]⟩ (us++ds) (vs++dvs) Q E hr I.env0 (hb s us I.kIn hl) r2 h) λr s' hq=>?_)
 cases r with
 | error e=>exact hx pins σ H s e s' I hq
 | ok fl=>
   cases fl with
   | ret u=>exact I.after hq
   | next=>exact False.elim hq
   | brk=>exact False.elim hq
   | cont=>exact False.elim hq
theorem a62(F:FnOk X.prog X.w X.K X.mg X.base CX k f fd ps sp)(hr:Room k X.A)(hg:Gl X x)(hm:X.mg x=some (.ref f))(hk:PySem.W.keepIn X.K (.ref f)=true)(hb:Binds X.K fd ps ds)(hd:Vals dvs ds)(hx:r9 CX X E)
 (ha:PA X (e::es) t) (hdb:(x == ("__debug__" : Str))=false:=by decide) (he:starEach (e::es) X.env=(false,eval e X.env)::starEach es X.env:=by rfl) (hpl:(backTo pos (starEach es X.env)).any (·.1)=false:=by rfl) :
 PE X (.Call (.Name x p) (e::es) [] pos) (be1 sp dvs E t):=by
 intro pins s σ H Q I h
 refine wpAny_Call_Name_kw (as1 I hg hm ?_ hdb)
 refine PySem.W.callWith_K (h₀:=X.base) I.ok.mod.kin hk (thn (ha pos pins s σ H _ I h) λus s1 ⟨vs,H1,I1,r,q⟩=>⟨I1.kIn,?_⟩) he hpl
 exact aD3 F hr hb hd hx I1 r q
theorem a63{pl:Sem Bool}(he:PE X o ta)(c:Cls X.K C)(hm:aN2 X.K C m f)(F:FnOk X.prog X.w X.K X.mg X.base CX k f fd ps sp)(hr:Room k X.A)(hb:Binds X.K fd ps ds)(hd:Vals dvs ds)(hx:r9 CX X E)(ha:PA X (e::es) t)
 (hst:starEach (e::es) X.env=(false,eval e X.env)::starEach es X.env:=by rfl) (hpl:(backTo pos (starEach es X.env)).any (·.1)=false:=by rfl)
 (ht:eval (.Call (.Attribute o m apos) (e::es) [] pos) X.env=(do
  let ov ←eval o X.env
  standAt apos.atName
  let (f,first) ←holding [ov] (getMethod ov m pl)
  callWith pos f first (backTo pos (starEach (e::es) X.env)) (backToKw pos (keywordEach [] X.env))):=by rfl) :
 PE X (.Call (.Attribute o m apos) (e::es) [] pos) (aU4 C m sp dvs E ta t):=by
 intro pins s σ H Q I h
 refine PySem.W.methodCall_KW (pl:=pl) (thn (he pins s σ H _ I h) λu s1 ⟨x,H1,I1,rx,a,dx,fs,ex,ea,l,q⟩=>?_) ht
 subst ex
 obtain rfl:u=Value.ref a:=rx
 refine af2 I1 ea c hm l ?_
 refine PySem.W.callWith_K (first:=[.ref a]) (h₀:=X.base) I.ok.mod.kin hm.kp (thn (ha pos pins s1 σ H1 _ I1 q) λus s2 ⟨vs,H2,I2,r,q2⟩=>⟨I2.kIn,?_⟩) hst hpl
 exact aD3 (us:=.ref a::us) (vs:=.ref a::vs) F hr hb hd hx I2 (.cons rfl r) q2
theorem aU5{pl:Sem Bool}(he:PE X o ta)(c:Cls X.K C)(hm:aN2 X.K C m f)(F:FnOk X.prog X.w X.K X.mg X.base CX k f fd ps sp)(hr:Room k X.A)(hb:Binds X.K fd ps ds)(hd:Vals dvs ds)(hx:r9 CX X E)
 (ht:eval (.Call (.Attribute o m apos) [] [] pos) X.env=(do
  let ov ←eval o X.env
  standAt apos.atName
  let (f,first) ←holding [ov] (getMethod ov m pl)
  callWith pos f first (backTo pos (starEach [] X.env)) (backToKw pos (keywordEach [] X.env))):=by rfl) :
 PE X (.Call (.Attribute o m apos) [] [] pos) (aU4 C m sp dvs E ta tNil):=by
 intro pins s σ H Q I h
 refine PySem.W.methodCall_KW (pl:=pl) (thn (he pins s σ H _ I h) λu s1 ⟨x,H1,I1,rx,a,dx,fs,ex,ea,l,q⟩=>?_) ht
 subst ex
 obtain rfl:u=Value.ref a:=rx
 refine af2 I1 ea c hm l ?_
 exact PySem.W.callWith_K0 (first:=[.ref a]) I1.kIn hm.kp (aD3 (us:=[.ref a]) (vs:=[.ref a]) F hr hb hd hx I1 (.cons rfl .nil) q)
structure Mk(K:PySem.W.Frag)(C f:Addr):Prop where
 makes:PySem.W.makesIn K C=true
 init:PySem.W.findIn K (.ref C) "__init__" = some (some (.ref f))
 fn:PySem.W.isFn K (.ref f)=true
 kp:PySem.W.keepIn K (.ref C)=true
theorem aU6{pins:List (Addr×Obj)}{σ:St}{H:Hp}{s:Shared}{Q:VK}{us:List Value}{vs:List V}(M:Mk X.K C f)(F:FnOk X.prog X.w X.K X.mg X.base CX k f fd ps sp)(hr:Room (k+1) X.A)(hb:Binds X.K fd ps ds)(hd:Vals dvs ds)
 (hx:r9 CX X E) (I:Inv X pins σ H s) (r:Vals vs us)
 (h:∀x dx,H x=none->H dx=none->dx≠x->sp (.ref x::(vs++dvs)) (upd (upd H dx (.own x)) x (.ins C dx [])) (λv H2=>v=.non/\Q (.ref x) H2) E) :
 wpAny (model X.prog X.w) X.A (call (.ref C) us) (EP X pins σ Q) X.xe s:=by
 have hq:=h (s.heap.objs.size+1) s.heap.objs.size (I.hok.fresh (Nat.le_succ _)) (I.hok.fresh (Nat.le_refl _)) (Nat.ne_of_lt (Nat.lt_succ_self _))
 have I2:=Inv.made (C:=C) I
 have r2:Vals (V.ref (s.heap.objs.size+1)::(vs++dvs)) (Value.ref (s.heap.objs.size+1)::(us++ds)):=.cons rfl (r.append hd)
 have hl:(Value.ref (s.heap.objs.size+1)::us++ds).length=ps.length:=by
  have e:=r2.length
  rw [F.len _ _ _ _ hq] at e
  exact e.symm
 refine wpAny_call (aU2 (f:=f) I.kIn M.makes M.init (beq_iff_eq.mp M.fn) (codeAny_mono (F.run _ X.stack _ _ ⟨Value.ref (s.heap.objs.size+1)::us,[]⟩ (Value.ref (s.heap.objs.size+1)::(us++ds)) _ _ E (hr.make C us [])
  (I2.env0.make C us []) (hb _ (Value.ref (s.heap.objs.size+1)::us) I2.kIn hl) r2 hq) λr s' hq'=>?_))
 cases r with
 | error e=>exact hx pins σ _ _ e s' I2 hq'
 | ok fl=>
   cases fl with
   | ret u=>
     obtain⟨v,H',I3,rv,ev,q3⟩:=I2.after hq'
     subst ev
     exact⟨rv,⟨V.ref (s.heap.objs.size+1),H',I3,rfl,q3⟩⟩
   | next=>exact False.elim hq'
   | brk=>exact False.elim hq'
   | cont=>exact False.elim hq'
theorem a64(M:Mk X.K C f)(F:FnOk X.prog X.w X.K X.mg X.base CX k f fd ps sp)(hr:Room (k+1) X.A)(hg:Gl X x)(hm:X.mg x=some (.ref C))(hb:Binds X.K fd ps ds)(hd:Vals dvs ds)(hx:r9 CX X E)
 (ha:PA X (e::es) t) (hdb:(x == ("__debug__" : Str))=false:=by decide) (he:starEach (e::es) X.env=(false,eval e X.env)::starEach es X.env:=by rfl) (hpl:(backTo pos (starEach es X.env)).any (·.1)=false:=by rfl) :
 PE X (.Call (.Name x p) (e::es) [] pos) (be2 C sp dvs E t):=by
 intro pins s σ H Q I h
 refine wpAny_Call_Name_kw (as1 I hg hm ?_ hdb)
 refine PySem.W.callWith_K (h₀:=X.base) I.ok.mod.kin M.kp (thn (ha pos pins s σ H _ I h) λus s1 ⟨vs,H1,I1,r,q⟩=>⟨I1.kIn,?_⟩) he hpl
 exact aU6 M F hr hb hd hx I1 r q
end
def PK(X:Cx)(kws:List Keyword)(t:TA):Prop:=
 ∀(pos:Pos) (pins:List (Addr×Obj)) (s:Shared) (σ:St) (H:Hp) (Q:List V->Hp->Prop),Inv X pins σ H s->t σ H Q->wpAny (model X.prog X.w) X.A (evalAll ((backToKw pos (keywordEach kws X.env)).map (·.2))) (AP X pins σ Q) X.xe s
section
variable{X:Cx}{CX:CXT}{k:Nat}{f C:Addr}{fd:FuncData}{ps ks:List Str}{sp:Sp}{E:XK}{x m:Str}{p pos apos kpos:Pos}{e o:Expr}{es:List Expr}{kws:List Keyword}{te ta:TE}{t tk:TA}{nm:Option Str}
theorem bj2:PK X [] tNil:=λ_ _ _ _ H Q I h=>wpAny_evalAll_nil ⟨[],H,I,.nil,h⟩
theorem a65(ha:PE X e te)(hr:PK X kws t):PK X (⟨nm,e,kpos⟩::kws) (aU3 te t):=by
 intro pos pins s σ H Q I h
 show wpAny _ _ (evalAll ((do let v ←eval e X.env;standAt pos;pure v)::(backToKw pos (keywordEach kws X.env)).map (·.2))) _ _ s
 refine wpAny_evalAll_cons (wpAny_bind (thn (ha pins s σ H _ I h) λu s1 ⟨x,H1,I1,r1,q1⟩=>wpAny_bind (wpAny_standAt (wpAny_pure ?_))))
 exact thn (hr pos pins s1 σ H1 _ I1 q1) λus s2 ⟨xs,H2,I2,r2,q2⟩=>⟨x::xs,H2,I2,.cons r1 r2,q2⟩
variable{g:List Value->List Value->List Value}{gV:List V->List V->List V}
end
structure C7(N P:List Str)(sc:Scope):Prop where
 kind:sc.kind=.function
 co:sc.isCoroutine=false
 gen:sc.isGenerator=false
 nd:N.Nodup
 pre:N.take P.length=P
 par:∀x∈P,sc.names.lookup x=some .local\/sc.names.lookup x=some .cell
 nofree:∀y∈sc.names,y.2≠.free
theorem ao6{kindOf:Str->Option NameKind}{x:Str}:∀{binds:List (Str×Value)} {m:Str->Option Value},(∀v,(x,v)∉binds)->bindL kindOf binds m x=m x
 | [],_,_=>rfl
 | (n,v)::r,m,h=>by
   unfold bindL
   rw [ao6 λw hw=>h w (List.mem_cons_of_mem _ hw)]
   split
   ·have:x≠n:=by rintro rfl;exact h v List.mem_cons_self
    simp [this]
   ·rfl
theorem ao7{kindOf:Str->Option NameKind}{x:Str}:∀{binds:List (Str×Value)} {m:Str->Option Value},(∀v,(x,v)∉binds)->bindC kindOf binds m x=m x
 | [],_,_=>rfl
 | (n,v)::r,m,h=>by
   unfold bindC
   rw [ao7 λw hw=>h w (List.mem_cons_of_mem _ hw)]
   split
   ·rfl
   ·have:x≠n:=by rintro rfl;exact h v List.mem_cons_self
    simp [this]
theorem ao8{kindOf:Str->Option NameKind}{x:Str}{v:Value}:∀{P:List Str} {vs:List Value} {i:Nat} {m:Str->Option Value},P.Nodup->P[i]?=some x->vs[i]?=some v->kindOf x=some .local->
 bindL kindOf (P.zip vs) m x=some v
 | [],_,_,_,_,h,_,_=>by simp at h
 | _::_,[],_,_,_,_,h,_=>by simp at h
 | p::P,w::vs,0,m,nd,h1,h2,hk=>by
   simp at h1 h2;subst h1;subst h2
   show bindL kindOf ((p,w)::P.zip vs) m p=_
   unfold bindL
   rw [ao6 λv hv=>(List.nodup_cons.mp nd).1 (List.of_mem_zip hv).1,if_pos hk]
   simp
 | p::P,w::vs,i+1,m,nd,h1,h2,hk=>by
   show bindL kindOf ((p,w)::P.zip vs) m x=_
   unfold bindL
   exact ao8 (i:=i) (List.nodup_cons.mp nd).2 (by simpa using h1) (by simpa using h2) hk
theorem ao9{kindOf:Str->Option NameKind}{x:Str}{v:Value}:∀{P:List Str} {vs:List Value} {i:Nat} {m:Str->Option Value},P.Nodup->P[i]?=some x->vs[i]?=some v->kindOf x≠some .local->
 bindC kindOf (P.zip vs) m x=some v
 | [],_,_,_,_,h,_,_=>by simp at h
 | _::_,[],_,_,_,_,h,_=>by simp at h
 | p::P,w::vs,0,m,nd,h1,h2,hk=>by
   simp at h1 h2;subst h1;subst h2
   show bindC kindOf ((p,w)::P.zip vs) m p=_
   unfold bindC
   rw [ao7 λv hv=>(List.nodup_cons.mp nd).1 (List.of_mem_zip hv).1,if_neg hk]
   simp
 | p::P,w::vs,i+1,m,nd,h1,h2,hk=>by
   show bindC kindOf ((p,w)::P.zip vs) m x=_
   unfold bindC
   exact ao9 (i:=i) (List.nodup_cons.mp nd).2 (by simpa using h1) (by simpa using h2) hk
def start(N:List Str)(vs:List V):St:=vs.map some++List.replicate (N.length - vs.length) none
def an3(CX:CXT)(P:Program)(w:World)(K:PySem.W.Frag)(mg:Str->Option Value)(base:Heap)(N:List Str)(qual:Str)(scope:Scope)(f:Addr)(cd:Value)(A:Around)(outer:List Env)(s:Shared)(H:Hp)(E:XK):Cx where
 prog:=P
 w:=w
 K:=K
 mg:=mg
 base:=base
 A:=A.deeper (envOfC qual scope s.heap.objs.size f cd)
 N:=N
 s₀:=s
 H₀:=H
 env:=envOfC qual scope s.heap.objs.size f cd
 outer:=outer
 stack:=envOfC qual scope s.heap.objs.size f cd::outer
 ex:=[]
 calm:=true
 fn:=λ_=>true
 pn:=[]
 xe:=λe s'=>wpAny (model P w) (A.deeper (envOfC qual scope s.heap.objs.size f cd)) (leaving (envOfC qual scope s.heap.objs.size f cd) e) (λ_ s''=>CX outer H s E e s'') (λe' s''=>CX outer H s E e' s'') s'
theorem ax2{sc:Scope}{n:Nat}{x:Str}(h:sc.names.lookup x=some .cell):∃c,(cellsFrom n sc.names []).lookup x=some c:=by
 have q:=PySem.W.cellsFrom_some sc.names n [] (.inl h)
 exact Option.isSome_iff_exists.mp q
theorem aN3{CX:CXT}{P:Program}{w:World}{K:PySem.W.Frag}{mg:Str->Option Value}{base:Heap}{N ps:List Str}{qual:Str}{scope:Scope}{f:Addr}{cd:Value}{A:Around}{outer:List Env}{s s1:Shared}{H:Hp}{E:XK}{us:List Value}{vs:List V}
 (S:C7 N ps scope) (hd:A.handled=none) (e0:Env0 P w K mg base A outer s H) (hl:vs.length=ps.length) (r:Vals vs us)
 (x:InCallC s s.heap.objs.size (bindL (envOfC qual scope s.heap.objs.size f cd).kindOf (ps.zip us) λ_=>none) (cellsFrom (s.heap.objs.size+1) scope.names []) (bindC (envOfC qual scope s.heap.objs.size f cd).kindOf (ps.zip us) λ_=>none) s1) :
 Inv (an3 CX P w K mg base N qual scope f cd A outer s H E) [] (start N vs) H s1:=by
 have hpl:ps.length<=N.length:=by have:=congrArg List.length S.pre;rw [List.length_take] at this;omega
 obtain⟨h1,tk,rfl,hk⟩:=x.done
 have noA:∀b:Addr,b∉(an3 CX P w K mg base N qual scope f cd A outer s H E).ex:=λb z=>absurd (show b∈([]:List Addr) from z) (by simp)
 refine⟨⟨e0.mod,S.kind,rfl,rfl,Nat.le_refl _,λy z c h1 h2=>?_,λy hy=>?_,λy c _ h=>?_,λ_=>hd,Around.frames_deeper e0.frames,.inr ⟨rfl,rfl⟩,λb z=>absurd z (noA b),e0.bs,e0.bsz,λb _ _=>noA b,λb z=>absurd z (noA b),e0.funs,e0.frf⟩,
  rfl,e0.bare,Un.kept hk,⟨_,x.toInCall.ns,λi y v h1 h2 h3=>?_⟩,λy c h=>⟨_,x.cell y c h⟩,e0.hok.fresh (Nat.le_refl _),λy c h=>?_,λp hp=>absurd (show p∈([]:List (Addr×Obj)) from hp) (by simp),e0.hok.kept hk,?_⟩
 ·exact name_of_addr x.apart (PySem.mem_of_lookup h1) (PySem.mem_of_lookup h2)
 ·have hy:scope.names.lookup y=some .cell\/scope.names.lookup y=some .free:=hy
  rcases hy with hy | hy
  ·exact ax2 hy
  ·exact absurd rfl (S.nofree _ (PySem.mem_of_lookup hy))
 ·exact Nat.le_of_lt (x.above y c (PySem.mem_of_lookup h))
 ·have hi:i<vs.length:=by
   unfold start at h2
   by_cases hi:i<vs.length
   ·exact hi
   ·rw [List.getElem?_append_right (by simpa using hi)] at h2
    rw [List.getElem?_replicate] at h2
    split at h2 <;> cases h2
  have ha:vs[i]?=some v:=by
   unfold start at h2
   rw [List.getElem?_append_left (by simpa using hi),List.getElem?_map] at h2
   cases e:vs[i]? with
   | none=>rw [e] at h2;cases h2
   | some a=>rw [e] at h2;cases h2;rfl
  obtain⟨u,hu,rv⟩:=r.get ha
  have hp:ps[i]?=some y:=by
   rw [←S.pre,List.getElem?_take_of_lt (by omega)];exact h1
  have ndP:ps.Nodup:=by rw [←S.pre];exact S.nd.sublist (List.take_sublist _ _)
  refine⟨u,rv,?_⟩
  rcases S.par y (List.mem_of_getElem? hp) with k | k
  ·exact .inl ⟨k,ao8 ndP hp hu k⟩
  ·obtain⟨c,e⟩:=ax2 (n:=s.heap.objs.size+1) k
   refine .inr ⟨.inl k,c,e,?_⟩
   have q:=x.cell y c e
   rw [ao9 ndP hp hu (by show scope.names.lookup y≠_;rw [k];decide)] at q
   exact q
 ·exact e0.hok.fresh (Nat.le_of_lt (x.above y c (PySem.mem_of_lookup h)))
 ·unfold start
  show _=N.length
  rw [List.length_append,List.length_map,List.length_replicate]
  omega
theorem be3{CX:CXT}{P:Program}{w:World}{K:PySem.W.Frag}{mg:Str->Option Value}{base:Heap}{k:Nat}{f:Addr}{name qual:Str}{params:Arguments}{body:List Stmt}{scope:Scope}{dV kV doc pm cdv ct oc:Value}{an od:Option Addr}
 {osl:Array (Option Value)} {N ps:List Str} {sp:Sp} (lk:K.lookup f=some ⟨oc,od,.func (PySem.W.fnOf name qual params body scope dV kV doc pm an cdv ct),osl⟩) (hcd:PySem.W.codeIn K cdv qual=true) (S:C7 N ps scope)
 (len:∀vs H Q E,sp vs H Q E->vs.length=ps.length)
 (hbody:∀(A:Around) (outer:List Env) (s:Shared) (H:Hp) (vs:List V) (Q:VK) (E:XK),Room k (A.deeper (envOfC qual scope s.heap.objs.size f cdv))->sp vs H Q E->
  ∃t,PSs (an3 CX P w K mg base N qual scope f cdv A outer s H E) body t/\t { nx:=λ_ H'=>Q .non H',rt:=Q } (start N vs) H) :
 FnOk P w K mg base CX (k+1) f (PySem.W.fnOf name qual params body scope dV kV doc pm an cdv ct) ps sp:=by
 refine⟨len,λA outer s H args us vs Q E hr e0 hb r hsp=>?_⟩
 have hl:=len _ _ _ _ hsp
 have KX:K.In s.heap:=e0.mod.kin.keeps λb o e=>(e0.bs b o e).1
 have lim:s.heap.NoLimit:=e0.mod.nolimit.keeps λb o e=>(e0.bs b o e).1
 have hkind:∀y∈ps.zip us,scope.names.lookup y.1=some .local\/(scope.names.lookup y.1=some .cell/\((cellsFrom (s.heap.objs.size+1) scope.names []).lookup y.1).isSome=true):=λ⟨n,v⟩ hy=>by
  rcases S.par n (List.of_mem_zip hy).1 with q | q
  ·exact .inl q
  ·exact .inr ⟨q,PySem.W.cellsFrom_some _ _ _ (.inl q)⟩
 refine codeAny_call_function hr.depth (KX _ _ lk) rfl S.co S.gen rfl (PySem.W.codeRec_of KX hcd) (hb _ _ _ _ ?_)
 refine wpAny_newFunctionEnv_cells S.kind hkind λenv he s1 x=>?_
 subst he
 refine⟨lim.keeps x.toInCall.keep,codeAny_func ?_⟩
 obtain⟨t,ht,hq⟩:=hbody A outer s H vs Q E (hr.deeper _) hsp
 have I:Inv (an3 CX P w K mg base N qual scope f cdv A outer s H E) [] (start N vs) H s1:=aN3 S hr.hd e0 hl r x
 refine wpAny_mono (ht [] s1 (start N vs) H _ I hq) (λfl s' hs=>?_) λe s' hs=>hs
 have fin:∀{σ':St} {H':Hp} {v:V} {u:Value},Inv (an3 CX P w K mg base N qual scope f cdv A outer s H E) [] σ' H' s'->RelV v u->Q v H'->CE outer P w H s Q u s':=
  λ{σ' H' v u} J rv q=>⟨v,H',J.os,J.bare,J.base,J.hok,rv,q⟩
 cases fl with
 | ret u=>
   obtain⟨v,σ',H',J,rv,q⟩:=hs
   exact fin J rv q
 | next=>
   obtain⟨σ',H',J,q⟩:=hs
   exact fin (v:=V.non) (u:=Value.none) J rfl q
 | brk=>
   obtain⟨_,_,_,q⟩:=hs
   exact False.elim q
 | cont=>
   obtain⟨_,_,_,q⟩:=hs
   exact False.elim q
section
variable{X:Cx}{x:Str}{p pos:Pos}{e:Expr}{es:List Expr}{t:TA}{id T:String}{r:List V->Hp->VK->Prop}
def tCB(r:List V->Hp->VK->Prop)(t:TA):TE:=λσ H Q=>t σ H λvs H1=>r vs H1 Q
theorem S4(hc:CallR X (.builtin id) r)(hg:Gl X x)(hm:X.mg x=none)(hv:bootBuiltins x=some (.builtin id))(ha:PA X (e::es) t)(hn:x≠"__name__":=by decide)(hdb:(x == ("__debug__" : Str))=false:=by decide)
 (he:starEach (e::es) X.env=(false,eval e X.env)::starEach es X.env:=by rfl) (hpl:(backTo pos (starEach es X.env)).any (·.1)=false:=by rfl):PE X (.Call (.Name x p) (e::es) [] pos) (tCB r t):=by
 intro pins s σ H Q I h
 refine wpAny_Call_Name_kw (U1 I hg hm hv ?_ hn hdb)
 exact PyProof.Rows.callWith_builtin1 (thn (ha pos pins s σ H _ I h) λus s1 ⟨vs,H1,I1,r1,q1⟩=>hc pins s1 σ H1 vs us Q I1 r1 q1) he hpl
theorem m6(hc:CallR X (.type T) r)(hg:Gl X x)(hm:X.mg x=none)(hv:bootBuiltins x=some (.type T))(ha:PA X (e::es) t)(hn:x≠"__name__":=by decide)(hdb:(x == ("__debug__" : Str))=false:=by decide)
 (he:starEach (e::es) X.env=(false,eval e X.env)::starEach es X.env:=by rfl) (hpl:(backTo pos (starEach es X.env)).any (·.1)=false:=by rfl):PE X (.Call (.Name x p) (e::es) [] pos) (tCB r t):=by
 intro pins s σ H Q I h
 refine wpAny_Call_Name_kw (U1 I hg hm hv ?_ hn hdb)
 exact PyProof.Rows.callWith_type1 (thn (ha pos pins s σ H _ I h) λus s1 ⟨vs,H1,I1,r1,q1⟩=>hc pins s1 σ H1 vs us Q I1 r1 q1) he hpl
end
end L2
namespace HT
open PySem PyProof.Rows
section
variable{prog:Program}{w:World}{A:Around}{E:Value->Shared->Prop}{s:Shared}
theorem cat_tup{t b:Addr}{vs ws:List Value}{Q:Value->Shared->Prop}(ht:IsTup s.heap t vs.toArray)(hb:IsTup s.heap b ws.toArray)(hv:vs≠[])
 (h1:ws=[]->Q (.ref t) s) (h2:ws≠[]->Q (.ref s.heap.objs.size) { s with heap:=s.heap.push { cls:=.type "tuple",data:=.seq (vs++ws).toArray } })
 (hsz:vs.length+ws.length<=sizeLine):wpAny (model prog w) A (binaryOp .Add (.ref t) (.ref b)) Q E s:=by
 obtain⟨⟨cls,dd,data,sl⟩,ho,hc,n,hd⟩:=id ht
 obtain⟨⟨cls2,dd2,data2,sl2⟩,ho2,hc2,n2,hd2⟩:=id hb
 simp only at hc hd hc2 hd2
 subst hc hd hc2 hd2
 have e:vs.toArray++ws.toArray=(vs++ws).toArray:=by simp
 by_cases hw:ws=[]
 ·exact concat_meets ⟨_,ho,rfl⟩ ⟨_,ho2,rfl⟩ noFill_tuple_add seq_tuple_add PySem.F.slot_tuple_add PySem.F.entry_tuple_add (PySem.F.args_tuple_add_2 _ _)
   (tuple_addW1 t b vs.toArray ws.toArray n n2 dd dd2 sl sl2 (by simpa using hv) (by simp [hw])) ⟨ho,ho2,h1 hw⟩
 ·refine concat_meets ⟨_,ho,rfl⟩ ⟨_,ho2,rfl⟩ noFill_tuple_add seq_tuple_add PySem.F.slot_tuple_add PySem.F.entry_tuple_add (PySem.F.args_tuple_add_2 _ _)
   (tuple_addW2 t b vs.toArray ws.toArray n n2 dd dd2 sl sl2 (by simpa using hv) (by simpa using hw) (by rw [List.size_toArray,List.size_toArray];exact hsz)) ⟨ho,ho2,?_⟩
  rw [e]
  exact h2 hw
def sIx(n d:Nat):Option Int->Nat
 | none=>d
 | some v=>if v<0 then (v+(n:Int)).toNat else min v.toNat n
theorem bj3(n d:Nat)(hd:d<=n)(o:Option Int):sIx n d o<=n:=by
 cases o with
 | none=>exact hd
 | some v=>
   show (if v<0 then (v+(n:Int)).toNat else min v.toNat n)<=n
   by_cases hv:v<0
   ·rw [if_pos hv];omega
   ·rw [if_neg hv];exact Nat.min_le_right _ _
theorem clip_eq(v:Int)(n d:Nat):(if v<0 then max (v+(n:Int)) 0 else min v (n:Int))=((sIx n d (some v):Nat):Int):=by
 show (if v<0 then max (v+(n:Int)) 0 else min v (n:Int))=(((if v<0 then (v+(n:Int)).toNat else min v.toNat n):Nat):Int)
 by_cases hv:v<0
 ·simp only [if_pos hv];omega
 ·simp only [if_neg hv];omega
theorem aD4(lo hi:Option Int)(n:Nat):Builtin.Slice.sliceAdjust lo hi 1 (n:Int)=(((sIx n 0 lo:Nat):Int),((sIx n n hi:Nat):Int)):=by
 have h1:¬((1:Int)<0):=by omega
 unfold Builtin.Slice.sliceAdjust
 simp only [h1,if_false]
 refine Prod.ext ?_ ?_
 ·cases lo with
  | none=>rfl
  | some v=>exact clip_eq v n 0
 ·cases hi with
  | none=>rfl
  | some v=>exact clip_eq v n n
theorem aD5(i j:Nat):Builtin.Slice.slicePlaces (i:Int) (j:Int) 1=j - i:=by
 unfold Builtin.Slice.slicePlaces
 have h1:(1:Int) > 0:=by omega
 simp only [h1,if_true,Int.ediv_one]
 split <;> omega
theorem af3{v:Value}{o:Option Int}{Q:Option Int->Shared->Prop}(p:IsPart v o)(h:Q o s):wpAny (model prog w) A (Builtin.Slice.slicePartIndex v) Q E s:=by
 cases p with
 | none=>exact slicePart_none h
 | int i t=>exact slicePart_int h
theorem aa2{sl:Addr}{vl vu:Value}{lo hi:Option Int}{n:Nat}{Q:Int×Int×Nat->Shared->Prop}(hs:s.heap.IsSliceOf sl vl vu .none)(pl:IsPart vl lo)(pu:IsPart vu hi)
 (h:Q (((sIx n 0 lo:Nat):Int),1,sIx n n hi - sIx n 0 lo) s):wpAny (model prog w) A (Builtin.Slice.sliceApplied (.ref sl) (pure (n:Int))) Q E s:=by
 obtain⟨os,hos,hcs,hds⟩:=id hs
 unfold Builtin.Slice.sliceApplied Builtin.Slice.sliceFields
 refine wpAny_bind (wpAny_bind (wpAny_field hos hds (x:=vl) rfl (wpAny_bind (wpAny_field hos hds (x:=vu) rfl (wpAny_bind (wpAny_field hos hds (x:=.none) rfl (wpAny_pure ?_)))))))
 refine wpAny_bind (slicePart_none ?_)
 show wpAny _ _ (if ((1:Int) == 0)=true then _ else _) _ _ s
 rw [if_neg (by decide)]
 refine wpAny_bind (af3 pl (wpAny_bind (af3 pu (wpAny_bind (wpAny_pure ?_)))))
 show wpAny _ _ (match Builtin.Slice.sliceAdjust lo hi 1 (n:Int) with | (lo,hi)=>pure (lo,(1:Int),Builtin.Slice.slicePlaces lo hi 1)) _ _ s
 rw [aD4 lo hi n]
 show wpAny _ _ (pure (((sIx n 0 lo:Nat):Int),(1:Int),Builtin.Slice.slicePlaces ((sIx n 0 lo:Nat):Int) ((sIx n n hi:Nat):Int) 1)) _ _ s
 rw [aD5]
 exact wpAny_pure h
theorem aU7(xs:Array Value)(i k:Nat):((List.range k).filterMap λ(m:Nat)=>xs[((i:Int)+(m:Int)*1).toNat]?).toArray=((xs.toList.drop i).take k).toArray:=by
 have e:(λ(m:Nat)=>xs[((i:Int)+(m:Int)*1).toNat]?)=λm=>xs[i+m]?:=by
  funext m
  have:((i:Int)+(m:Int)*1).toNat=i+m:=by omega
  rw [this]
 rw [e]
 have:=pick_run xs i k
 rw [List.filterMap_map] at this
 have e2:((λx=>xs[x]?) ∘ λx=>i+x)=λm=>xs[i+m]?:=rfl
 rw [e2] at this
 rw [this]
theorem getItem_tuple_cut{t sl:Addr}{items:Array Value}{vl vu:Value}{lo hi:Option Int}{Q:Value->Shared->Prop}(ht:IsTup s.heap t items)(hs:s.heap.IsSliceOf sl vl vu .none)(pl:IsPart vl lo)(pu:IsPart vu hi)
 (hw:¬(sIx items.size 0 lo=0/\sIx items.size items.size hi=items.size))
 (h:Q (.ref s.heap.objs.size) { s with heap:=s.heap.push { cls:=.type "tuple",data:=.seq ((items.toList.drop (sIx items.size 0 lo)).take (sIx items.size items.size hi - sIx items.size 0 lo)).toArray } })
 (hsz:items.size<=sizeLine):wpAny (model prog w) A (getItem (.ref t) (.ref sl)) Q E s:=by
 have htake:sizeOk (.seq ((items.toList.drop (sIx items.size 0 lo)).take (sIx items.size items.size hi - sIx items.size 0 lo)).toArray):=by
  show ((items.toList.drop (sIx items.size 0 lo)).take (sIx items.size items.size hi - sIx items.size 0 lo)).toArray.size<=sizeLine
  rw [List.size_toArray,List.length_take,List.length_drop,Array.length_toList]
  omega
 have hj:sIx items.size items.size hi<=items.size:=bj3 _ _ (Nat.le_refl _) hi
 obtain⟨os,hos,hcs,hds⟩:=id hs
 have hTs:s.TypeIs (.ref sl) "slice":=⟨os,hos,hcs⟩
 unfold getItem
 try with_reducible refine wpAny_holding ?_
 first | refine wpAny_bind (wpAny_pure ?_) | skip
 refine wpAny_bind (wpAny_sequenceKey ht.typeIs (by decide) ?_)
 refine wpAny_bind (wpAny_callSpecial?_slot (name:=Str.ofString "__getitem__") ht.typeIs PyProof.Rows.slot_tuple_getitem
  (wpAny_call_entry PyProof.Rows.slot_tuple_getitem ht.typeIs entry_tuple_getitem ?_ (args_tuple_getitem _ _)))
 show wpAny _ _ (Builtin.Tuple.tupleItemsOf (.ref t)>>=_) _ _ s
 refine wpAny_bind (tupleItemsOf_ ht ?_)
 refine wpAny_bind (wpAny_typeOf hTs ?_)
 rw [if_pos (by decide)]
 refine wpAny_bind (aa2 hs pl pu ?_)
 have hno:¬((((sIx items.size 0 lo:Nat):Int) == 0&&(1:Int) == 1&&(sIx items.size items.size hi - sIx items.size 0 lo) == items.size)=true):=by
  intro q
  rw [Bool.and_eq_true,Bool.and_eq_true] at q
  have q1:((sIx items.size 0 lo:Nat):Int)=0:=eq_of_beq q.1.1
  have q2:sIx items.size items.size hi - sIx items.size 0 lo=items.size:=eq_of_beq q.2
  exact hw ⟨by omega,by omega⟩
 show wpAny _ _ (if (((sIx items.size 0 lo:Nat):Int) == 0&&(1:Int) == 1&&(sIx items.size items.size hi - sIx items.size 0 lo) == items.size)=true then _ else _) _ _ s
 rw [if_neg hno,aU7]
 first
  | exact wpAny_bind (m:=Builtin.Tuple.tupleExact _) (wpAny_newObj_type (wpAny_pure ⟨_,rfl,wpAny_pure h⟩) htake)
  | exact wpAny_bind (m:=Builtin.Tuple.tupleExact _) (wpAny_newObj_type (wpAny_bind (wpAny_pure (wpAny_pure ⟨_,rfl,wpAny_pure h⟩))) htake)
  | exact wpAny_bind (wpAny_bind (m:=Builtin.Tuple.tupleExact _) (wpAny_newObj_type (wpAny_pure (wpAny_pure ⟨_,rfl,wpAny_pure h⟩)) htake))
  | exact wpAny_bind (wpAny_bind (m:=Builtin.Tuple.tupleExact _) (wpAny_newObj_type (wpAny_pure ⟨_,rfl,wpAny_pure h⟩) htake))
end
end HT
namespace L2
open PySem PySem.Spec PyProof.Rows
abbrev TO:=St->Hp->(Option Int->Hp->Prop)->Prop
def PO(X:Cx)(e:Option Expr)(t:TO):Prop:=
 ∀(pins:List (Addr×Obj)) (s:Shared) (σ:St) (H:Hp) (Q:Option Int->Hp->Prop),Inv X pins σ H s->t σ H Q->
  wpAny (model X.prog X.w) X.A (evalPart e X.env) (λu s'=>∃o H',Inv X pins σ H' s'/\IsPart u o/\Q o H') X.xe s
def tNoPart:TO:=λ_ H Q=>Q none H
def bq6(t:TE):TO:=λσ H Q=>t σ H λx H1=>∃i,x=.int i/\Q (some i) H1
theorem P6{ns:List Int}:∀{us:List Value},Vals (ns.map V.int) us->IntsAre us ns:=by
 induction ns with
 | nil=>intro us r;rw [List.map_nil] at r;cases r;exact .nil
 | cons n ns ih=>
   intro us r
   rw [List.map_cons] at r
   cases r with
   | cons r1 r2=>
     obtain⟨t,e⟩:=r1
     subst e
     exact .cons n t (ih r2)
section
variable{X:Cx}{e:Expr}{te:TE}{lo hi:Option Expr}{tl th:TO}{pos p2:Pos}
theorem a66:PO X none tNoPart:=by
 intro pins s σ H Q I h
 rw [evalPart_none]
 exact wpAny_pure ⟨none,H,I,.none,h⟩
theorem a67(h:PE X e te):PO X (some e) (bq6 te):=by
 intro pins s σ H Q I hw
 rw [evalPart_some]
 refine thn (h pins s σ H _ I hw) λu s1 ⟨x,H1,I1,r1,q1⟩=>?_
 obtain⟨i,rfl,q⟩:=q1
 obtain⟨t,rfl⟩:=r1
 exact⟨some i,H1,I1,.int i t,q⟩
def SlR(X:Cx)(r:V->Option Int->Option Int->Hp->VK->Prop):Prop:=
 ∀(pins:List (Addr×Obj)) (s:Shared) (σ:St) (H:Hp) (x:V) (v vl vu:Value) (lo hi:Option Int) (sl:Addr) (Q:VK),Inv X pins σ H s->RelV x v->s.heap.IsSliceOf sl vl vu .none->IsPart vl lo->IsPart vu hi->r x lo hi H Q->
  ∃T id,typeLookup (.type T) "__getitem__" = pure (some (.builtin id))/\s.TypeIs v T/\wpAny (model X.prog X.w) X.A (getItem v (.ref sl)) (EP X pins σ Q) X.xe s
theorem SlR.or{r r':V->Option Int->Option Int->Hp->VK->Prop}(h:SlR X r)(h':SlR X r'):SlR X (λx lo hi H Q=>r x lo hi H Q\/r' x lo hi H Q):=by
 intro pins s σ H x v vl vu lo hi sl Q I rx hs pl pu q
 rcases q with q | q
 ·exact h pins s σ H x v vl vu lo hi sl Q I rx hs pl pu q
 ·exact h' pins s σ H x v vl vu lo hi sl Q I rx hs pl pu q
def tSl(r:V->Option Int->Option Int->Hp->VK->Prop)(te:TE)(tl th:TO):TE:=λσ H Q=>te σ H λx H1=>tl σ H1 λl H2=>th σ H2 λu H3=>r x l u H3 Q
theorem aU8{r:V->Option Int->Option Int->Hp->VK->Prop}(hr:SlR X r)(he:PE X e te)(hl:PO X lo tl)(hu:PO X hi th):PE X (.Subscript e (.Slice lo hi none p2) pos) (tSl r te tl th):=by
 intro pins s σ H Q I h
 refine Subscript_ (thn (he pins s σ H _ I h) λv s1 ⟨x,H1,I1,r1,q1⟩=>?_)
 refine wpAny_Slice (thn (hl pins s1 σ H1 _ I1 q1) λvl s2 ⟨l,H2,I2,pl,q2⟩=>thn (hu pins s2 σ H2 _ I2 q2) λvu s3 ⟨u,H3,I3,pu,q3⟩=>?_)
 rw [evalPart_none]
 refine wpAny_pure ?_
 have I4:Inv X pins σ H3 { s3 with heap:=s3.heap.push { cls:=.type "slice",data:=.fields #[vl,vu,.none] } }:=I3.kept (t':=s3.toks) λb ob q=>Heap.get?_push_of_some _ q
 obtain⟨T,id,hT,ht,hg⟩:=hr pins { s3 with heap:=s3.heap.push { cls:=.type "slice",data:=.fields #[vl,vu,.none] } } σ H3 x v vl vu l u s3.heap.objs.size Q I4 r1 (Heap.IsSliceOf.new ..) pl pu q3
 show wpAny (model X.prog X.w) X.A (subscriptTail e (.Slice lo hi none p2) v (.ref s3.heap.objs.size)) (EP X pins σ Q) X.xe { s3 with heap:=s3.heap.push { cls:=.type "slice",data:=.fields #[vl,vu,.none] } }
 exact tail_any (ops:=[.ref s3.heap.objs.size,v]) ht hT hg (by with_unfolding_all rfl)
def as4(xs:List V)(lo hi:Option Int):List V:=(xs.drop (HT.sIx xs.length 0 lo)).take (HT.sIx xs.length xs.length hi - HT.sIx xs.length 0 lo)
theorem ac9(xs:List V)(lo hi:Option Int):(as4 xs lo hi).length<=xs.length:=by
 unfold as4
 rw [List.length_take,List.length_drop]
 omega
def bw0(K:PySem.W.Frag):V->Option Int->Option Int->Hp->VK->Prop:=λx lo hi H Q=>∃a xs,x=.ref a/\SqT K H a xs/\
 ¬(HT.sIx xs.length 0 lo=0/\HT.sIx xs.length xs.length hi=xs.length)/\∀p,H p=none->Q (.ref p) (upd H p (.tup (as4 xs lo hi)))
theorem bj4:SlR X (bw0 X.K):=by
 intro pins s σ H x v vl vu lo hi sl Q I rx hs pl pu h
 obtain⟨a,xs,rfl,hx,hw,q⟩:=h
 cases rx
 obtain⟨its,r,ht,hz⟩:=I.tuple hx
 have hlen:its.toArray.size=xs.length:=by rw [List.size_toArray];exact r.length.symm
 refine⟨"tuple",_,PyProof.Rows.slot_tuple_getitem.lookup,ht.typeIs,?_⟩
 refine HT.getItem_tuple_cut ht hs pl pu (by rw [hlen];exact hw) ?_ (by rw [hlen];exact hz)
 rw [hlen]
 refine⟨.ref s.heap.objs.size,_,I.laid (t':=s.toks) (o:=.tup (as4 xs lo hi)) (λb ob q=>Heap.get?_push_of_some _ q) (Nat.le_refl _) ?_,rfl,q _ (I.hok.fresh (Nat.le_refl _))⟩
 exact⟨Nat.le_trans (ac9 xs lo hi) hz,_,(r.drop (HT.sIx xs.length 0 lo)).take (HT.sIx xs.length xs.length hi - HT.sIx xs.length 0 lo),IsTup.new _ _⟩
def be4(K:PySem.W.Frag):R2:=λx y H Q=>∃a b xs ys,x=.ref a/\y=.ref b/\SqT K H a xs/\SqT K H b ys/\xs≠[]/\xs.length+ys.length<=sizeLine/\
 (ys=[]->Q (.ref a) H)/\(ys≠[]->∀p,H p=none->Q (.ref p) (upd H p (.tup (xs++ys))))
theorem Vals.nil_iff{xs:List V}{us:List Value}(r:Vals xs us):us=[]↔xs=[]:=by
 cases r with
 | nil=>simp
 | cons _ _=>simp
theorem op_catT:OpR X (binaryOp .Add) (be4 X.K):=by
 intro pins s σ H x y v u Q I rx ry h
 obtain⟨a,b,xs,ys,rfl,rfl,ha,hb,hx,hz,q1,q2⟩:=h
 cases rx
 cases ry
 obtain⟨its,r1,p1,_⟩:=I.tuple ha
 obtain⟨its2,r2,p2,_⟩:=I.tuple hb
 refine HT.cat_tup p1 p2 (λz=>hx (r1.nil_iff.mp z)) (λz=>⟨.ref a,H,I,rfl,q1 (r2.nil_iff.mp z)⟩) (λz=>?_) (by rw [←r1.length,←r2.length];exact hz)
 refine⟨.ref s.heap.objs.size,_,I.laid (t':=s.toks) (o:=.tup (xs++ys)) (λb ob q=>Heap.get?_push_of_some _ q) (Nat.le_refl _) ?_,rfl,q2 (λw=>z (r2.nil_iff.mpr w)) _ (I.hok.fresh (Nat.le_refl _))⟩
 exact⟨by rw [List.length_append];exact hz,_,r1.append r2,IsTup.new _ _⟩
end
def ixN(n:Nat)(i:Int):Option Nat:=if 0<=i then (if i<n then some i.toNat else none) else if -(n:Int)<=i then some (i+n).toNat else none
def atI{α:Type}(xs:List α)(i:Int):Option α:=(ixN xs.length i).bind λj=>xs[j]?
theorem a68{n:Nat}{i:Int}{j:Nat}(h:ixN n i=some j):seqIndex? i n=some j/\j<n/\-(n:Int)<=i/\i<n:=by
 unfold ixN at h
 by_cases h0:0<=i
 ·rw [if_pos h0] at h
  by_cases h1:i<n
  ·rw [if_pos h1] at h
   have e:i.toNat=j:=Option.some.inj h
   exact⟨by rw [seqIndex_of h0 h1,e],by omega,by omega,h1⟩
  ·rw [if_neg h1] at h;cases h
 ·rw [if_neg h0] at h
  by_cases h1 : -(n:Int)<=i
  ·rw [if_pos h1] at h
   have e:(i+n).toNat=j:=Option.some.inj h
   exact⟨by rw [seqIndex_neg (by omega) h1,e],by omega,h1,by omega⟩
  ·rw [if_neg h1] at h;cases h
theorem aH6{α:Type}{xs:List α}{i:Int}{v:α}(h:atI xs i=some v):∃j,seqIndex? i xs.length=some j/\xs[j]?=some v/\j<xs.length/\-(xs.length:Int)<=i/\i<xs.length:=by
 unfold atI at h
 cases e:ixN xs.length i with
 | none=>rw [e] at h;cases h
 | some j=>
   rw [e] at h
   obtain⟨h1,h2,h3,h4⟩:=a68 e
   exact⟨j,h1,h,h2,h3,h4⟩
def aH7(b:Expr):Prop:=∀o i,subscripted b false o i=operate [o,i] (getItem o i)
def IxR(X:Cx)(r:R2):Prop:=
 ∀(value slice:Expr) (pins:List (Addr×Obj)) (s:Shared) (σ:St) (H:Hp) (x y:V) (v u:Value) (Q:VK),Inv X pins σ H s->RelV x v->RelV y u->r x y H Q->
  subscripted slice false v u=operate [v,u] (getItem v u)->wpAny (model X.prog X.w) X.A (subscriptTail value slice v u) (EP X pins σ Q) X.xe s
def MtR(X:Cx)(id:String)(r:V->List V->Hp->VK->Prop):Prop:=
 ∀(pins:List (Addr×Obj)) (s:Shared) (σ:St) (H:Hp) (x:V) (xs:List V) (v:Value) (us:List Value) (Q:VK),Inv X pins σ H s->RelV x v->Vals xs us->r x xs H Q->
  wpAny (model X.prog X.w) X.A (call (.builtin id) (v::us)) (EP X pins σ Q) X.xe s
section
variable{X:Cx}{a b:Expr}{ta tb:TE}{pos:Pos}
theorem IxR.or{r r':R2}(h:IxR X r)(h':IxR X r'):IxR X (λx y H Q=>r x y H Q\/r' x y H Q):=by
 intro value slice pins s σ H x y v u Q I rx ry q hs
 rcases q with q | q
 ·exact h value slice pins s σ H x y v u Q I rx ry q hs
 ·exact h' value slice pins s σ H x y v u Q I rx ry q hs
theorem bq7{r:R2}(hr:IxR X r)(ha:PE X a ta)(hb:PE X b tb)(hs:aH7 b):PE X (.Subscript a b pos) (tOp r ta tb):=by
 intro pins s σ H Q I h
 exact Subscript_ (bi2 ha hb I h λv u s2 x y H2 I2 rx ry q=>hr a b pins s2 σ H2 x y v u Q I2 rx ry q (hs _ _))
def bq8(K:PySem.W.Frag):R2:=λx y H Q=>∃p xs i v,x=.ref p/\y=.int i/\SqL K H p xs/\atI xs i=some v/\Q v H
def bq9(K:PySem.W.Frag):R2:=λx y H Q=>∃p xs i v,x=.ref p/\y=.int i/\SqT K H p xs/\atI xs i=some v/\Q v H
theorem ix_list:IxR X (bq8 X.K):=by
 intro value slice pins s σ H x y v u Q I rx ry h hs
 obtain⟨p,xs,i,z,rfl,rfl,hq,he,q⟩:=h
 cases rx
 obtain⟨t,rfl⟩:=ry
 obtain⟨its,r,pl,hz⟩:=I.list hq
 obtain⟨j,h1,h2,h3,h4,h5⟩:=aH6 he
 obtain⟨w,ew,rw'⟩:=r.get h2
 have hl:=r.length
 have hn:=aC8
 have fin:EP X pins σ Q w s:=⟨z,H,I,rw',q⟩
 by_cases h0:0<=i
 ·have hj:i.toNat=j:=by
   rw [seqIndex_of h0 h5] at h1
   exact Option.some.inj h1
  exact item_listR pl.isList h0 (by omega) (by rw [hj];simpa using ew) fin hs
 ·have hj:(i+(its.toArray.size:Int)).toNat=j:=by
   rw [seqIndex_neg (by omega) h4] at h1
   rw [List.size_toArray,←hl]
   exact Option.some.inj h1
  exact subscriptTail_builtinR (x:=w) pl.isList.typeIs slot_list_getitem.lookup
   (wpAny_getItem_list_neg (Q:=λr s'=>r=w/\EP X pins σ Q r s') pl.isList (by omega) (by rw [List.size_toArray] <;> omega) (by omega) (by rw [hj];simpa using ew) ⟨rfl,fin⟩) hs
theorem bj5:IxR X (bq9 X.K):=by
 intro value slice pins s σ H x y v u Q I rx ry h hs
 obtain⟨p,xs,i,z,rfl,rfl,hq,he,q⟩:=h
 cases rx
 obtain⟨t,rfl⟩:=ry
 obtain⟨its,r,pl,hz⟩:=I.tuple hq
 obtain⟨j,h1,h2,h3,h4,h5⟩:=aH6 he
 obtain⟨w,ew,rw'⟩:=r.get h2
 have hl:=r.length
 have hn:=aC8
 have fin:EP X pins σ Q w s:=⟨z,H,I,rw',q⟩
 exact subscriptTail_builtinR (x:=w) pl.typeIs slot_tuple_getitem.lookup
  (getItem_tuple (j:=j) (Q:=λr s'=>r=w/\EP X pins σ Q r s') pl (by omega) (by omega) (by rw [List.size_toArray,←hl];exact h1) (by simpa using ew) ⟨rfl,fin⟩) hs
theorem as5(lo hi:Option Int)(n:Nat):(sliceBounds lo hi none n).1=((HT.sIx n 0 lo:Nat):Int)/\(sliceBounds lo hi none n).2.1=((HT.sIx n n hi:Nat):Int)/\(sliceBounds lo hi none n).2.2=1:=by
 refine⟨?_,?_,rfl⟩
 ·cases lo with
  | none=>simp [sliceBounds,HT.sIx]
  | some i=>
    simp only [sliceBounds,HT.sIx,Option.getD_none,show (1:Int) > 0 by decide,if_true]
    by_cases h:i<0
    ·simp only [h,if_true] <;> omega
    ·simp only [h,if_false] <;> omega
 ·cases hi with
  | none=>simp [sliceBounds,HT.sIx]
  | some i=>
    simp only [sliceBounds,HT.sIx,Option.getD_none,show (1:Int) > 0 by decide,if_true]
    by_cases h:i<0
    ·simp only [h,if_true] <;> omega
    ·simp only [h,if_false] <;> omega
theorem an4(its:List Value)(lo hi:Option Int):slicePick its.toArray lo hi none=((its.drop (HT.sIx its.length 0 lo)).take (HT.sIx its.length its.length hi - HT.sIx its.length 0 lo)).toArray:=by
 obtain⟨h1,h2,h3⟩:=as5 lo hi its.toArray.size
 unfold slicePick
 rw [h1,h2,h3]
 simp only [sliceRange_one,pick_run,List.size_toArray] <;> rfl
def bw1(K:PySem.W.Frag):V->Option Int->Option Int->Hp->VK->Prop:=λx lo hi H Q=>∃a xs,x=.ref a/\SqL K H a xs/\∀p,H p=none->Q (.ref p) (upd H p (.lst (as4 xs lo hi)))
theorem sl_list:SlR X (bw1 X.K):=by
 intro pins s σ H x v vl vu lo hi sl Q I rx hs pl pu h
 obtain⟨a,xs,rfl,hx,q⟩:=h
 cases rx
 obtain⟨its,r,ht,hz⟩:=I.list hx
 have hlen:=r.length
 refine⟨"list",_,slot_list_getitem.lookup,ht.isList.typeIs,?_⟩
 refine wpAny_getItem_list_slice ht.isList hs pl pu .none (by simp) ?_ (by rw [List.size_toArray] <;> omega)
 rw [an4,←hlen]
 refine⟨.ref s.heap.objs.size,_,I.laid (t':=s.toks) (o:=.lst (as4 xs lo hi)) (λb ob q=>Heap.get?_push_of_some _ q) (Nat.le_refl _) ?_,rfl,q _ (I.hok.fresh (Nat.le_refl _))⟩
 exact⟨Nat.le_trans (ac9 xs lo hi) hz,_,0,(r.drop (HT.sIx xs.length 0 lo)).take (HT.sIx xs.length xs.length hi - HT.sIx xs.length 0 lo),Heap.get?_push_size _ rfl⟩
def aH8:V->Bool
 | .non=>true
 | .bl _=>true
 | .int _=>true
 | .str _=>true
 | _=>false
def eqV:V->V->Bool
 | .non,.non=>true
 | .bl a,.bl b=>a == b
 | .bl a,.int b=>(if a then 1 else 0) == b
 | .int a,.bl b=>a == (if b then 1 else 0)
 | .int a,.int b=>a == b
 | .str a,.str b=>a == b
 | _,_=>false
theorem bj6{A:Around}{s:Shared}{y x:V}{u v:Value}(ry:RelV y u)(rx:RelV x v)(fy:aH8 y=true)(fx:aH8 x=true):SeqAt.EqAt A s u v (eqV y x):=by
 cases y with
 | non=>
   cases ry
   cases x with
   | non=>cases rx;exact SeqAt.EqAt.same _
   | bl b=>cases rx;exact SeqAt.EqAt.none_bool b
   | int b=>obtain⟨t,rfl⟩:=rx;exact SeqAt.EqAt.none_int b t
   | str b=>obtain⟨t,rfl⟩:=rx;exact SeqAt.EqAt.none_str b t
   | _=>exact absurd (show false=true from fx) Bool.false_ne_true
 | bl a=>
   cases ry
   cases x with
   | non=>cases rx;exact SeqAt.EqAt.bool_none a
   | bl b=>cases rx;exact SeqAt.EqAt.bool_bool a b
   | int b=>obtain⟨t,rfl⟩:=rx;exact SeqAt.EqAt.bool_int a b t
   | str b=>obtain⟨t,rfl⟩:=rx;exact SeqAt.EqAt.bool_str a b t
   | _=>exact absurd (show false=true from fx) Bool.false_ne_true
 | int a=>
   obtain⟨t',rfl⟩:=ry
   cases x with
   | non=>cases rx;exact SeqAt.EqAt.int_none a t'
   | bl b=>cases rx;exact SeqAt.EqAt.int_bool a t' b
   | int b=>obtain⟨t,rfl⟩:=rx;exact SeqAt.EqAt.int_int a t' b t
   | str b=>obtain⟨t,rfl⟩:=rx;exact SeqAt.EqAt.int_str a t' b t
   | _=>exact absurd (show false=true from fx) Bool.false_ne_true
 | str a=>
   obtain⟨t',rfl⟩:=ry
   cases x with
   | non=>cases rx;exact SeqAt.EqAt.str_none a t'
   | bl b=>cases rx;exact SeqAt.EqAt.str_bool a t' b
   | int b=>obtain⟨t,rfl⟩:=rx;exact SeqAt.EqAt.str_int a t' b t
   | str b=>obtain⟨t,rfl⟩:=rx;exact SeqAt.EqAt.str_str a t' b t
   | _=>exact absurd (show false=true from fx) Bool.false_ne_true
 | _=>exact absurd (show false=true from fy) Bool.false_ne_true
theorem as6:CallR X (.builtin "len") (λxs H Q=>∃p ys,xs=[.ref p]/\(SqL X.K H p ys\/SqT X.K H p ys)/\Q (.int ys.length) H):=by
 intro pins s σ H xs us Q I r h
 obtain⟨p,ys,rfl,hq,q⟩:=h
 obtain⟨u,rfl,rx⟩:=Y4 r
 cases rx
 have hn:=aC8
 rcases hq with hq | hq
 ·obtain⟨its,r',pl,hz⟩:=I.list hq
  have hlen:=r'.length
  exact Calls.call_len_list pl.isList (by simp only [List.size_toArray] <;> omega) ⟨.int ys.length,H,I.tok _,⟨s.toks+1,by rw [List.size_toArray,hlen]⟩,q⟩
 ·obtain⟨its,r',pl,hz⟩:=I.tuple hq
  have hlen:=r'.length
  exact len_tuple pl (by simp only [List.size_toArray] <;> omega) ⟨.int ys.length,H,I.tok _,⟨s.toks+1,by rw [List.size_toArray,hlen]⟩,q⟩
theorem CallR.or{f:Value}{r r':List V->Hp->VK->Prop}(h:CallR X f r)(h':CallR X f r'):CallR X f (λxs H Q=>r xs H Q\/r' xs H Q):=by
 intro pins s σ H xs us Q I rs q
 rcases q with q | q
 ·exact h pins s σ H xs us Q I rs q
 ·exact h' pins s σ H xs us Q I rs q
theorem as7:CallR X (.type "list") (λxs H Q=>∃p ys,xs=[.ref p]/\(SqL X.K H p ys\/SqT X.K H p ys)/\∀l,H l=none->Q (.ref l) (upd H l (.lst ys))):=by
 intro pins s σ H xs us Q I r h
 obtain⟨p,ys,rfl,hq,q⟩:=h
 obtain⟨u,rfl,rx⟩:=Y4 r
 cases rx
 have fin:∀(its:List Value),Vals ys its->ys.length<=sizeLine->∀(h':Heap) (c':Nat),(∀b o',s.heap.get? b=some o'->h'.get? b=some o')->
  h'.get? s.heap.objs.size=some { cls:=.type "list",dict:=none,data:=.seq its.toArray c',slots:=#[] }->EP X pins σ Q (.ref s.heap.objs.size) { s with heap:=h' }:=λits r' hz h' c' kp e=>
  ⟨.ref s.heap.objs.size,_,I.laid (t':=s.toks) kp (Nat.le_refl _) (show ObjOk X.prog X.w _ h' _ (.lst ys) from ⟨hz,its,c',r',e⟩),rfl,q _ (I.hok.fresh (Nat.le_refl _))⟩
 rcases hq with hq | hq
 ·obtain⟨its,r',pl,hz⟩:=I.list hq
  have hlen:=r'.length
  obtain⟨o,ho,hc,n,hd⟩:=pl.isList
  exact call_list_seq p (.inl rfl) ho hc hd (λh' c' kp e=>fin its r' hz h' c' kp e) (by simp only [List.size_toArray] <;> omega)
 ·obtain⟨its,r',pl,hz⟩:=I.tuple hq
  have hlen:=r'.length
  obtain⟨o,ho,hc,n,hd⟩:=pl
  exact call_list_seq p (.inr rfl) ho hc hd (λh' c' kp e=>fin its r' hz h' c' kp e) (by simp only [List.size_toArray] <;> omega)
def tyV(K:PySem.W.Frag)(T:String)(x:V)(H:Hp):Prop:=match x with
 | .str _=>T="str"
 | .int _=>T="int"
 | .ref p=>(T="list"/\∃xs,SqL K H p xs)\/(T="tuple"/\∃o,K.lookup p=some o/\o.cls=.type "tuple"/\o.dict=none)\/
  (T="dict"/\((∃kvs,H p=some (.dK kvs))\/∃kvs,H p=some (.dT kvs)))\/(T="set"/\∃S n,H p=some (.set S n))
 | _=>False
theorem bj7{pins:List (Addr×Obj)}{σ:St}{H:Hp}{s:Shared}{T:String}{x:V}{v:Value}(I:Inv X pins σ H s)(r:RelV x v)(ty:tyV X.K T x H) :
 s.TypeIs v T/\∀a,v=.ref a->∃ob,s.heap.get? a=some ob/\ob.dict=none:=by
 cases x with
 | str z=>
   obtain⟨t,rfl⟩:=r
   cases (show T="str" from ty)
   exact⟨typeIs_str s z t,λ_ e=>nomatch e⟩
 | int i=>
   obtain⟨t,rfl⟩:=r
   cases (show T="int" from ty)
   exact⟨typeIs_int s i t,λ_ e=>nomatch e⟩
 | ref p=>
   cases r
   rcases ty with ⟨rfl,xs,hq⟩ | ⟨rfl,o,hk,hc,hd⟩ | ⟨rfl,hk⟩ | ⟨rfl,S,n,hk⟩
   ·obtain⟨its,_,pl,_⟩:=I.list hq
    refine⟨pl.isList.typeIs,λa e=>?_⟩
    cases e
    obtain⟨o,n,e,c,hd,_⟩:=pl
    exact⟨o,e,hd⟩
   ·refine⟨⟨o,I.kIn p o hk,hc⟩,λa e=>?_⟩
    cases e
    exact⟨o,I.kIn _ o hk,hd⟩
   ·have z:∃o,s.heap.get? p=some o/\o.ExactDict:=by
     rcases hk with ⟨kvs,hk⟩ | ⟨kvs,hk⟩
     ·obtain⟨_,_,_,_,o,_,_,e,ex,_⟩:=I.hok p _ hk
      exact⟨o,e,ex⟩
     ·obtain⟨_,_,_,_,o,_,_,e,ex,_⟩:=I.hok p _ hk
      exact⟨o,e,ex⟩
    obtain⟨o,e,ex⟩:=z
    refine⟨⟨o,e,ex.1⟩,λa e2=>?_⟩
    cases e2
    exact⟨o,e,ex.2.1⟩
   ·obtain⟨o,_,_,_,e,ex,_⟩:=I.hok p _ hk
    refine⟨⟨o,e,ex.1⟩,λa e2=>?_⟩
    cases e2
    exact⟨o,e,ex.2.1⟩
 | _=>exact False.elim ty
def tBM(K:PySem.W.Frag)(T:String)(r:V->List V->Hp->VK->Prop)(to:TE)(t:TA):TE:=λσ H Q=>to σ H λx H1=>tyV K T x H1/\t σ H1 λxs H2=>r x xs H2 Q
variable{o e:Expr}{es:List Expr}{to:TE}{t:TA}{name:Str}{apos cpos:Pos}{T id:String}{r:V->List V->Hp->VK->Prop}
theorem be5(pa:PlainAttrs T)(slot:Slot T name id)(hty:typeOf (.builtin id)=pure (.type "method_descriptor"))(hm:MtR X id r)(ho:PE X o to)(ha:PA X (e::es) t)
 (hbase:attributeBase o name X.env (eval o X.env)=eval o X.env:=by rfl)
 (hfew:((backTo cpos (starEach (e::es) X.env)).all (λx=>!x.1)&&(backToKw cpos (keywordEach [] X.env)).all (λx=>x.1.isSome)
  &&decide ((e::es).length+([]:List Keyword).length+(if ([]:List Keyword).isEmpty then 0 else 1)<30))=true:=by rfl)
 (hline:(apos.endLine == cpos.line)=true:=by rfl) (hs:starEach (e::es) X.env=(false,eval e X.env)::starEach es X.env:=by rfl) (hplain:(backTo cpos (starEach es X.env)).any (·.1)=false:=by rfl) :
 PE X (.Call (.Attribute o name apos) (e::es) [] cpos) (tBM X.K T r to t):=by
 intro pins s σ H Q I h
 refine wpAny_Call_method_late hbase hfew hline rfl (thn (ho pins s σ H _ I h) λv s1 ⟨x,H1,I1,r1,ty,q1⟩=>?_)
 obtain⟨h1,h2⟩:=bj7 I1 r1 ty
 refine⟨T,id,pa,slot,hty,h1,h2,?_⟩
 have hA:=ha cpos pins s1 σ H1 _ I1 q1
 rw [hs] at hA ⊢
 refine Calls.callWith_builtin (by show (false||(backTo cpos (starEach es X.env)).any (·.1))=false;rw [hplain] <;> rfl) (Calls.evalArgs_plain ?_)
 exact thn hA λus s2 ⟨vs,H2,I2,r2,q2⟩=>hm pins s2 σ H2 x vs v us Q I2 r1 r2 q2
/- xs.append(e),list.index on a module's tuple .. are MtR facts of 06m -/
end
def MtM(X:Cx)(id:String)(r:V->List V->Hp->VK->Prop):Prop:=
 ∀(pins:List (Addr×Obj)) (s:Shared) (σ:St) (H:Hp) (x:V) (xs:List V) (v:Value) (us:List Value) (Q:VK),Inv X pins σ H s->RelV x v->Vals xs us->r x xs H Q->
  wpAny (model X.prog X.w) X.A (call (.builtin id) (v::us)) (EP X pins σ Q) X.xe s
theorem Vals.one:∀{x:V} {us:List Value},Vals [x] us->∃u,us=[u]/\RelV x u
 | _,_,.cons r .nil=>⟨_,rfl,r⟩
section
variable{X:Cx}{pins:List (Addr×Obj)}{σ:St}{H:Hp}{s:Shared}{l b:Addr}{xs ys zs:List V}
theorem Inv.lset{its its':List Value}{n:Nat}{f:Array Value->Array Value}{t':Nat}(I:Inv X pins σ H s)(hH:H l=some (.lst xs))
 (e:s.heap.get? l=some { cls:=.type "list",data:=.seq its.toArray n }) (hf:f its.toArray=its'.toArray) (hv:Vals ys its') (hz:ys.length<=sizeLine) :
 Inv X pins σ (upd H l (.lst ys)) { s with heap:=s.heap.update l (Obj.mapSeq f),toks:=t' }:=by
 have q:=PySem.IsL.update e f
 rw [hf] at q
 refine I.write (x:=l) (e:=l) (by rw [hH];exact trivial) (.inl rfl) (λb' u hb hu=>(Heap.get?_update_other s.heap (Obj.mapSeq f) (Ne.symm hb)).trans hu) ⟨_,q⟩ ?_
 exact⟨hz,its',_,hv,q⟩
theorem Inv.lnew{its:List Value}{t':Nat}(I:Inv X pins σ H s)(hv:Vals ys its)(hz:ys.length<=sizeLine) :
 Inv X pins σ (upd H s.heap.objs.size (.lst ys)) { s with heap:=s.heap.push { cls:=.type "list",data:=.seq its.toArray },toks:=t' }:=
 I.laid (λ_ _ q=>Heap.get?_push_of_some _ q) (Nat.le_refl _) ⟨hz,its,0,hv,Heap.get?_push_size _ rfl⟩
theorem Inv.fresh(I:Inv X pins σ H s):H s.heap.objs.size=none:=I.hok.fresh (Nat.le_refl _)
theorem Inv.lstM(I:Inv X pins σ H s)(hH:H l=some (.lst xs)):xs.length<=sizeLine/\∃(its:List Value) (n:Nat),Vals xs its/\xs.length=its.length/\s.heap.get? l=some { cls:=.type "list",data:=.seq its.toArray n }:=by
 obtain⟨z,its,n,r,e⟩:=I.hok l _ hH
 exact⟨z,its,n,r,r.length,e⟩
theorem aU9{n:Nat}(h:n<=sizeLine):Builtin.List.listTooLong n=false:=by
 unfold Builtin.List.listTooLong
 exact decide_eq_false (by omega)
end
section
variable{X:Cx}
def rAppend:V->List V->Hp->VK->Prop:=λx vs H Q=>∃l xs y,x=.ref l/\vs=[y]/\H l=some (.lst xs)/\xs.length<sizeLine/\Q .non (upd H l (.lst (xs++[y])))
theorem aN4:MtM X "list.append" rAppend:=by
 intro pins s σ H x vs v us Q I rx rv h
 obtain⟨l,xs,y,rfl,rfl,hH,hz,q⟩:=h
 cases rx
 obtain⟨u,rfl,ru⟩:=rv.one
 obtain⟨z,its,n,r,hl,e⟩:=I.lstM hH
 refine call_meets F.slot_list_append ⟨_,e,rfl⟩ F.entry_list_append (F.args_list_append_2 _ _) (PySem.list_append l its.toArray n u (by rw [List.size_toArray];omega)) ⟨e,?_⟩
 refine⟨.non,_,I.lset (its':=its++[u]) hH e (by simp) (r.append (.cons ru .nil)) ?_,rfl,q⟩
 rw [List.length_append,List.length_singleton]
 omega
def rExtend:V->List V->Hp->VK->Prop:=λx vs H Q=>∃l b xs zs,x=.ref l/\vs=[.ref b]/\H l=some (.lst xs)/\H b=some (.lst zs)/\xs.length+zs.length<=sizeLine/\Q .non (upd H l (.lst (xs++zs)))
theorem aN5:MtM X "list.extend" rExtend:=by
 intro pins s σ H x vs v us Q I rx rv h
 obtain⟨l,b,xs,zs,rfl,rfl,hH,hB,hz,q⟩:=h
 cases rx
 obtain⟨u,rfl,ru⟩:=rv.one
 cases ru
 obtain⟨z,its,n,r,hl,e⟩:=I.lstM hH
 obtain⟨z2,its2,n2,r2,hl2,e2⟩:=I.lstM hB
 have hsz:its.toArray.size+its2.toArray.size<=sizeLine:=by rw [List.size_toArray,List.size_toArray];omega
 have hlong:¬(!its.toArray.isEmpty&&Builtin.List.listTooLong (its.toArray.size+its2.toArray.size))=true:=by
  rw [aU9 hsz,Bool.and_false]
  exact Bool.false_ne_true
 refine call_meets F.slot_list_extend ⟨_,e,rfl⟩ F.entry_list_extend (F.args_list_extend_2 _ _)
  (AutoSeq1.list_extend_list_list_0 l its.toArray n b its2.toArray n2 hlong (by rw [List.size_toArray];omega) (by omega)) ⟨e,e2,?_⟩
 refine⟨.non,_,I.lset (its':=its++its2) hH e (by simp) (r.append r2) ?_,rfl,q⟩
 rw [List.length_append]
 omega
def rCat:R2:=λx y H Q=>∃l b xs zs,x=.ref l/\y=.ref b/\H l=some (.lst xs)/\H b=some (.lst zs)/\xs.length+zs.length<=sizeLine/\∀p,H p=none->Q (.ref p) (upd H p (.lst (xs++zs)))
theorem bj8:OpR X (binaryOp .Add) rCat:=by
 intro pins s σ H x y v u Q I rx ry h
 obtain⟨l,b,xs,zs,rfl,rfl,hH,hB,hz,q⟩:=h
 cases rx
 cases ry
 obtain⟨z,its,n,r,hl,e⟩:=I.lstM hH
 obtain⟨z2,its2,n2,r2,hl2,e2⟩:=I.lstM hB
 refine PySem.P.add_list e e2 ?_ (by rw [List.size_toArray,List.size_toArray];omega)
 have ea:its.toArray++its2.toArray=(its++its2).toArray:=by simp
 rw [ea]
 exact⟨.ref _,_,I.lnew (t':=s.toks) (r.append r2) (by rw [List.length_append];omega),rfl,q _ I.fresh⟩
end
end L2
namespace Att
open PySem PySem.W PySem.Calls PyProof.Rows
theorem ae0{P:Params}{h:Heap}:∀(ns:List Int) (vs:List Value),WellAll P h vs (ns.map WData.int)->IntsAre vs ns:=by
 intro ns
 induction ns with
 | nil=>
   intro vs w
   rw [List.map_nil] at w
   cases w
   exact .nil
 | cons n ns ih=>
   intro vs w
   rw [List.map_cons] at w
   cases w with
   | cons a b=>
     cases a
     exact .cons _ _ (ih _ b)
theorem aN6{l:OpenLaw}{n:Nat}(hn:l.most=some n){P:Params}{h:Heap}{args:List WData}{vals:List Value}
 (hpre:l.row.toRowW.claim.pre args=true) (hwl:WellAll P h vals args) :
 ∃a vs ns,vals=[Value.ref a]/\args=[WData.list (ns.map WData.int)]/\h.get? a=some { cls:=.type "list",data:=.seq vs.toArray }/\IntsAre vs ns/\ns.length<=n:=by
 have hsh:WShape.hasAll [] args [.list .int]=true:=(pre_splitW hpre).1
 have hc:l.pre.holds [] { args:=args }=true:=(pre_splitW hpre).2
 obtain⟨d,r,rfl,h1,h2⟩:=hasAllW_cons hsh
 obtain rfl:=hasAllW_nil h2
 obtain⟨xs,rfl,h3⟩:=hasW_list h1
 obtain⟨ns,rfl⟩:=items_int h3
 have hlen:ns.length<=n:=by
  unfold OpenLaw.pre at hc
  have h4:(WTm.not (.lt (.lit (.int (n:Int))) (.len (.arg 0)))).holds [] { args:=[.list (ns.map .int)] }=true:=by
   have h4:=(holds_andW hc).1
   rw [hn] at h4
   exact h4
  have h5:=condW_of h4 (w_not (w_lt w_lit (w_len_list (w_arg rfl))))
  rw [List.length_map] at h5
  refine Nat.le_of_not_lt λq=>?_
  have q':(n:Int)<((ns.length:Nat):Int):=by omega
  first
   | (rw [decide_eq_true q'] at h5;exact absurd h5 (by decide))
   | (simp at h5;omega)
 cases hwl with
 | cons w1 w2=>
   cases w2
   cases w1 with
   | list ho hall=>exact⟨_,_,ns,rfl,rfl,ho,ae0 ns _ hall,hlen⟩
theorem aN7(l:OpenLaw)(args:List WData):l.row.toRowW.claim.post args (.bool true) args=true:=
 postW_of (r:=l.row.toRowW) (X:=(true == true))
  (show WShape.has [] (.bool true) .bool=true by first | rfl | decide | simp [WShape.has,WShape.arms,WShape.armsAll])
  (show (WTm.eq .res (.lit (.bool true))).value [] { args:=args,res:=some (.bool true),after:=args }=some (.bool (true == true)) from w_eq_bool (w_res rfl) w_lit) rfl
theorem ax3{l:OpenLaw}{n:Nat}{q:Program}{loose:List Str}{XP:(Str->Option Value)->Heap->Prop}{YP:World->Heap->Prop}{d:DefRec}
 (hn:l.most=some n) (hdf:d.params.defaults=[])
 (call:∀(w:World) (s₀ s₁:Shared) (mg mb:Str->Option Value) (fa:Addr) (o:Obj) (pm cd doc:Value) (a:Addr) (vs:List Value) (ns:List Int),
  Ground q loose [] XP w s₀ mg mb s₁.heap->YP w s₁.heap->
  s₁.heap.get? fa=some o->o.data=.func (docDef d.name d.params d.body d.scope pm cd doc)->s₁.heap.CodeRec cd d.name->mg d.name=some (.ref fa)->
  s₁.heap.get? a=some { cls:=.type "list",data:=.seq vs.toArray }->IntsAre vs ns->ns.length<=n->s₁.gens=#[]->
  codeAny (model l.prog w) callerA (.call (.ref fa) ⟨[.ref a],[]⟩) (λr s'=>r=.ok (.ret (.bool true))/\OldK s₁.heap s'.heap/\s'.os=s₁.os/\AllBare s'.gens) s₁) :
 WalkO q loose XP YP l.row.toRowW d [] (λf vs=>PySem.call f vs):=by
 intro w s₀ s₁ mg mb G Y fa o pm cd doc dV kV ho hd hcd hD hmg hg args vals as hpre hlay hrd hwl hlo
 obtain rfl:dV=.none:=Dflts.none hD hdf
 obtain rfl:kV=.none:=Dflts.noKw hD
 obtain⟨a,vs,ns,rfl,rfl,hobj,hints,hlen⟩:=aN6 hn hpre hwl
 refine enter_call (codeAny_mono (call w s₀ s₁ mg mb fa o pm cd doc a vs ns G Y ho (fd_plain hd) hcd hmg hobj hints hlen hg) λr s' hq=>?_)
 obtain⟨rfl,h2,h3,h4⟩:=hq
 exact⟨.inl ⟨.bool true,.bool true,[],rfl,λ_=>rfl,.bool true,aN7 l _,λ_=>⟨List.Pairwise.nil,λ_ hm=>(nomatch hm)⟩⟩,h2,h3,h4⟩
end Att
namespace L2
open PySem PySem.Spec PyProof.Rows
theorem m7:∀{vs:List Value} {ns:List Int},IntsAre vs ns->Vals (ns.map V.int) vs
 | _,_,.nil=>.nil
 | _,_,.cons n t h=>.cons ⟨t,rfl⟩ (m7 h)
def bj9(H:Hp):Prop:=∀b,H b=none\/∃o xs,H b=some (.frz o (.lst xs))
theorem aV0{P:Program}{w:World}{K:PySem.W.Frag}{mg mb:Str->Option Value}{CX:CXT}{k:Nat}{fa a:Addr}{fd:FuncData}{x:Str}{sp:Sp}{s₁:Shared}{vs:List Value}{ns:List Int}
 (KX:K.In s₁.heap) (hns:s₁.heap.Ns mainGlobals mg) (hb:s₁.heap.Ns builtinsNs mb) (hbb:∀x:Str,x≠"__name__"->mb x=bootBuiltins x) (hlim:s₁.heap.NoLimit) (hg:s₁.gens=#[])
 (ha:s₁.heap.get? a=some { cls:=.type "list",data:=.seq vs.toArray }) (hi:IntsAre vs ns) (hl:ns.length<=sizeLine) (hr:Room k callerA)
 (F:∀base:Heap,K.In base->base.Ns mainGlobals mg->FnOk P w K mg base CX k fa fd [x] sp) (hbind:∀(s:Shared) (u:Value),BindsTo s fd ⟨[u],[]⟩ [(x,u)])
 (hsp:∀H:Hp,bj9 H->SqL K H a (ns.map V.int)->sp [.ref a] H (λv _=>v=.bl true) λ_ _ _=>False)
 (hCX:∀H e s',CX [] H s₁ (λ_ _ _=>False) e s'->False) :
 codeAny (model P w) callerA (.call (.ref fa) ⟨[.ref a],[]⟩) (λr s'=>r=.ok (.ret (.bool true))/\OldK s₁.heap s'.heap/\s'.os=s₁.os/\AllBare s'.gens) s₁:=by
 have rv:=m7 hi
 have lenV:=hi.length
 have core:∀H:Hp,bj9 H->SqL K H a (ns.map V.int)->HOk P w H s₁.heap->(∀b,H b≠none->b=a)->(H a≠none->K.lookup a=none)->
  codeAny (model P w) callerA (.call (.ref fa) ⟨[.ref a],[]⟩) (λr s'=>r=.ok (.ret (.bool true))/\OldK s₁.heap s'.heap/\s'.os=s₁.os/\AllBare s'.gens) s₁:=by
  intro H hO hS hok hA hK
  have base_of:∀{b:Addr} {o:Obj},s₁.heap.get? b=some o->H b=none->(as0 s₁.heap H).get? b=some o:=λe n=>aS7 e n
  have noA:∀{b:Addr} {o:Obj} {es:Array DictEntry} {ep:Nat},s₁.heap.get? b=some o->o.data=.dict es ep->H b=none:=λ{b o es ep} e d=>by
   cases q:H b with
   | none=>rfl
   | some u=>
     have e':b=a:=hA b (by rw [q];simp)
     subst e'
     rw [ha] at e;cases e
     have d':Data.seq vs.toArray _=Data.dict es ep:=d
     cases d'
  have nsK:∀{b:Addr} {m:Str->Option Value},s₁.heap.Ns b m->(as0 s₁.heap H).Ns b m:=λ{b m} ⟨o,es,ep,e,d,r⟩=>⟨o,es,ep,base_of e (noA e d),d,r⟩
  have hKb:K.In (as0 s₁.heap H):=λb o e=>base_of (KX b o e) (by
   cases q:H b with
   | none=>rfl
   | some u=>
     have e':b=a:=hA b (by rw [q];simp)
     subst e'
     rw [hK (by rw [q];simp)] at e;cases e)
  have hM:Mod K mg (as0 s₁.heap H):=⟨hKb,nsK hns,⟨mb,nsK hb,hbb⟩,let ⟨mc,h1,h2⟩:=hlim;⟨mc,nsK h1,h2⟩⟩
  have e0:Env0 P w K mg (as0 s₁.heap H) callerA [] s₁ H:=⟨rfl,hM,λb o e=>a47 e,Nat.le_of_eq (aM4 _ _),trivial,λb hb=>absurd (show b∈([]:List Addr) from hb) (by simp),hok,.of_eq hg⟩
  refine codeAny_mono ((F _ hKb (nsK hns)).run callerA [] s₁ H ⟨[.ref a],[]⟩ [.ref a] [.ref a] _ _ hr e0 (hbind s₁ (.ref a)) (.cons rfl .nil) (hsp H hO hS)) λr s' h=>?_
  cases r with
  | error e=>exact (hCX H e s' h).elim
  | ok fl=>
    cases fl with
    | next=>exact False.elim h
    | brk=>exact False.elim h
    | cont=>exact False.elim h
    | ret u=>
      obtain⟨v,H',os,bare,un,hok',r',q⟩:=h
      have q':v=.bl true:=q
      subst q'
      obtain rfl:u=Value.bool true:=r'
      refine⟨rfl,OldK.of_keep λb o e=>?_,os,bare⟩
      cases q:H b with
      | none=>exact un.keep b o e q (by intro z;exact absurd (show b∈([]:List Addr) from z) (by simp)) (by simp)
      | some u=>
        rcases hO b with z | ⟨ob,xs,z⟩
        ·rw [q] at z;cases z
        ·have z2:=un.frzs b ob _ z
         obtain⟨e1,_⟩:=hok b _ z
         obtain⟨e2,_⟩:=hok' b _ z2
         rw [e] at e1;cases e1
         exact e2
 cases hk:K.lookup a with
 | some o=>
   have e:=KX a o hk
   rw [ha] at e
   cases e
   refine core (λ_=>none) (λ_=>.inl rfl) (.inr ⟨_,vs.toArray,_,hk,rfl,rfl,rfl,by rw [List.size_toArray,lenV];exact hl,by simpa using rv⟩) (λb u z=>by have z':(none:Option HO)=some u:=z;cases z') (λb z=>absurd rfl z) λz=>absurd rfl z
 | none=>
   refine core (λb=>if b=a then some (.frz { cls:=.type "list",data:=.seq vs.toArray } (.lst (ns.map V.int))) else none) (λb=>?_) (.inl (.inr ⟨{ cls:=.type "list",data:=.seq vs.toArray },if_pos rfl⟩)) (λb u z=>?_) (λb z=>?_) λ_=>hk
   ·by_cases hb:b=a
    ·exact .inr ⟨_,_,if_pos hb⟩
    ·exact .inl (if_neg hb)
   ·by_cases hb:b=a
    ·have z':=(if_pos hb).symm.trans z
     cases z'
     subst hb
     exact⟨ha,by rw [List.length_map];exact hl,vs,_,rv,ha⟩
    ·have z':=(if_neg hb).symm.trans z
     cases z'
   ·by_cases hb:b=a
    ·exact hb
    ·exact absurd (if_neg hb) z
def B9(s:Stmt)(j:Nat):Stmt:=match s with
 | .ClassDef _ _ _ body _ _ _ _ _ _ _=>body.getD j (.Pass ⟨0,0,0,0⟩)
 | _=>.Pass ⟨0,0,0,0⟩
def C5(s:Stmt):Arguments:=match s with
 | .FunctionDef _ a _ _ _ _ _ _ _ _=>a
 | _=>{ posonlyargs:=[],args:=[],vararg:=none,kwonlyargs:=[],kw_defaults:=[],kwarg:=none,defaults:=[] }
def C4(s:Stmt):List Stmt:=match s with
 | .FunctionDef _ _ b _ _ _ _ _ _ _=>b
 | _=>[]
def C0(s:Stmt):Scope:=match s with
 | .FunctionDef _ _ _ _ _ _ sc _ _ _=>sc
 | _=>{ kind:=.function,names:=[],isGenerator:=false,isCoroutine:=false }
abbrev CX0:CXT:=λ_ _ _ _ _ _=>False
abbrev E0:XK:=λ_ _ _=>False
theorem aH9{X:Cx}:r9 CX0 X E0:=λ_ _ _ _ _ _ _ h=>h.elim
structure Fun(K:PySem.W.Frag)(x qual:Str)(st:Stmt)(f:Addr)(fd:FuncData):Prop where
 ex:∃(oc:Value) (od:Option Addr) (kV doc pm:Value) (an:Option Addr) (cdv ct:Value) (osl:Array (Option Value)),
  fd=PySem.W.fnOf x qual (C5 st) (C4 st) (C0 st) .none kV doc pm an cdv ct/\K.lookup f=some ⟨oc,od,.func fd,osl⟩/\PySem.W.codeIn K cdv qual=true
 kp:PySem.W.keepIn K (.ref f)=true
section
variable{P:Program}{w:World}{K:PySem.W.Frag}{mg:Str->Option Value}{base:Heap}
theorem Fun.ok{x qual:Str}{st:Stmt}{f:Addr}{fd:FuncData}{N ps:List Str}{k:Nat}{sp:Sp}(F:Fun K x qual st f fd)(S:C7 N ps (C0 st))(len:∀vs H Q E,sp vs H Q E->vs.length=ps.length)
 (hbody:∀(cdv:Value) (A:Around) (outer:List Env) (s:Shared) (H:Hp) (vs:List V) (Q:VK) (E:XK),Room k (A.deeper (envOfC qual (C0 st) s.heap.objs.size f cdv))->sp vs H Q E->
  ∃t,PSs (an3 CX0 P w K mg base N qual (C0 st) f cdv A outer s H E).nox (C4 st) t/\t { nx:=λ_ H'=>Q .non H',rt:=Q } (start N vs) H):FnOk P w K mg base CX0 (k+1) f fd ps sp:=by
 obtain⟨oc,od,kV,doc,pm,an,cdv,ct,osl,rfl,lk,hcd⟩:=F.ex
 refine be3 lk hcd S len λA outer s H vs Q E hr hsp=>?_
 obtain⟨t,h,q⟩:=hbody cdv A outer s H vs Q E hr hsp
 exact⟨t,h.nox,q⟩
theorem Fun.binds{x qual:Str}{st:Stmt}{f:Addr}{fd:FuncData}{ps:List Str}(F:Fun K x qual st f fd)
 (h:∀(kV doc pm:Value) (an:Option Addr) (cdv ct:Value) (us:List Value),us.length=ps.length->bindArgs (PySem.W.fnOf x qual (C5 st) (C4 st) (C0 st) .none kV doc pm an cdv ct) ⟨us,[]⟩=pure (ps.zip us)):Binds K fd ps []:=by
 obtain⟨oc,od,kV,doc,pm,an,cdv,ct,osl,rfl,lk,hcd⟩:=F.ex
 exact .all (h kV doc pm an cdv ct)
theorem bk0{x qual:Str}{st:Stmt}{f:Addr}{oc:Value}{od an:Option Addr}{osl:Array (Option Value)}{kV doc pm cdv ct:Value}(l:K.lookup f=some ⟨oc,od,.func (PySem.W.fnOf x qual (C5 st) (C4 st) (C0 st) .none kV doc pm an cdv ct),osl⟩)
 (c:PySem.W.codeIn K cdv qual=true) (k:PySem.W.keepIn K (.ref f)=true):Fun K x qual st f (PySem.W.fnOf x qual (C5 st) (C4 st) (C0 st) .none kV doc pm an cdv ct):=⟨⟨oc,od,kV,doc,pm,an,cdv,ct,osl,rfl,l,c⟩,k⟩
end
section
variable{X:Cx}
theorem pv(i:Nat){x:Str}{pos:Pos}(hN:X.N[i]?=some x:=by rfl)(hv:Vis X.env.scope x:=by first | exact Or.inl rfl | exact Or.inr (Or.inl rfl) | exact Or.inr (Or.inr rfl))(hd:(x == ("__debug__" : Str))=false:=by decide)
 (hcd:(x == ("__classdict__" : Str))=false:=by decide):PE X (.Name x pos) (bg6 i):=bg7 hN hv hd hcd
end
section
variable{κ:Type}[DecidableEq κ]
def g7(kvs:List (κ×V))(k:κ):Option V:=(kvs.find? λkv=>decide (kv.1=k)).map (·.2)
def Y3(kvs:List (κ×V))(k:κ)(v:V):List (κ×V):=
 if (kvs.any λkv=>decide (kv.1=k))=true then kvs.map (λkv=>if kv.1=k then (kv.1,v) else kv) else kvs++[(k,v)]
theorem u5{p:κ×V}{r:List (κ×V)}{k:κ}(e:p.1=k):g7 (p::r) k=some p.2:=by simp [g7,List.find?_cons,e]
theorem u6{p:κ×V}{r:List (κ×V)}{k:κ}(e:¬p.1=k):g7 (p::r) k=g7 r k:=by simp [g7,List.find?_cons,e]
theorem af4(k:κ):∀kvs:List (κ×V),(kvs.any λkv=>decide (kv.1=k))=(g7 kvs k).isSome
 | []=>rfl
 | p::r=>by
   rw [List.any_cons]
   by_cases e:p.1=k
   ·simp only [u5 e,decide_eq_true e,Bool.true_or,Option.isSome_some]
   ·rw [u6 e,decide_eq_false e,Bool.false_or];exact af4 k r
theorem i6(kvs:List (κ×V))(k:κ)(v:V):(Y3 kvs k v).length<=kvs.length+1:=by
 unfold Y3
 split
 ·rw [List.length_map];omega
 ·rw [List.length_append,List.length_cons,List.length_nil];omega
theorem RelO.isSome_eq{o:Option V}{u:Option Value}(r:RelO o u):o.isSome=u.isSome:=by
 cases o with
 | none=>cases u with
   | none=>rfl
   | some _=>exact (show False from r).elim
 | some _=>cases u with
   | none=>exact (show False from r).elim
   | some _=>rfl
theorem RelO.getD{o:Option V}{u:Option Value}{d:V}{d':Value}(r:RelO o u)(rd:RelV d d'):RelV (o.getD d) (u.getD d'):=by
 cases o with
 | none=>cases u with
   | none=>exact rd
   | some _=>exact (show False from r).elim
 | some _=>cases u with
   | none=>exact (show False from r).elim
   | some _=>exact r
theorem KV.val{kvs:List (κ×V)}{vs:List (κ×Value)}(r:KV kvs vs)(k:κ):RelO (g7 kvs k) (valueAt vs k):=by
 unfold KV at r
 induction r with
 | nil=>exact True.intro
 | @cons p q ps qs h t ih=>
   obtain⟨h1,h2⟩:=h
   by_cases e:p.1=k
   ·have e':q.1=k:=h1.symm.trans e
    have b:valueAt (q::qs) k=some q.2:=by simp [valueAt,List.find?_cons,e']
    rw [u5 e,b];exact h2
   ·have e':¬q.1=k:=λz=>e (h1.trans z)
    have b:valueAt (q::qs) k=valueAt qs k:=by simp [valueAt,List.find?_cons,e']
    rw [u6 e,b];exact ih
theorem KV.any{kvs:List (κ×V)}{vs:List (κ×Value)}(r:KV kvs vs)(k:κ):(kvs.any λkv=>decide (kv.1=k))=vs.any λkv=>decide (kv.1=k):=by
 unfold KV at r
 induction r with
 | nil=>rfl
 | cons h t ih=>rw [List.any_cons,List.any_cons,ih,h.1]
theorem KV.repl{kvs:List (κ×V)}{vs:List (κ×Value)}(r:KV kvs vs)(k:κ){y:V}{u:Value}(ry:RelV y u) :
 KV (kvs.map λkv=>if kv.1=k then (kv.1,y) else kv) (vs.map λkv=>if kv.1=k then (kv.1,u) else kv):=by
 unfold KV at r ⊢
 induction r with
 | nil=>exact .nil
 | @cons p q ps qs h t ih=>
   rw [List.map_cons,List.map_cons]
   refine .cons ?_ ih
   obtain⟨h1,h2⟩:=h
   by_cases e:p.1=k
   ·rw [if_pos e,if_pos (h1.symm.trans e)];exact⟨h1,ry⟩
   ·rw [if_neg e,if_neg (λz=>e (h1.trans z))];exact⟨h1,h2⟩
theorem KV.put{kvs:List (κ×V)}{vs:List (κ×Value)}(r:KV kvs vs)(k:κ){y:V}{u:Value}(ry:RelV y u):KV (Y3 kvs k y) (stored vs k u):=by
 unfold Y3 stored
 rw [r.any k]
 by_cases e:(vs.any λkv=>decide (kv.1=k))=true
 ·rw [if_pos e,if_pos e];exact r.repl k ry
 ·rw [if_neg e,if_neg e];exact Paired.snoc r ⟨rfl,ry⟩
theorem KV.length{kvs:List (κ×V)}{vs:List (κ×Value)}(r:KV kvs vs):kvs.length=vs.length:=Paired.length r
end
theorem ap0{P:Program}{w:World}{k:Key}{u:Value}(r:RelV (kV k) u):(L7 P w).is k u=true:=by
 cases k with
 | inl i=>obtain⟨t,e⟩:=(show ∃t,u=Value.int i t from r);subst e;exact aw8 P w i t
 | inr x=>obtain⟨t,e⟩:=(show ∃t,u=Value.str x t from r);subst e;exact aw9 P w x t
theorem ap1{P:Program}{w:World}:∀{ks:List Key} {us:List Value},Vals (ks.map kV) us->ItemsAre (L7 P w) ks us
 | [],_,r=>by rw [List.map_nil] at r;cases r;exact .nil
 | k::ks,_,r=>by
   rw [List.map_cons] at r
   cases r with
   | cons h t=>exact .cons (ap0 h) (ap1 t)
abbrev KT(H:Hp):List (List Key×V)->List (List Key×Addr×Value)->Prop:=Paired λp q=>p.1=q.1/\H q.2.1=some (.tup (p.1.map kV))/\RelV p.2 q.2.2
theorem KT.val{H:Hp}{kvs:List (List Key×V)}{xs:List (List Key×Addr×Value)}(r:KT H kvs xs)(k:List Key):RelO (g7 kvs k) ((atKey xs k).map (·.2)):=by
 induction r with
 | nil=>exact True.intro
 | @cons p q ps qs h t ih=>
   obtain⟨h1,_,h2⟩:=h
   by_cases e:p.1=k
   ·have e':q.1=k:=h1.symm.trans e
    have b:atKey (q::qs) k=some q.2:=by simp [atKey,List.find?_cons,e']
    rw [u5 e,b];exact h2
   ·have e':¬q.1=k:=λz=>e (h1.trans z)
    have b:atKey (q::qs) k=atKey qs k:=by simp [atKey,List.find?_cons,e']
    rw [u6 e,b];exact ih
theorem KT.repl{H:Hp}{kvs:List (List Key×V)}{xs:List (List Key×Addr×Value)}(r:KT H kvs xs)(k:List Key){y:V}{u:Value}(ry:RelV y u) :
 KT H (kvs.map λkv=>if kv.1=k then (kv.1,y) else kv) (xs.map (putAt k u)):=by
 induction r with
 | nil=>exact .nil
 | @cons p q ps qs h t ih=>
   rw [List.map_cons,List.map_cons]
   refine .cons ?_ ih
   obtain⟨h1,h2,h3⟩:=h
   unfold putAt
   by_cases e:p.1=k
   ·rw [if_pos e,if_pos (h1.symm.trans e)];exact⟨h1,h2,ry⟩
   ·rw [if_neg e,if_neg (λz=>e (h1.trans z))];exact⟨h1,h2,h3⟩
theorem KT.put{H:Hp}{kvs:List (List Key×V)}{xs:List (List Key×Addr×Value)}(r:KT H kvs xs)(k:List Key){b:Addr}{y:V}{u:Value}(hb:H b=some (.tup (k.map kV)))(ry:RelV y u) :
 KT H (Y3 kvs k y) (storedH xs k b u):=by
 have e:(kvs.any λkv=>decide (kv.1=k))=(atKey xs k).isSome:=by
  rw [af4,(r.val k).isSome_eq,Option.isSome_map]
 unfold Y3 storedH
 rw [e]
 by_cases q:(atKey xs k).isSome=true
 ·rw [if_pos q,if_pos q];exact r.repl k ry
 ·rw [if_neg q,if_neg q];exact Paired.snoc r ⟨rfl,hb,ry⟩
theorem KT.keeps{H H':Hp}{kvs:List (List Key×V)}{xs:List (List Key×Addr×Value)}(r:KT H kvs xs)(ht:∀b ys,H b=some (.tup ys)->H' b=some (.tup ys)):KT H' kvs xs:=
 Paired.mapP r λ_ _ z=>⟨z.1,ht _ _ z.2.1,z.2.2⟩
section
variable{P:Program}{w:World}{H:Hp}{h:Heap}{a:Addr}
theorem be6{u:HO}(ok:HOk P w H h)(e:Rd H a u):ObjOk P w H h a u:=e.ok ok
theorem af5{kvs:List (Key×V)}(ok:HOk P w H h)(e:Rd H a (.dK kvs)):kvs.length<=sizeLine/\(a == sysModules)=false/\∃vs,KV kvs vs/\h.DictOf (L7 P w) a vs:=
 show ObjOk P w H h a (.dK kvs) from be6 ok e
theorem br0{kvs:List (Key×V)}(ok:HOk P w H h)(e:H a=some (.dK kvs)):kvs.length<=sizeLine/\(a == sysModules)=false/\∃vs,KV kvs vs/\h.DictOf (L7 P w) a vs:=af5 ok (.inl e)
theorem i7{ks:List Key}(ok:HOk P w H h)(e:H a=some (.tup (ks.map kV))):(tupleKind (L7 P w)).is h ks a:=by
 obtain⟨_,its,r,o,h1,h2,n,h3⟩:=(show ObjOk P w H h a (.tup (ks.map kV)) from ok a _ e)
 exact⟨o,its.toArray,n,h1,h2,h3,by simpa using ap1 r⟩
theorem af6{kvs:List (List Key×V)}(ok:HOk P w H h)(e:Rd H a (.dT kvs)):kvs.length<=sizeLine/\(a == sysModules)=false/\
 ∃xs,KT H kvs xs/\h.DictOfH (tupleKind (L7 P w)) a xs:=by
 obtain⟨z,y,xs,r,o,es,ep,h1,h2,h3,h4,h5⟩:=(show ObjOk P w H h a (.dT kvs) from be6 ok e)
 refine⟨z,y,xs,r,o,es,ep,h1,h2,h3,h4,λx hx=>?_,h5⟩
 have all:∀{l:List (List Key×V)} {m:List (List Key×Addr×Value)},KT H l m->∀x∈m,(tupleKind (L7 P w)).is h x.1 x.2.1:=by
  intro l m q
  induction q with
  | nil=>intro x hx;exact nomatch hx
  | @cons p q ps qs hq t ih=>
    intro x hx
    rcases List.mem_cons.mp hx with e | hx
    ·subst e
     exact i7 ok (by rw [←hq.1];exact hq.2.1)
    ·exact ih x hx
 exact all r x hx
theorem aV1{kvs:List (List Key×V)}(ok:HOk P w H h)(e:H a=some (.dT kvs)):kvs.length<=sizeLine/\(a == sysModules)=false/\
 ∃xs,KT H kvs xs/\h.DictOfH (tupleKind (L7 P w)) a xs:=af6 ok (.inl e)
end
def DGet(H:Hp)(a:Addr)(y:V)(r:Option V):Prop:=
 (∃kvs k,Rd H a (.dK kvs)/\y=kV k/\r=g7 kvs k)\/∃kvs k b,Rd H a (.dT kvs)/\y=.ref b/\H b=some (.tup (k.map kV))/\r=g7 kvs k
def DPut(H:Hp)(a:Addr)(y v:V)(H':Hp):Prop:=
 (∃kvs k,H a=some (.dK kvs)/\y=kV k/\kvs.length<sizeLine/\H'=upd H a (.dK (Y3 kvs k v)))\/
 ∃kvs k b,H a=some (.dT kvs)/\y=.ref b/\H b=some (.tup (k.map kV))/\kvs.length<sizeLine/\H'=upd H a (.dT (Y3 kvs k v))
theorem DGet.t{H:Hp}{a b:Addr}{kvs:List (List Key×V)}{k:List Key}(e:H a=some (.dT kvs))(eb:H b=some (.tup (k.map kV))):DGet H a (.ref b) (g7 kvs k):=.inr ⟨kvs,k,b,.inl e,rfl,eb,rfl⟩
theorem DPut.t{H:Hp}{a b:Addr}{kvs:List (List Key×V)}{k:List Key}{v:V}(e:H a=some (.dT kvs))(eb:H b=some (.tup (k.map kV)))(hl:kvs.length<sizeLine) :
 DPut H a (.ref b) v (upd H a (.dT (Y3 kvs k v))):=.inr ⟨kvs,k,b,e,rfl,eb,hl,rfl⟩
section
variable{X:Cx}{pins:List (Addr×Obj)}{σ:St}{H:Hp}{s:Shared}{a:Addr}{y v:V}{u r:Value}{o:Option V}{A:Around}{E:Value->Shared->Prop}
theorem Inv.big(I:Inv X pins σ H s):sysModules<s.heap.objs.size:=by
 have h:mainGlobals<s.heap.objs.size:=(I.mod.glob.keeps I.bk).lt
 exact Nat.lt_trans (by decide) h
theorem aN8{Q:Value->Shared->Prop}(hu:A.units+1<cLine)(I:Inv X pins σ H s)(g:DGet H a y (some v))(ry:RelV y u)(h:∀w' s',Inv X pins σ H s'->RelV v w'->Q w' s') :
 wpAny (model X.prog X.w) A (getItem (.ref a) u) Q E s:=by
 rcases g with ⟨kvs,k,e,ey,l⟩ | ⟨kvs,k,b,e,ey,eb,l⟩
 ·subst ey
  obtain⟨z,hd,vs,rel,dd⟩:=af5 I.hok e
  obtain⟨w',hw,rw'⟩:=RelO.some_of (v:=v) (o:=valueAt vs k) (by rw [l];exact rel.val k)
  exact wpAny_getItem_of (ap0 ry) dd.mapOf hw (h w' _ (I.tok _) rw')
 ·subst ey
  cases (show u=Value.ref b from ry)
  obtain⟨z,hd,xs,rel,dd⟩:=af6 I.hok e
  obtain⟨w',hw,rw'⟩:=RelO.some_of (v:=v) (o:=(atKey xs k).map (·.2)) (by rw [l];exact rel.val k)
  obtain⟨p,hp,hp2⟩:=Option.map_eq_some_iff.mp hw
  refine wpAny_getItem_heap (tupleKind_room_in1 hu) (i7 I.hok eb) dd hp ?_
  rw [hp2]
  exact h w' _ (I.tok _) rw'
theorem bw2{Q:Value->Shared->Prop}(hu:A.units+1<cLine)(I:Inv X pins σ H s)(g:DGet H a y o)(ry:RelV y u)(h:∀s',Inv X pins σ H s'->Q (.bool o.isSome) s') :
 wpAny (model X.prog X.w) A (compareOp .In u (.ref a)) Q E s:=by
 rcases g with ⟨kvs,k,e,ey,l⟩ | ⟨kvs,k,b,e,ey,eb,l⟩
 ·subst ey
  obtain⟨z,hd,vs,rel,dd⟩:=af5 I.hok e
  refine wpAny_in_of (ap0 ry) hd dd.mapOf ?_
  rw [←(rel.val k).isSome_eq,←l]
  exact h _ (I.tok _)
 ·subst ey
  cases (show u=Value.ref b from ry)
  obtain⟨z,hd,xs,rel,dd⟩:=af6 I.hok e
  refine wpAny_in_heap (tupleKind_room_in1 hu) (i7 I.hok eb) hd dd ?_
  have q:=(rel.val k).isSome_eq
  rw [Option.isSome_map] at q
  rw [←q,←l]
  exact h _ (I.tok _)
theorem as8{h':Heap}{t':Nat}{ob:HO}(I:Inv X pins σ H s)(mu:Mut (H a))(hs:Heap.SameBut a s.heap h')(he:∃q,h'.get? a=some q)(new:ObjOk X.prog X.w (upd H a ob) h' a ob) :
 Inv X pins σ (upd H a ob) { s with heap:=h',toks:=t' }:=
 I.write (x:=a) (e:=a) mu (.inl rfl) (λb q hb z=>(hs.2 b hb).trans z) he new
theorem bk1{P:Program}{w:World}{H':Hp}{h':Heap}{kvs:List (Key×V)}{vs:List (Key×Value)}(z:kvs.length<=sizeLine)(hd:(a == sysModules)=false)(rel:KV kvs vs)(dd:h'.DictOf (L7 P w) a vs) :
 ObjOk P w H' h' a (.dK kvs):=⟨z,hd,vs,rel,dd⟩
theorem aN9{H':Hp}{Q:Unit->Shared->Prop}(hu:A.units+1<cLine)(I:Inv X pins σ H s)(g:DPut H a y v H')(ry:RelV y u)(rv:RelV v r)(h:∀s',Inv X pins σ H' s'->Q () s') :
 wpAny (model X.prog X.w) A (setItem (.ref a) u r) Q E s:=by
 rcases g with ⟨kvs,k,e,ey,l,eH⟩ | ⟨kvs,k,b,e,ey,eb,l,eH⟩
 ·subst ey eH
  obtain⟨z,hd,vs,rel,dd⟩:=br0 I.hok e
  have hz:vs.length<=sizeLine:=by rw [←rel.length];exact z
  have hl:(Y3 kvs k v).length<=sizeLine:=by have:=i6 kvs k v;omega
  refine wpAny_setItem_pairs (hsz:=hz) (ap0 ry) dd λh' dd' hs=>h _ ?_
  have he:∃q,h'.get? a=some q:=let ⟨q,_,_,hq,_⟩:=dd';⟨q,hq⟩
  exact as8 I (by rw [e];exact True.intro) hs he (bk1 hl hd (rel.put k rv) dd')
 ·subst ey eH
  cases (show u=Value.ref b from ry)
  obtain⟨z,hd,xs,rel,dd⟩:=aV1 I.hok e
  have hz:xs.length<=sizeLine:=by rw [←Paired.length rel];exact z
  have hl:(Y3 kvs k v).length<=sizeLine:=by have:=i6 kvs k v;omega
  refine wpAny_setItem_heap (hsz:=hz) (tupleKind_room_in1 hu) (i7 I.hok eb) dd λh' dd' hs=>h _ ?_
  obtain⟨q,es,ep,hq,h2,h3,h4,_,h5⟩:=dd'
  refine as8 I (by rw [e];exact True.intro) hs ⟨q,hq⟩ ⟨hl,hd,_,(rel.put k eb rv).keeps λc ys ec=>?_,q,es,ep,hq,h2,h3,h4,h5⟩
  rw [E4 (bd7 ec e (λz=>nomatch z))]
  exact ec
end
def bk2(i:Expr):Prop:=∀ov iv,subscripted i false ov iv=operate [ov,iv] (getItem ov iv)
theorem a69{prog:Program}{w:World}{A:Around}{E:Value->Shared->Prop}{s:Shared}{env:Env}{value slice:Expr}{pos:Pos}{T id:String}{Q:Value->Shared->Prop}
 (hl:typeLookup (.type T) "__getitem__" = pure (some (.builtin id))) (hs:bk2 slice)
 (h:wpAny (model prog w) A (eval value env) (λo s₁=>wpAny (model prog w) A (eval slice env) (λi s₂=>s₂.TypeIs o T/\wpAny (model prog w) A (getItem o i) Q E s₂) E s₁) E s) :
 wpAny (model prog w) A (eval (.Subscript value slice pos) env) Q E s:=by
 refine Subscript_ (wpAny_mono h (λo s₁ h₁=>wpAny_mono h₁ (λi s₂ h₂=>?_) λ_ _ x=>x) λ_ _ x=>x)
 obtain⟨hT,h₂⟩:=h₂
 unfold subscriptTail
 refine wpAny_bind ?_
 rw [getitemInPython_of_ne hT.not_modules]
 refine wpAny_bind (wpAny_specialOf hT hl ?_)
 have fin:wpAny (model prog w) A (subscripted slice false o i) (λr s₃=>wpAny (model prog w) A (letTemporaryGo value o r>>=λ_=>pure r) Q E s₃) E s₂:=by
  rw [hs o i]
  exact wpAny_operating (wpAny_mono h₂ (λr s₃ h₃=>wpAny_bind (wpAny_letTemporaryGo (wpAny_pure h₃))) λ_ _ x=>x)
 first
  | exact wpAny_pure (wpAny_bind fin)
  | exact wpAny_bind (wpAny_pure (wpAny_bind fin))
  | exact wpAny_bind fin
theorem ax4{X:Cx}{pins:List (Addr×Obj)}{σ:St}{H:Hp}{s:Shared}{a:Addr}{y:V}{o:Option V}(I:Inv X pins σ H s)(g:DGet H a y o):s.TypeIs (.ref a) "dict":=by
 rcases g with ⟨kvs,k,e,_,_⟩ | ⟨kvs,k,b,e,_,_,_⟩
 ·obtain⟨_,_,vs,_,dd⟩:=af5 I.hok e
  exact dd.typeIs
 ·obtain⟨_,_,xs,_,dd⟩:=af6 I.hok e
  exact dd.typeIs
def br1(td ty:TE):TE:=λσ H Q=>td σ H λx H1=>ty σ H1 λy H2=>∃a v,x=.ref a/\DGet H2 a y (some v)/\Q v H2
def br2(ty td:TE):TE:=λσ H Q=>ty σ H λy H1=>td σ H1 λx H2=>∃a o,x=.ref a/\DGet H2 a y o/\Q (.bl o.isSome) H2
def br3(td ty tv:TE):TS:=λD σ H=>tv σ H λv H1=>td σ H1 λx H2=>ty σ H2 λy H3=>∃a H4,x=.ref a/\DPut H3 a y v H4/\D.nx σ H4
section
variable{X:Cx}{o i e value:Expr}{pos pos' tpos:Pos}{td ty tv:TE}
theorem a70(hu:X.A.units+1<cLine)(ho:PE X o td)(hi:PE X i ty)(hs:bk2 i):PE X (.Subscript o i pos) (br1 td ty):=by
 intro pins s σ H Q I h
 refine a69 PySem.F.slot_dict_getitem.lookup hs (thn (ho pins s σ H _ I h) λu s1 ⟨x,H1,I1,rx,q1⟩=>thn (hi pins s1 σ H1 _ I1 q1) λiv s2 ⟨y,H2,I2,ry,a,v,ex,g,q2⟩=>?_)
 subst ex
 obtain rfl:u=Value.ref a:=rx
 exact⟨ax4 I2 g,aN8 hu I2 g ry λw' s3 I3 rw'=>⟨v,H2,I3,rw',q2⟩⟩
theorem aV2(hu:X.A.units+1<cLine)(hi:PE X i ty)(ho:PE X o td):PC X .In i o (br2 ty td):=by
 intro pins s σ H Q I h
 refine thn (hi pins s σ H _ I h) λiv s1 ⟨y,H1,I1,ry,q1⟩=>thn (ho pins s1 σ H1 _ I1 q1) λu s2 ⟨x,H2,I2,rx,a,ov,ex,g,q2⟩=>?_
 subst ex
 obtain rfl:u=Value.ref a:=rx
 exact bw2 hu I2 g ry λs3 I3=>⟨.bl ov.isSome,H2,I3,rfl,q2⟩
theorem a71(hu:X.A.units+1<cLine)(ho:PE X o td)(hi:PE X i ty)(hv:PE X value tv)(hs:swapsWith value (some (.Subscript o i pos')) pos.line X.env=pure false) :
 PS X (.Assign [.Subscript o i pos'] value pos) (br3 td ty tv):=by
 intro pins s σ H D I h
 refine wpAny_Assign_Subscript (thn (hv pins s σ H _ I h) λr s1 ⟨v,H1,I1,rv,q1⟩=>thn (ho pins s1 σ H1 _ I1 q1) λu s2 ⟨x,H2,I2,rx,q2⟩=>thn (hi pins s2 σ H2 _ I2 q2) λiv s3 ⟨y,H3,I3,ry,a,H4,ex,g,q3⟩=>?_) hs
 subst ex
 obtain rfl:u=Value.ref a:=rx
 exact aN9 hu I3 g ry rv λs4 I4=>⟨σ,H4,I4,q3⟩
end
theorem aV3{P:Program}{w:World}{H:Hp}(h:Heap)(hb:sysModules<h.objs.size):ObjOk P w H (h.push { cls:=.type "dict",data:=.dict #[] }) h.objs.size (.dT []):=
 ⟨Nat.zero_le _,beq_eq_false_iff_ne.mpr (Ne.symm (Nat.ne_of_lt hb)),[],.nil,_,#[],0,Heap.get?_push_size _ rfl,⟨rfl,rfl,rfl⟩,rfl,rfl,List.nodup_nil⟩
def tDNewT:TE:=λ_ H Q=>∀p,H p=none->Q (.ref p) (upd H p (.dT []))
section
variable{X:Cx}{pos:Pos}
theorem aV4:PE X (.Dict [] [] pos) tDNewT:=λpins s σ H Q I h=>
 wpAny_Dict_empty ⟨.ref s.heap.objs.size,_,I.laid (a:=s.heap.objs.size) (o:=.dT []) (t':=s.toks) (λ_ _ q=>Heap.get?_push_of_some _ q) (Nat.le_refl _) (aV3 s.heap I.big),rfl,h _ (I.hok.fresh (Nat.le_refl _))⟩
end
structure M1(X:Cx)(o:Expr)(m:Str)(apos:Pos)(e:Expr)(cpos:Pos):Prop where
 base:attributeBase o m X.env (eval o X.env)=eval o X.env
 few:((backTo cpos (starEach [e] X.env)).all (λx=>!x.1)&&(backToKw cpos (keywordEach [] X.env)).all (λx=>x.1.isSome)
  &&decide (([e]:List Expr).length+([]:List Keyword).length+(if ([]:List Keyword).isEmpty then 0 else 1)<30))=true
 line:(apos.endLine == cpos.line)=true
 trees:backTo cpos (starEach [e] X.env)=[(false,eval e X.env)]
structure M2(X:Cx)(o:Expr)(m:Str)(apos:Pos)(e f:Expr)(cpos:Pos):Prop where
 base:attributeBase o m X.env (eval o X.env)=eval o X.env
 few:((backTo cpos (starEach [e,f] X.env)).all (λx=>!x.1)&&(backToKw cpos (keywordEach [] X.env)).all (λx=>x.1.isSome)
  &&decide (([e,f]:List Expr).length+([]:List Keyword).length+(if ([]:List Keyword).isEmpty then 0 else 1)<30))=true
 line:(apos.endLine == cpos.line)=true
 trees:backTo cpos (starEach [e,f] X.env)=[(false,eval e X.env),(false,eval f X.env)]
def IsD(H:Hp)(a:Addr):Prop:=(∃kvs,Rd H a (.dK kvs))\/∃kvs,Rd H a (.dT kvs)
theorem aD6{X:Cx}{pins:List (Addr×Obj)}{σ:St}{H:Hp}{s:Shared}{a:Addr}(I:Inv X pins σ H s)(d:IsD H a) :
 s.TypeIs (.ref a) "dict"/\(∀b,Value.ref a=.ref b->∃ob,s.heap.get? b=some ob/\ob.dict=none)/\(a == sysModules)=false:=by
 rcases d with ⟨kvs,e⟩ | ⟨kvs,e⟩
 ·obtain⟨_,hd,vs,_,dd⟩:=af5 I.hok e
  refine⟨dd.typeIs,λb q=>?_,hd⟩
  cases q
  obtain⟨ob,_,_,h1,h2,_⟩:=dd
  exact⟨ob,h1,h2.2.1⟩
 ·obtain⟨_,hd,xs,_,dd⟩:=af6 I.hok e
  refine⟨dd.typeIs,λb q=>?_,hd⟩
  cases q
  obtain⟨ob,_,_,h1,h2,_⟩:=dd
  exact⟨ob,h1,h2.2.1⟩
section
variable{X:Cx}{pins:List (Addr×Obj)}{σ:St}{H:Hp}{s:Shared}{a:Addr}{y d:V}{u r:Value}{o:Option V}{A:Around}{E:Value->Shared->Prop}
theorem bk3{Q:Value->Shared->Prop}(hu:A.units+1<cLine)(I:Inv X pins σ H s)(g:DGet H a y o)(ry:RelV y u)(h:∀w' s',Inv X pins σ H s'->RelV (o.getD .non) w'->Q w' s') :
 wpAny (model X.prog X.w) A (call (.builtin "dict.get") [.ref a,u]) Q E s:=by
 rcases g with ⟨kvs,k,e,ey,l⟩ | ⟨kvs,k,b,e,ey,eb,l⟩
 ·subst ey
  obtain⟨z,hd,vs,rel,dd⟩:=af5 I.hok e
  refine call_meetsIn PySem.F.slot_dict_get dd.typeIs PySem.F.entry_dict_get (PySem.F.args_dict_get_2 _ _) (meets_dict_get (L7 X.prog X.w) a (ap0 ry) hd) ⟨_,dd.mapOf,h _ _ (I.tok _) ?_⟩
  rw [l]
  exact (rel.val k).getD rfl
 ·subst ey
  cases (show u=Value.ref b from ry)
  obtain⟨z,hd,xs,rel,dd⟩:=af6 I.hok e
  refine call_meetsIn PySem.F.slot_dict_get dd.typeIs PySem.F.entry_dict_get (PySem.F.args_dict_get_2 _ _) (meetsH_dict_get (tupleKind (L7 X.prog X.w)) a b hd) ⟨tupleKind_room_in1 hu,k,xs,i7 I.hok eb,dd,h _ _ (I.tok _) ?_⟩
  rw [l]
  exact (rel.val k).getD rfl
theorem bk4{Q:Value->Shared->Prop}(hu:A.units+1<cLine)(I:Inv X pins σ H s)(g:DGet H a y o)(ry:RelV y u)(rd:RelV d r)(h:∀w' s',Inv X pins σ H s'->RelV (o.getD d) w'->Q w' s') :
 wpAny (model X.prog X.w) A (call (.builtin "dict.get") [.ref a,u,r]) Q E s:=by
 rcases g with ⟨kvs,k,e,ey,l⟩ | ⟨kvs,k,b,e,ey,eb,l⟩
 ·subst ey
  obtain⟨z,hd,vs,rel,dd⟩:=af5 I.hok e
  refine call_meetsIn PySem.F.slot_dict_get dd.typeIs PySem.F.entry_dict_get (PySem.F.args_dict_get_3 _ _ _) (meets_dict_get_default (L7 X.prog X.w) a (ap0 ry) hd r) ⟨_,dd.mapOf,h _ _ (I.tok _) ?_⟩
  rw [l]
  exact (rel.val k).getD rd
 ·subst ey
  cases (show u=Value.ref b from ry)
  obtain⟨z,hd,xs,rel,dd⟩:=af6 I.hok e
  refine call_meetsIn PySem.F.slot_dict_get dd.typeIs PySem.F.entry_dict_get (PySem.F.args_dict_get_3 _ _ _) (meetsH_dict_get_default (tupleKind (L7 X.prog X.w)) a b hd r) ⟨tupleKind_room_in1 hu,k,xs,i7 I.hok eb,dd,h _ _ (I.tok _) ?_⟩
  rw [l]
  exact (rel.val k).getD rd
end
def bk5(td ty:TE):TE:=λσ H Q=>td σ H λx H1=>∃a,x=.ref a/\IsD H1 a/\ty σ H1 λy H2=>∃o,DGet H2 a y o/\Q (o.getD .non) H2
def bk6(td ty tx:TE):TE:=λσ H Q=>td σ H λx H1=>∃a,x=.ref a/\IsD H1 a/\ty σ H1 λy H2=>tx σ H2 λz H3=>∃o,DGet H3 a y o/\Q (o.getD z) H3
section
variable{X:Cx}{o e f:Expr}{apos cpos:Pos}{td ty tx:TE}
theorem aV5(hu:X.A.units+1<cLine)(ho:PE X o td)(he:PE X e ty)(m:M1 X o "get" apos e cpos):PE X (.Call (.Attribute o "get" apos) [e] [] cpos) (bk5 td ty):=by
 intro pins s σ H Q I h
 refine wpAny_Call_method m.base m.few m.line PySem.F.plainAttrs_dict PySem.F.slot_dict_get PySem.F.type_dict_get (thn (ho pins s σ H _ I h) λu s1 ⟨x,H1,I1,rx,a,ex,d,q1⟩=>?_)
 subst ex
 obtain rfl:u=Value.ref a:=rx
 obtain⟨t1,t2,_⟩:=aD6 I1 d
 refine⟨t1,t2,?_⟩
 rw [m.trees]
 refine Calls.callWith_builtin rfl (Calls.evalArgs_plain (Calls.spliced_cons (thn (he pins s1 σ H1 _ I1 q1) λiv s2 ⟨y,H2,I2,ry,ov,g,q2⟩=>Calls.spliced_nil ?_)))
 exact bk3 hu I2 g ry λw' s3 I3 rw'=>⟨_,H2,I3,rw',q2⟩
theorem aV6(hu:X.A.units+1<cLine)(ho:PE X o td)(he:PE X e ty)(hf:PE X f tx)(m:M2 X o "get" apos e f cpos):PE X (.Call (.Attribute o "get" apos) [e,f] [] cpos) (bk6 td ty tx):=by
 intro pins s σ H Q I h
 refine wpAny_Call_method m.base m.few m.line PySem.F.plainAttrs_dict PySem.F.slot_dict_get PySem.F.type_dict_get (thn (ho pins s σ H _ I h) λu s1 ⟨x,H1,I1,rx,a,ex,d,q1⟩=>?_)
 subst ex
 obtain rfl:u=Value.ref a:=rx
 obtain⟨t1,t2,_⟩:=aD6 I1 d
 refine⟨t1,t2,?_⟩
 rw [m.trees]
 refine Calls.callWith_builtin rfl (Calls.evalArgs_plain (Calls.spliced_cons (thn (he pins s1 σ H1 _ I1 q1) λiv s2 ⟨y,H2,I2,ry,q2⟩=>
  Calls.spliced_cons (thn (hf pins s2 σ H2 _ I2 q2) λfv s3 ⟨z,H3,I3,rz,ov,g,q3⟩=>Calls.spliced_nil ?_))))
 exact bk4 hu I3 g ry rz λw' s4 I4 rw'=>⟨_,H3,I4,rw',q3⟩
end
end L2
set_option maxRecDepth 100000
namespace Ws
noncomputable section
inductive PV where
 | non | bl (b:Bool) | int (i:Int) | str (x:PySem.Str) | tup (l:List PV) | ref (n:Nat)
inductive PO where
 | lst (l:List PV)
 | ro (l:List PV)
 | dI (kvs:List (Int×PV))
 | ins (c:Nat) (fs:List (Nat×PV))
   | dT (kvs:List (List Int×PV))
   | exc (c:Nat) (v:PV)
abbrev PHp:=List PO
inductive R (α:Type) where
 | ok (a:α) (A:PHp)
 | ex (c:Nat) (v:PV) (A:PHp)
 | no
abbrev M(α:Type):=PHp->R α
@[simp] noncomputable def ret{α:Type}(a:α):M α:=λA=>.ok a A
@[simp] def stuck{α:Type}:M α:=λ_=>.no
@[simp] noncomputable def bnd{α β:Type}(m:M α)(f:α->M β):M β:=λA=>match m A with
  | .ok a A'=>f a A'
  | .ex c v A'=>.ex c v A'
  | .no=>.no
def J4{α:Type}(P:Prop)(m:M α):M α:=@ite _ P (Classical.propDecidable P) m stuck
theorem m8{α:Type}{P:Prop}{m:M α}(h:P):J4 P m=m:=if_pos h
@[simp] theorem bk7{α:Type}{m:M α}:J4 True m=m:=if_pos trivial
theorem C8{α:Type}{P:Prop}{m:M α}{A A':PHp}{a:α}(h:J4 P m A=.ok a A'):P/\m A=.ok a A':=by
 by_cases p:P
 ·rw [m8 p] at h;exact⟨p,h⟩
 ·rw [show J4 P m=stuck from if_neg p] at h;cases h
theorem bnd_ok{α β:Type}{m:M α}{f:α->M β}{A A':PHp}{a:α}(h:m A=.ok a A'):bnd m f A=f a A':=by unfold bnd;rw [h]
theorem B0{α β:Type}{m:M α}{f:α->M β}{A A':PHp}{b:β}(h:bnd m f A=.ok b A'):∃a A1,m A=.ok a A1/\f a A1=.ok b A':=by
 unfold bnd at h
 cases e:m A with
 | ok a A1=>rw [e] at h;exact⟨a,A1,rfl,h⟩
 | ex c v A1=>rw [e] at h;cases h
 | no=>rw [e] at h;cases h
abbrev PSt:=List (Option PV)
abbrev ED:=PSt->M PV
abbrev TD:=PSt->M Bool
abbrev AD:=PSt->M (List PV)
abbrev Fun:=List PV->M PV
inductive Fl where
 | nx (σ:PSt) | rt (v:PV) | bk (σ:PSt) | ct (σ:PSt)
abbrev SD:=PSt->M Fl
abbrev GD:=PV->PSt->M PSt
@[irreducible] def LIM:Nat:=100000
theorem lim_le{n:Nat}(h:n<=10000):n<=LIM:=by unfold LIM;omega
theorem Z2{n:Nat}(h:n<10000):n<LIM:=by unfold LIM;omega
@[simp] theorem bx7:0<=LIM:=Nat.zero_le _
@[simp] theorem bx8:1<=LIM:=lim_le (by omega)
@[simp] theorem bx9:2<=LIM:=lim_le (by omega)
@[simp] theorem by0:3<=LIM:=lim_le (by omega)
@[simp] theorem by1:4<=LIM:=lim_le (by omega)
mutual
def eqv:PV->PV->Bool
 | .non,.non=>true
 | .bl a,.bl b=>a == b
 | .int i,.int j=>decide (i=j)
 | .str x,.str y=>decide (x=y)
 | .tup l,.tup m=>W2 l m
 | _,_=>false
def W2:List PV->List PV->Bool
 | [],[]=>true
 | x::xs,y::ys=>eqv x y&&W2 xs ys
 | _,_=>false
end
mutual
def d5:PV->Bool
 | .non=>true
 | .int _=>true
 | .str _=>true
 | .tup l=>u7 l
 | _=>false
def u7:List PV->Bool
 | []=>true
 | x::xs=>d5 x&&u7 xs
end
@[simp] def O4:PV->Bool
  | .non=>true
  | .int _=>true
  | .str _=>true
  | _=>false
def aI0:PV->Bool
 | .tup l=>l.all O4
 | x=>O4 x
def af7:PV->Bool
 | .tup l=>l.all aI0
 | x=>O4 x
def plain:PV->Bool
 | .tup l=>l.all af7
 | x=>O4 x
def N3(l:List PV):Bool:=l.all plain
@[simp] theorem bo9(i:Int):plain (.int i)=true:=rfl
@[simp] theorem bp0:plain .non=true:=rfl
@[simp] def alloc(o:PO):M PV:=λA=>.ok (.ref A.length) (A++[o])
@[simp] def D3(n:Nat):M (List PV):=λA=>match A[n]? with
  | some (.lst l)=>.ok l A
  | some (.ro l)=>.ok l A
  | _=>.no
@[simp] def T8(n:Nat):M (List PV):=λA=>match A[n]? with
  | some (.lst l)=>.ok l A
  | _=>.no
@[simp] def put(n:Nat)(o:PO):M Unit:=λA=>.ok () (A.set n o)
@[simp] def i8(n:Nat):M (Nat×List (Nat×PV)):=λA=>match A[n]? with
  | some (.ins c fs)=>.ok (c,fs) A
  | _=>.no
@[simp] def O5(v:PV):M (List PV):=match v with
  | .ref n=>D3 n
  | .tup l=>ret l
  | _=>stuck
@[simp] def eVar(i:Nat):ED:=λσ=>match σ[i]? with
  | some (some v)=>ret v
  | _=>stuck
@[simp] def eK(v:PV):ED:=λ_=>ret v
@[simp] def aNil:AD:=λ_=>ret []
@[simp] def aCons(e:ED)(es:AD):AD:=λσ=>bnd (e σ) λx=>bnd (es σ) λxs=>ret (x::xs)
@[simp] def W3(es:AD):ED:=λσ=>bnd (es σ) λxs=>J4 (xs.length<=LIM) (ret (.tup xs))
@[simp] def eLst(es:AD):ED:=λσ=>bnd (es σ) λxs=>J4 (xs.length<=LIM) (alloc (.lst xs))
abbrev OD:=PV->PV->M PV
@[simp] def eBin(f:OD)(a b:ED):ED:=λσ=>bnd (a σ) λx=>bnd (b σ) λy=>f x y
@[simp] def V6:OD
  | .int i,.int j=>ret (.int (i+j))
  | .tup l,.tup m=>J4 (l≠[]/\l.length+m.length<=LIM) (ret (.tup (l++m)))
  | .ref n,.ref k=>bnd (T8 n) λl=>bnd (T8 k) λm=>J4 (l.length+m.length<=LIM) (alloc (.lst (l++m)))
  | _,_=>stuck
@[simp] def bk8:OD
  | .int i,.int j=>ret (.int (i - j))
  | _,_=>stuck
@[simp] def aO0:OD
  | .int i,.int j=>J4 ((-(2 ^ 64)<i/\i<2 ^ 64)\/(-(2 ^ 64)<j/\j<2 ^ 64)) (ret (.int (i*j)))
  | _,_=>stuck
@[simp] def oMod:OD
  | .int i,.int j=>J4 (0<j) (ret (.int (i%j)))
  | _,_=>stuck
@[simp] def aV7:OD
  | .int i,.int j=>J4 (0<j/\j<1073741824) (ret (.int (i / j)))
  | _,_=>stuck
@[simp] def oLt:OD
  | .int i,.int j=>ret (.bl (decide (i<j)))
  | _,_=>stuck
@[simp] def oLe:OD
  | .int i,.int j=>ret (.bl (decide (i<=j)))
  | _,_=>stuck
@[simp] def oGt:OD
  | .int i,.int j=>ret (.bl (decide (j<i)))
  | _,_=>stuck
@[simp] def oGe:OD
  | .int i,.int j=>ret (.bl (decide (j<=i)))
  | _,_=>stuck
@[simp] def as9:PV->PV->Bool
  | .bl _,.bl _=>true
  | _,_=>false
@[simp] def pEq(x y:PV):M Bool:=match x,y with
  | .ref n,.ref k=>bnd (D3 n) λl=>bnd (D3 k) λm=>J4 (N3 l=true/\N3 m=true) (ret (W2 l m))
  | x,y=>J4 (as9 x y=true\/(plain x=true/\plain y=true)) (ret (eqv x y))
@[simp] def oEq:OD:=λx y=>bnd (pEq x y) λb=>ret (.bl b)
@[simp] def oNe:OD:=λx y=>bnd (pEq x y) λb=>ret (.bl (!b))
def pIn(x:PV)(l:List PV):Bool:=l.any λy=>eqv y x
@[simp] def oIn:OD:=λx y=>bnd (O5 y) λl=>J4 (plain x=true/\N3 l=true) (ret (.bl (pIn x l)))
@[simp] def af8:OD:=λx y=>bnd (O5 y) λl=>J4 (plain x=true/\N3 l=true) (ret (.bl (!pIn x l)))
@[simp] def ax5:PV->Bool
  | .non=>true
  | _=>false
@[simp] def aD7(a:ED):ED:=λσ=>bnd (a σ) λx=>ret (.bl (ax5 x))
@[simp] def be7(a:ED):ED:=λσ=>bnd (a σ) λx=>ret (.bl (!ax5 x))
@[simp] def at1(f g:OD)(a b c:ED):ED:=λσ=>bnd (a σ) λx=>bnd (b σ) λy=>bnd (f x y) λz=>match z with
  | .bl true=>bnd (c σ) λu=>g y u
  | .bl false=>ret (.bl false)
  | _=>stuck
@[simp] def asB(v:PV):M Bool:=match v with
  | .bl b=>ret b
  | _=>stuck
@[simp] def G0(e:ED):TD:=λσ=>bnd (e σ) asB
@[simp] def tAnd(a b:TD):TD:=λσ=>bnd (a σ) λc=>if c=true then b σ else ret false
@[simp] def tOr(a b:TD):TD:=λσ=>bnd (a σ) λc=>if c=true then ret true else b σ
@[simp] def tNot(a:TD):TD:=λσ=>bnd (a σ) λc=>ret (!c)
@[simp] def i9(a b:ED):ED:=λσ=>bnd (bnd (a σ) asB) λc=>if c=true then b σ else ret (.bl false)
@[simp] def eOr(a b:ED):ED:=λσ=>bnd (bnd (a σ) asB) λc=>if c=true then ret (.bl true) else b σ
@[simp] def bk9(a:ED):ED:=λσ=>bnd (bnd (a σ) asB) λc=>ret (.bl (!c))
@[simp] def eIf(t:TD)(a b:ED):ED:=λσ=>bnd (t σ) λc=>if c=true then a σ else b σ
def ixN(n:Nat)(i:Int):Option Nat:=if 0<=i then (if i<n then some i.toNat else none) else if -(n:Int)<=i then some (i+n).toNat else none
def atI{α:Type}(xs:List α)(i:Int):Option α:=(ixN xs.length i).bind λj=>xs[j]?
@[simp] def oIx:OD:=λx y=>match y with
  | .int i=>bnd (O5 x) λl=>match atI l i with
    | some v=>ret v
    | none=>stuck
  | _=>stuck
def a7(n d:Nat):Option Int->Nat
 | none=>d
 | some v=>if v<0 then (max (v+n) 0).toNat else (min v n).toNat
def cut{α:Type}(xs:List α)(lo hi:Option Int):List α:=(xs.drop (a7 xs.length 0 lo)).take (a7 xs.length xs.length hi - a7 xs.length 0 lo)
abbrev LD:=PSt->M (Option Int)
@[simp] def lNo:LD:=λ_=>ret none
@[simp] def lAt(e:ED):LD:=λσ=>bnd (e σ) λx=>match x with
  | .int i=>ret (some i)
  | _=>stuck
@[simp] def aD8(a:ED)(lo hi:LD):ED:=λσ=>bnd (a σ) λx=>bnd (lo σ) λl=>bnd (hi σ) λh=>match x with
  | .ref n=>bnd (D3 n) λxs=>alloc (.lst (cut xs l h))
  | .tup xs=>J4 (¬(a7 xs.length 0 l=0/\a7 xs.length xs.length h=xs.length)) (ret (.tup (cut xs l h)))
  | _=>stuck
@[simp] def aa3(a:ED):ED:=λσ=>bnd (a σ) λx=>bnd (O5 x) λl=>ret (.int l.length)
@[simp] def u8(a:ED):ED:=λσ=>bnd (a σ) λx=>bnd (O5 x) λl=>alloc (.lst l)
def J6:List PV->Option (List Int)
 | []=>some []
 | .int i::r=>(J6 r).map (i :: ·)
 | _=>none
def W6:List PV->Option (List (List Int))
 | []=>some []
 | .tup (x::l)::r=>match J6 (x::l),W6 r with
   | some z,some zs=>some (z::zs)
   | _,_=>none
 | _=>none
def E6:List Int->List Int->Bool
 | _,[]=>false
 | [],_::_=>true
 | x::xs,y::ys=>if x=y then E6 xs ys else decide (x<y)
def g6{α:Type}(lt:α->α->Bool)(a:α):List α->List α
 | []=>[a]
 | b::r=>if lt b a=true then b::g6 lt a r else a::b::r
def G1{α:Type}(lt:α->α->Bool):List α->List α
 | []=>[]
 | a::r=>g6 lt a (G1 lt r)
def ltI(i j:Int):Bool:=decide (i<j)
def d6(l:List PV):M (List PV):=J4 (l.length<64) (match J6 l with
    | some ns=>ret ((G1 ltI ns).map .int)
    | none=>match W6 l with
      | some ts=>ret ((G1 E6 ts).map λt=>.tup (t.map .int))
      | none=>stuck)
@[simp] def ae5(a:ED):ED:=λσ=>bnd (a σ) λx=>match x with
  | .ref n=>bnd (D3 n) λl=>bnd (d6 l) λm=>alloc (.lst m)
  | _=>stuck
inductive Ty where
 | int | bool | tuple | list
@[simp] def ax6(t:Ty)(v:PV):M Bool:=match t,v with
  | .int,.int _=>ret true
  | .int,.bl _=>ret true
  | .bool,.bl _=>ret true
  | .tuple,.tup _=>ret true
  | .list,.ref n=>bnd (T8 n) λ_=>ret true
  | _,.ref n=>bnd (T8 n) λ_=>ret false
  | _,_=>ret false
@[simp] def j0(a:ED)(t:Ty):ED:=λσ=>bnd (a σ) λx=>bnd (ax6 t x) λb=>ret (.bl b)
@[simp] def Z3(f:Nat):List (Nat×PV)->Option PV
  | []=>none
  | (g,u)::r=>if g=f then some u else Z3 f r
@[simp] def J0(a:ED)(f:Nat):ED:=λσ=>bnd (a σ) λx=>match x with
  | .ref n=>bnd (i8 n) λo=>match Z3 f o.2 with
    | some v=>ret v
    | none=>stuck
  | _=>stuck
@[simp] def putFld(f:Nat)(v:PV):List (Nat×PV)->List (Nat×PV)
  | []=>[(f,v)]
  | (g,u)::r=>if g=f then (g,v)::r else (g,u)::putFld f v r
@[simp] def sFld(a:ED)(f:Nat)(e:ED):SD:=λσ=>bnd (e σ) λv=>bnd (a σ) λx=>match x with
  | .ref n=>bnd (i8 n) λo=>J4 (o.2.length<900) (bnd (put n (.ins o.1 (putFld f v o.2))) λ_=>ret (.nx σ))
  | _=>stuck
@[simp] def eCall(f:Fun)(es:AD):ED:=λσ=>bnd (es σ) f
@[simp] def ad0(c:Nat)(init:Fun)(es:AD):ED:=λσ=>bnd (es σ) λvs=>bnd (alloc (.ins c [])) λx=>bnd (init (x::vs)) λ_=>ret x
@[simp] def J5(c:Nat)(f:Fun)(a:ED)(es:AD):ED:=λσ=>bnd (a σ) λx=>match x with
  | .ref n=>bnd (i8 n) λo=>J4 (o.1=c) (bnd (es σ) λvs=>f (x::vs))
  | _=>stuck
@[simp] def m9(a e:ED):ED:=λσ=>bnd (a σ) λx=>match x with
  | .ref n=>bnd (T8 n) λ_=>bnd (e σ) λv=>bnd (T8 n) λl=>J4 (l.length<LIM) (bnd (put n (.lst (l++[v]))) λ_=>ret .non)
  | _=>stuck
@[simp] def gName(i:Nat):GD:=λv σ=>ret (σ.set i (some v))
abbrev GDs:=List PV->PSt->M PSt
@[simp] def gNil:GDs:=λvs σ=>match vs with
  | []=>ret σ
  | _=>stuck
@[simp] def gCons(g:GD)(r:GDs):GDs:=λvs σ=>match vs with
  | v::w=>bnd (g v σ) λσ'=>r w σ'
  | _=>stuck
@[simp] def gTup(n:Nat)(g:GDs):GD:=λv σ=>match v with
  | .tup l=>J4 (l.length=n) (g l σ)
  | _=>stuck
inductive It where
 | rng (lo:Int) (n:Nat) | lst (n:Nat) | tup (l:List PV) | enm (n:Nat)
   | fix (l:List PV)
   | zip (x y:PV)
   | enk (k n:Nat)
abbrev ID:=PSt->M It
@[simp] def V0(a:ED):ID:=λσ=>bnd (a σ) λx=>match x with
  | .ref n=>bnd (D3 n) λ_=>ret (.lst n)
  | .tup l=>ret (.tup l)
  | _=>stuck
@[simp] def iRng1(a:ED):ID:=λσ=>bnd (a σ) λx=>match x with
  | .int j=>J4 (-(2 ^ 62)<=j/\j<2 ^ 62) (ret (.rng 0 j.toNat))
  | _=>stuck
@[simp] def iRng2(a b:ED):ID:=λσ=>bnd (a σ) λx=>bnd (b σ) λy=>match x,y with
  | .int i,.int j=>J4 ((-(2 ^ 62)<=i/\i<2 ^ 62)/\-(2 ^ 62)<=j/\j<2 ^ 62) (ret (.rng i (j - i).toNat))
  | _,_=>stuck
@[simp] def aV8(a:ED):ID:=λσ=>bnd (a σ) λx=>match x with
  | .ref n=>bnd (D3 n) λ_=>ret (.enm n)
  | _=>stuck
@[simp] def item(J:It)(i:Nat):M (Option PV):=match J with
  | .rng lo n=>ret (if i<n then some (.int (lo+i)) else none)
  | .lst a=>bnd (D3 a) λl=>ret l[i]?
  | .tup l=>ret l[i]?
  | .enm a=>bnd (D3 a) λl=>ret (l[i]?.map λx=>.tup [.int i,x])
  | .fix l=>ret l[i]?
  | .zip x y=>bnd (O5 x) λl=>bnd (O5 y) λm=>ret (match l[i]?,m[i]? with
    | some u,some v=>some (.tup [u,v])
    | _,_=>none)
  | .enk k a=>bnd (D3 a) λl=>ret (l[i]?.map λx=>.tup [.int ((k+i:Nat):Int),x])
@[simp] def s8(J:It):M Nat:=match J with
  | .rng _ n=>ret n
  | .lst a=>bnd (D3 a) λl=>ret l.length
  | .tup l=>ret l.length
  | .enm a=>bnd (D3 a) λl=>ret l.length
  | .fix l=>ret l.length
  | .zip x _=>bnd (O5 x) λl=>ret l.length
  | .enk _ a=>bnd (D3 a) λl=>ret l.length
@[simp] def sPass:SD:=λσ=>ret (.nx σ)
@[simp] def D7(a b:SD):SD:=λσ=>bnd (a σ) λf=>match f with
  | .nx σ'=>b σ'
  | o=>ret o
@[simp] def Y5(e:ED):SD:=λσ=>bnd (e σ) λ_=>ret (.nx σ)
@[simp] def H8(e:ED):SD:=λσ=>bnd (e σ) λv=>ret (.rt v)
@[simp] def sIf(t:TD)(a b:SD):SD:=λσ=>bnd (t σ) λc=>if c=true then a σ else b σ
@[simp] def N4(e:ED)(g:GD):SD:=λσ=>bnd (e σ) λv=>bnd (g v σ) λσ'=>ret (.nx σ')
@[simp] def sNever:SD:=λ_=>stuck
def aD9(J:It)(g:GD)(body:SD):Nat->Nat->PSt->M Fl
 | 0,_,_=>stuck
 | f+1,i,σ=>bnd (item J i) λx=>match x with
   | none=>ret (.nx σ)
   | some v=>bnd (g v σ) λσ1=>bnd (body σ1) λo=>match o with
     | .nx σ2=>aD9 J g body f (i+1) σ2
     | .ct σ2=>aD9 J g body f (i+1) σ2
     | .bk σ2=>ret (.nx σ2)
     | .rt v=>ret (.rt v)
theorem af9:∃T:It->GD->SD->Nat->Nat->PSt->M Fl,(∀J g body i σ,T J g body 0 i σ=stuck)/\∀J g body f i σ,T J g body (f+1) i σ=bnd (item J i) λx=>match x with
 | none=>ret (.nx σ)
 | some v=>bnd (g v σ) λσ1=>bnd (body σ1) λo=>match o with
   | .nx σ2=>T J g body f (i+1) σ2
   | .ct σ2=>T J g body f (i+1) σ2
   | .bk σ2=>ret (.nx σ2)
   | .rt v=>ret (.rt v):=⟨aD9,λ_ _ _ _ _=>rfl,λ_ _ _ _ _ _=>rfl⟩
def a8:It->GD->SD->Nat->Nat->PSt->M Fl:=Classical.choose af9
theorem ag0(J:It)(g:GD)(body:SD)(i:Nat)(σ:PSt):a8 J g body 0 i σ=stuck:=(Classical.choose_spec af9).1 J g body i σ
theorem U2(J:It)(g:GD)(body:SD)(f i:Nat)(σ:PSt):a8 J g body (f+1) i σ=bnd (item J i) λx=>match x with
 | none=>ret (.nx σ)
 | some v=>bnd (g v σ) λσ1=>bnd (body σ1) λo=>match o with
   | .nx σ2=>a8 J g body f (i+1) σ2
   | .ct σ2=>a8 J g body f (i+1) σ2
   | .bk σ2=>ret (.nx σ2)
   | .rt v=>ret (.rt v):=(Classical.choose_spec af9).2 J g body f i σ
@[simp] def g8(it:ID)(g:GD)(body:SD):SD:=λσ=>bnd (it σ) λJ=>bnd (s8 J) λn=>a8 J g body (n+1) 0 σ
def at2(t:TD)(body:SD):Nat->PSt->M Fl
 | 0,_=>stuck
 | f+1,σ=>bnd (t σ) λc=>if c=true then bnd (body σ) λo=>match o with
    | .nx σ2=>at2 t body f σ2
    | .ct σ2=>at2 t body f σ2
    | .bk σ2=>ret (.nx σ2)
    | .rt v=>ret (.rt v)
   else ret (.nx σ)
theorem aa4:∃T:TD->SD->Nat->PSt->M Fl,(∀t body σ,T t body 0 σ=stuck)/\∀t body f σ,T t body (f+1) σ=bnd (t σ) λc=>if c=true then bnd (body σ) λo=>match o with
 | .nx σ2=>T t body f σ2
 | .ct σ2=>T t body f σ2
 | .bk σ2=>ret (.nx σ2)
 | .rt v=>ret (.rt v)
 else ret (.nx σ):=⟨at2,λ_ _ _=>rfl,λ_ _ _ _=>rfl⟩
def j3:TD->SD->Nat->PSt->M Fl:=Classical.choose aa4
theorem ax7(t:TD)(body:SD)(σ:PSt):j3 t body 0 σ=stuck:=(Classical.choose_spec aa4).1 t body σ
theorem ad1(t:TD)(body:SD)(f:Nat)(σ:PSt):j3 t body (f+1) σ=bnd (t σ) λc=>if c=true then bnd (body σ) λo=>match o with
 | .nx σ2=>j3 t body f σ2
 | .ct σ2=>j3 t body f σ2
 | .bk σ2=>ret (.nx σ2)
 | .rt v=>ret (.rt v)
 else ret (.nx σ):=(Classical.choose_spec aa4).2 t body f σ
@[simp] def aE0(t:TD)(body:SD):SD:=λσ=>j3 t body LIM σ
def bst{α:Type}(js:List (Option Nat))(σ:List (Option α)):List (Option α):=js.map λo=>match o with
 | none=>none
 | some j=>σ.getD j none
def at3(J:It)(g:GD)(t:TD)(e:ED):Nat->Nat->PSt->M (List PV)
 | 0,_,_=>stuck
 | f+1,i,σ=>bnd (item J i) λx=>match x with
   | none=>ret []
   | some v=>bnd (g v σ) λσ1=>bnd (t σ1) λc=>if c=true then bnd (e σ1) λy=>bnd (at3 J g t e f (i+1) σ1) λys=>ret (y::ys)
     else at3 J g t e f (i+1) σ1
theorem aa5:∃T:It->GD->TD->ED->Nat->Nat->PSt->M (List PV),(∀J g t e i σ,T J g t e 0 i σ=stuck)/\∀J g t e f i σ,T J g t e (f+1) i σ=bnd (item J i) λx=>match x with
 | none=>ret []
 | some v=>bnd (g v σ) λσ1=>bnd (t σ1) λc=>if c=true then bnd (e σ1) λy=>bnd (T J g t e f (i+1) σ1) λys=>ret (y::ys)
   else T J g t e f (i+1) σ1:=⟨at3,λ_ _ _ _ _ _=>rfl,λ_ _ _ _ _ _ _=>rfl⟩
def d7:It->GD->TD->ED->Nat->Nat->PSt->M (List PV):=Classical.choose aa5
theorem ad2(J:It)(g:GD)(t:TD)(e:ED)(i:Nat)(σ:PSt):d7 J g t e 0 i σ=stuck:=(Classical.choose_spec aa5).1 J g t e i σ
theorem Y6(J:It)(g:GD)(t:TD)(e:ED)(f i:Nat)(σ:PSt):d7 J g t e (f+1) i σ=bnd (item J i) λx=>match x with
 | none=>ret []
 | some v=>bnd (g v σ) λσ1=>bnd (t σ1) λc=>if c=true then bnd (e σ1) λy=>bnd (d7 J g t e f (i+1) σ1) λys=>ret (y::ys)
   else d7 J g t e f (i+1) σ1:=(Classical.choose_spec aa5).2 J g t e f i σ
@[simp] def Q4:TD:=λ_=>ret true
@[simp] def K5(it:ID)(mk:PSt->PSt)(g:GD)(t:TD)(e:ED):ED:=λσ=>bnd (it σ) λJ=>bnd (s8 J) λn=>bnd (d7 J g t e (n+1) 0 (mk σ)) λys=>J4 (ys.length<=LIM) (alloc (.lst ys))
@[simp] def start(n:Nat)(vs:List PV):PSt:=vs.map some++List.replicate (n - vs.length) none
def fin(o:Fl):M PV:=match o with
    | .rt v=>ret v
    | .nx _=>ret .non
    | _=>stuck
@[simp] theorem bw3(v:PV):fin (.rt v)=ret v:=rfl
@[simp] theorem bw4(σ:PSt):fin (.nx σ)=ret .non:=rfl
@[simp] def fn(n p:Nat)(body:SD):Fun:=λvs=>J4 (vs.length=p) (bnd (body (start n vs)) fin)
end
theorem pre_get{A B:PHp}{n:Nat}{o:PO}(h:A<+:B)(e:A[n]?=some o):B[n]?=some o:=by
 obtain⟨t,rfl⟩:=h
 rw [List.getElem?_append_left (List.getElem?_eq_some_iff.mp e).1];exact e
theorem J1{A:PHp}{n:Nat}{o:PO}(e:A[n]?=some o):n<A.length:=(List.getElem?_eq_some_iff.mp e).1
theorem W4{A B:PHp}{n:Nat}{o:PO}(h:A<+:B)(e:A.length<=n):A<+:B.set n o:=by
 obtain⟨t,rfl⟩:=h
 rw [List.set_append_right _ _ e];exact List.prefix_append _ _
theorem U8{A B:PHp}{o:PO}(h:A<+:B):A<+:B++[o]:=h.trans (List.prefix_append _ _)
theorem a72{A B:PHp}(h:A<+:B):A.length<=B.length:=h.length_le
theorem get_app{A:PHp}{o:PO}:(A++[o])[A.length]?=some o:=by simp
theorem get_app_of{A:PHp}{o p:PO}{n:Nat}(e:A[n]?=some p):(A++[o])[n]?=some p:=pre_get (List.prefix_append _ _) e
theorem G7{A:PHp}{o:PO}{n m:Nat}(h:m≠n):(A.set n o)[m]?=A[m]?:=by
 rw [List.getElem?_set];simp [Ne.symm h]
theorem get_set{A:PHp}{o p:PO}{n:Nat}(h:A[n]?=some p):(A.set n o)[n]?=some o:=by
 rw [List.getElem?_set];simp [J1 h]
def Comes(r:R Fl)(P:PSt->PHp->Prop)(Q:PV->PHp->Prop):Prop:=
 (∃σ A,r=.ok (.nx σ) A/\P σ A)\/∃v A,r=.ok (.rt v) A/\Q v A
def Turns(r:R Fl)(P:PSt->PHp->Prop)(Q:PV->PHp->Prop):Prop:=
 (∃σ A,(r=.ok (.nx σ) A\/r=.ok (.ct σ) A)/\P σ A)\/∃v A,r=.ok (.rt v) A/\Q v A
theorem turns_inv{J:It}{g:GD}{body:SD}{n:Nat}(P:Nat->PSt->PHp->Prop)(Q:PV->PHp->Prop)
 (hend:∀σ A,P n σ A->item J n A=.ok none A)
 (hs:∀i σ A,i<n->P i σ A->∃v,item J i A=.ok (some v) A/\Turns (bnd (g v σ) body A) (P (i+1)) Q) :
 ∀k i σ A,i+k=n->P i σ A->Comes (a8 J g body (k+1) i σ A) (P n) Q
 | 0,i,σ,A,e,h=>by
   obtain rfl:i=n:=by omega
   refine .inl ⟨σ,A,?_,h⟩
   rw [U2,bnd_ok (hend σ A h)];rfl
 | k+1,i,σ,A,e,h=>by
   obtain⟨v,hv,t⟩:=hs i σ A (by omega) h
   have key:a8 J g body (k+1+1) i σ A=bnd (bnd (g v σ) body) (λo=>match o with
    | .nx σ2=>a8 J g body (k+1) (i+1) σ2
    | .ct σ2=>a8 J g body (k+1) (i+1) σ2
    | .bk σ2=>ret (.nx σ2)
    | .rt v=>ret (.rt v)) A:=by
    rw [U2,bnd_ok hv]
    show bnd (g v σ) _ A=_
    unfold bnd
    cases g v σ A <;> rfl
   rw [key]
   rcases t with ⟨σ2,A2,e2,h2⟩ | ⟨u,A2,e2,h2⟩
   ·rcases e2 with e2 | e2 <;> (rw [bnd_ok e2];exact turns_inv P Q hend hs k (i+1) σ2 A2 (by omega) h2)
   ·rw [bnd_ok e2];exact .inr ⟨u,A2,rfl,h2⟩
theorem a73{it:ID}{g:GD}{body:SD}{a:Nat}{l:List PV}{σ:PSt}{A A1:PHp}(hi:it σ A=.ok (.enm a) A1)(P:Nat->PSt->PHp->Prop)(Q:PV->PHp->Prop)(h0:P 0 σ A1)
 (hl:∀i σ A,P i σ A->D3 a A=.ok l A)
 (hs:∀(i:Nat) v σ A,l[i]?=some v->P i σ A->Turns (bnd (g (.tup [.int i,v]) σ) body A) (P (i+1)) Q):Comes (g8 it g body σ A) (P l.length) Q:=by
 show Comes (bnd (it σ) _ A) _ _
 rw [bnd_ok hi]
 show Comes (bnd (bnd (D3 a) _) _ A1) _ _
 rw [bnd_ok (show bnd (D3 a) (λl=>ret l.length) A1=.ok l.length A1 by rw [bnd_ok (hl 0 σ A1 h0)];rfl)]
 refine turns_inv (J:=.enm a) P Q (λσ A h=>?_) (λi σ A hi h=>⟨.tup [.int i,l[i]],?_,hs i _ σ A (by simp [hi]) h⟩) l.length 0 σ A1 (by omega) h0
 ·show bnd (D3 a) _ A=_
  rw [bnd_ok (hl _ _ _ h)];simp
 ·show bnd (D3 a) _ A=_
  rw [bnd_ok (hl _ _ _ h)];simp [hi]
theorem Comes.end{r:R Fl}{P:PSt->PHp->Prop}(h:Comes r P λ_ _=>False):∃σ A,r=.ok (.nx σ) A/\P σ A:=by
 rcases h with h | ⟨_,_,_,h⟩
 ·exact h
 ·exact h.elim
theorem Turns.nx{r:R Fl}{P:PSt->PHp->Prop}{Q:PV->PHp->Prop}{σ:PSt}{A:PHp}(e:r=.ok (.nx σ) A)(h:P σ A):Turns r P Q:=.inl ⟨σ,A,.inl e,h⟩
theorem Comes.mono{r:R Fl}{P P':PSt->PHp->Prop}{Q Q':PV->PHp->Prop}(h:Comes r P Q)(hp:∀σ A,P σ A->P' σ A)(hq:∀v A,Q v A->Q' v A):Comes r P' Q':=by
 rcases h with ⟨σ,A,e,h⟩ | ⟨v,A,e,h⟩
 ·exact .inl ⟨σ,A,e,hp _ _ h⟩
 ·exact .inr ⟨v,A,e,hq _ _ h⟩
theorem ap2{J:It}{g:GD}{t:TD}{e:ED}{l:List PV}{S:PSt->Prop}{p:PV->Bool}{f:PV->PV}{A:PHp}
 (hit:∀i,item J i A=.ok l[i]? A)
 (h:∀v∈l,∀σ,S σ->∃σ1,g v σ A=.ok σ1 A/\S σ1/\t σ1 A=.ok (p v) A/\(p v=true->e σ1 A=.ok (f v) A)) :
 ∀k i σ,i+k=l.length->S σ->d7 J g t e (k+1) i σ A=.ok (((l.drop i).filter p).map f) A
 | 0,i,σ,hk,hσ=>by
   have:l.length<=i:=by omega
   rw [Y6,bnd_ok (hit i)]
   simp [List.drop_eq_nil_of_le this,this]
 | k+1,i,σ,hk,hσ=>by
   have hi:i<l.length:=by omega
   obtain⟨σ1,h1,h2,h3,h4⟩:=h l[i] (List.getElem_mem hi) σ hσ
   have ih:=ap2 hit h k (i+1) σ1 (by omega) h2
   have ed:l.drop i=l[i]::l.drop (i+1):=List.drop_eq_getElem_cons hi
   rw [Y6,bnd_ok (hit i),List.getElem?_eq_getElem hi]
   show bnd (g l[i] σ) _ A=_
   rw [bnd_ok h1,bnd_ok h3,ed]
   cases hp:p l[i] with
   | true=>
     rw [if_pos rfl,bnd_ok (h4 hp),bnd_ok ih,List.filter_cons_of_pos hp]
     rfl
   | false=>
     rw [if_neg (by simp),ih,List.filter_cons_of_neg (by simp [hp])]
theorem ax8{it:ID}{mk:PSt->PSt}{g:GD}{t:TD}{e:ED}{a:Nat}{l:List PV}{S:PSt->Prop}{p:PV->Bool}{f:PV->PV}{σ:PSt}{A A1:PHp}(hi:it σ A=.ok (.lst a) A1)(hl:D3 a A1=.ok l A1)(hn:l.length<=LIM)(hσ:S (mk σ))
 (h:∀v∈l,∀σ,S σ->∃σ1,g v σ A1=.ok σ1 A1/\S σ1/\t σ1 A1=.ok (p v) A1/\(p v=true->e σ1 A1=.ok (f v) A1)) :
 K5 it mk g t e σ A=.ok (.ref A1.length) (A1++[.lst ((l.filter p).map f)]):=by
 show bnd (it σ) _ A=_
 rw [bnd_ok hi]
 show bnd (bnd (D3 a) _) _ A1=_
 rw [bnd_ok (show bnd (D3 a) (λl=>ret l.length) A1=.ok l.length A1 by rw [bnd_ok hl];rfl)]
 have c:=ap2 (J:=.lst a) (g:=g) (t:=t) (e:=e) (l:=l) (S:=S) (p:=p) (f:=f) (A:=A1) (λi=>by show bnd (D3 a) _ A1=_;rw [bnd_ok hl];rfl) h l.length 0 (mk σ) (by omega) hσ
 rw [bnd_ok c,List.drop_zero,m8]
 ·rfl
 ·rw [List.length_map];exact Nat.le_trans (List.length_filter_le _ _) hn
theorem J2{A:PHp}{n:Nat}{l:List PV}(h:A[n]?=some (.lst l)):D3 n A=.ok l A:=by
 unfold D3;rw [h]
theorem aO1{A:PHp}{n:Nat}{l:List PV}(h:A[n]?=some (.lst l)):T8 n A=.ok l A:=by
 unfold T8;rw [h]
mutual
theorem ax9:∀x y:PV,d5 x=true->(eqv x y=true↔x=y)
 | .non,y,_=>by cases y <;> simp [eqv]
 | .bl _,_,h=>by simp [d5] at h
 | .int i,y,_=>by cases y <;> simp [eqv]
 | .str s,y,_=>by cases y <;> simp [eqv]
 | .tup l,y,h=>by
   cases y with
   | tup m=>simp only [eqv,PV.tup.injEq];exact n0 l m (by simpa [d5] using h)
   | _=>simp [eqv]
 | .ref _,_,h=>by simp [d5] at h
theorem n0:∀l m:List PV,u7 l=true->(W2 l m=true↔l=m)
 | [],m,_=>by cases m <;> simp [W2]
 | x::xs,m,h=>by
   cases m with
   | nil=>simp [W2]
   | cons y ys=>
     simp only [u7,Bool.and_eq_true] at h
     simp only [W2,Bool.and_eq_true,List.cons.injEq]
     rw [ax9 x y h.1,n0 xs ys h.2]
end
theorem V1{f:PV->Bool}(h:∀x,f x=true->d5 x=true):∀l:List PV,l.all f=true->u7 l=true
 | [],_=>rfl
 | x::xs,e=>by
   rw [List.all_cons,Bool.and_eq_true] at e
   simp only [u7,Bool.and_eq_true]
   exact⟨h x e.1,V1 h xs e.2⟩
theorem ay0(x:PV)(h:O4 x=true):d5 x=true:=by cases x <;> simp_all [O4,d5]
theorem be8(x:PV)(h:aI0 x=true):d5 x=true:=by
 cases x with
 | tup l=>exact V1 ay0 l h
 | _=>exact ay0 _ h
theorem be9(x:PV)(h:af7 x=true):d5 x=true:=by
 cases x with
 | tup l=>exact V1 be8 l h
 | _=>exact ay0 _ h
theorem d8(x:PV)(h:plain x=true):d5 x=true:=by
 cases x with
 | tup l=>exact V1 be9 l h
 | _=>exact ay0 _ h
theorem aI1(x y:PV)(h:plain x=true):eqv x y=true↔x=y:=ax9 x y (d8 x h)
theorem aV9(l m:List PV)(h:N3 l=true):W2 l m=true↔l=m:=n0 l m (V1 d8 l h)
theorem ag1(l:List PV):N3 l=true↔∀x∈l,plain x=true:=List.all_eq_true
theorem Y7(ns:List Int):N3 (ns.map .int)=true:=by
 rw [ag1];intro x hx;obtain⟨i,_,rfl⟩:=List.mem_map.mp hx;rfl
theorem insBy_perm{α:Type}(lt:α->α->Bool)(a:α):∀l:List α,(g6 lt a l).Perm (a::l)
 | []=>.refl _
 | b::r=>by
   unfold g6
   split
   ·exact ((insBy_perm lt a r).cons b).trans (.swap a b r)
   ·exact .refl _
theorem M6{α:Type}(lt:α->α->Bool):∀l:List α,(G1 lt l).Perm l
 | []=>.refl _
 | a::r=>(insBy_perm lt a _).trans ((M6 lt r).cons a)
theorem P7(ns:List Int):J6 (ns.map .int)=some ns:=by
 induction ns with
 | nil=>rfl
 | cons i r ih=>simp [J6,ih]
theorem ag2:∀(ts:List (List Int)),(∀t∈ts,t≠[])->W6 (ts.map λt=>PV.tup (t.map .int))=some ts
 | [],_=>rfl
 | t::r,h=>by
   have ih:=ag2 r λu hu=>h u (List.mem_cons_of_mem _ hu)
   cases t with
   | nil=>exact absurd rfl (h [] List.mem_cons_self)
   | cons x l=>
     have e:=P7 (x::l)
     simp only [List.map_cons] at e
     simp only [List.map_cons,W6,e,ih]
theorem u9{ts:List (List Int)}{A:PHp}(h:ts.length<64)(h0:∀t∈ts,t≠[]):d6 (ts.map λt=>PV.tup (t.map .int)) A=.ok ((G1 E6 ts).map λt=>PV.tup (t.map .int)) A:=by
 unfold d6
 rw [List.length_map,m8 h]
 cases ts with
 | nil=>rfl
 | cons t r=>
   have e:J6 ((t::r).map λt=>PV.tup (t.map .int))=none:=by simp [J6]
   rw [e,ag2 _ h0];rfl
theorem v0{α:Type}{lt:α->α->Bool}(asym:∀a b,lt a b=true->lt b a=false)(tr:∀a b c,lt b a=false->lt c b=false->lt c a=false)(a:α) :
 ∀l:List α,l.Pairwise (λx y=>lt y x=false)->(g6 lt a l).Pairwise (λx y=>lt y x=false)
 | [],_=>by simp [g6]
 | b::r,h=>by
   rw [List.pairwise_cons] at h
   unfold g6
   split
   ·rename_i hb
    rw [List.pairwise_cons]
    refine⟨λc hc=>?_,v0 asym tr a r h.2⟩
    rcases List.mem_cons.mp ((insBy_perm lt a r).mem_iff.mp hc) with rfl | hc
    ·exact asym _ _ hb
    ·exact h.1 c hc
   ·rename_i hb
    have hb':lt b a=false:=by simpa using hb
    rw [List.pairwise_cons]
    refine⟨λc hc=>?_,List.pairwise_cons.mpr h⟩
    rcases List.mem_cons.mp hc with rfl | hc
    ·exact hb'
    ·exact tr a b c hb' (h.1 c hc)
theorem Z4{α:Type}{lt:α->α->Bool}(asym:∀a b,lt a b=true->lt b a=false)(tr:∀a b c,lt b a=false->lt c b=false->lt c a=false) :
 ∀l:List α,(G1 lt l).Pairwise (λx y=>lt y x=false)
 | []=>by simp [G1]
 | a::r=>v0 asym tr a _ (Z4 asym tr r)
theorem at4(l:List Int):(G1 ltI l).Pairwise (·<=·):=by
 refine (Z4 (lt:=ltI) ?_ ?_ l).imp ?_
 ·intro a b h;simp [ltI] at *;omega
 ·intro a b c h1 h2;simp [ltI] at *;omega
 ·intro a b h;simp [ltI] at h;exact h
theorem aa6:∀{l m:List Int},l.Perm m->l.Pairwise (·<=·)->m.Pairwise (·<=·)->l=m
 | [],m,h,_,_=>(List.nil_perm.mp h).symm
 | x::l,[],h,_,_=>absurd h.length_eq (by simp)
 | x::l,y::m,h,h1,h2=>by
   rw [List.pairwise_cons] at h1 h2
   have e:x=y:=by
    have a1:x∈y::m:=h.mem_iff.mp List.mem_cons_self
    have a2:y∈x::l:=h.mem_iff.mpr List.mem_cons_self
    rcases List.mem_cons.mp a1 with e | e
    ·exact e
    ·rcases List.mem_cons.mp a2 with e' | e'
     ·exact e'.symm
     ·have:=h2.1 x e;have:=h1.1 y e';omega
   subst e
   rw [aa6 (List.perm_cons _ |>.mp h) h1.2 h2.2]
theorem ap3{α:Type}{lt:α->α->Bool}(tot:∀a b,lt a b=false->lt b a=false->a=b):∀{l m:List α},l.Perm m->l.Pairwise (λx y=>lt y x=false)->m.Pairwise (λx y=>lt y x=false)->l=m
 | [],m,h,_,_=>(List.nil_perm.mp h).symm
 | x::l,[],h,_,_=>absurd h.length_eq (by simp)
 | x::l,y::m,h,h1,h2=>by
   rw [List.pairwise_cons] at h1 h2
   have e:x=y:=by
    have a1:x∈y::m:=h.mem_iff.mp List.mem_cons_self
    have a2:y∈x::l:=h.mem_iff.mpr List.mem_cons_self
    rcases List.mem_cons.mp a1 with e | e
    ·exact e
    ·rcases List.mem_cons.mp a2 with e' | e'
     ·exact e'.symm
     ·exact tot _ _ (h2.1 x e) (h1.1 y e') |>.symm ▸ rfl
   subst e
   rw [ap3 tot (List.perm_cons _ |>.mp h) h1.2 h2.2]
theorem ag3:∀a b:List Int,E6 a b=true->E6 b a=false
 | _,[],h=>by simp [E6] at h
 | [],_::_,_=>rfl
 | x::xs,y::ys,h=>by
   simp only [E6] at h ⊢
   by_cases e:x=y
   ·subst e;simp only [if_true] at h ⊢;exact ag3 xs ys h
   ·rw [if_neg e] at h;rw [if_neg (Ne.symm e)];simp at h ⊢;omega
theorem at5:∀a b:List Int,E6 a b=false->E6 b a=false->a=b
 | [],[],_,_=>rfl
 | [],_::_,h,_=>by simp [E6] at h
 | _::_,[],_,h=>by simp [E6] at h
 | x::xs,y::ys,h,h'=>by
   simp only [E6] at h h'
   by_cases e:x=y
   ·subst e;simp only [if_true] at h h';rw [at5 xs ys h h']
   ·rw [if_neg e] at h;rw [if_neg (Ne.symm e)] at h';simp at h h';omega
theorem aE1:∀a b c:List Int,E6 b a=false->E6 c b=false->E6 c a=false
 | [],_,_,_,_=>by simp [E6]
 | _::_,[],_,h,_=>by simp [E6] at h
 | _::_,_::_,[],_,h=>by simp [E6] at h
 | x::xs,y::ys,z::zs,h,h'=>by
   simp only [E6] at h h' ⊢
   by_cases e:y=x
   ·subst e
    simp only [if_true] at h
    by_cases e2:z=y
    ·subst e2;simp only [if_true] at h' ⊢;exact aE1 xs ys zs h h'
    ·rw [if_neg e2] at h' ⊢;exact h'
   ·rw [if_neg e] at h
    by_cases e2:z=y
    ·subst e2;rw [if_neg e];exact h
    ·rw [if_neg e2] at h'
     simp at h h'
     rw [if_neg (by omega)];simp;omega
theorem aE2(ts:List (List Int)):(G1 E6 ts).Pairwise (λx y=>E6 y x=false):=Z4 ag3 aE1 ts
@[simp] def by4(a:ED):ED:=λσ=>bnd (a σ) λx=>match x with
  | .ref n=>bnd (T8 n) λl=>match l[l.length - 1]? with
    | some y=>bnd (put n (.lst l.dropLast)) λ_=>ret y
    | none=>stuck
  | _=>stuck
@[simp] def by2(n:Nat):M (List (Int×PV)):=λA=>match A[n]? with
  | some (.dI m)=>.ok m A
  | _=>.no
def a9:List PV->Option (List Bool)
 | []=>some []
 | .bl b::r=>(a9 r).map (b :: ·)
 | _=>none
@[simp] def ay1(a:ED):ED:=λσ=>bnd (a σ) λx=>match x with
  | .ref n=>bnd (D3 n) λl=>match a9 l with
    | some bs=>ret (.bl (bs.all id))
    | none=>stuck
  | _=>stuck
def V2(i:Int):List Int->Int
 | []=>i
 | j::r=>V2 (if i<j then j else i) r
def ag4(i:Int):List Int->Int
 | []=>i
 | j::r=>ag4 (if j<i then j else i) r
@[simp] def aW0(a d:ED):ED:=λσ=>bnd (a σ) λx=>bnd (d σ) λv=>match x with
  | .ref n=>bnd (D3 n) λl=>match J6 l with
    | some []=>ret v
    | some (i::r)=>ret (.int (V2 i r))
    | none=>stuck
  | _=>stuck
@[simp] def bl0(a:ED):ED:=λσ=>bnd (a σ) λx=>match x with
  | .ref n=>bnd (D3 n) λl=>match J6 l with
    | some (i::r)=>ret (.int (V2 i r))
    | _=>stuck
  | _=>stuck
@[simp] def br4(a:ED):ED:=λσ=>bnd (a σ) λx=>match x with
  | .ref n=>bnd (D3 n) λl=>match J6 l with
    | some (i::r)=>ret (.int (ag4 i r))
    | _=>stuck
  | _=>stuck
theorem aa7:∀(i:Int) (r:List Int),(ag4 i r∈i::r)/\∀x∈i::r,ag4 i r<=x
 | i,[]=>⟨by simp [ag4],by simp [ag4]⟩
 | i,j::r=>by
   unfold ag4
   obtain⟨h1,h2⟩:=aa7 (if j<i then j else i) r
   have h3:=h2 _ List.mem_cons_self
   refine⟨?_,λx hx=>?_⟩
   ·rcases List.mem_cons.mp h1 with z | z
    ·rw [z]
     by_cases c:j<i <;> simp [c]
    ·exact List.mem_cons_of_mem _ (List.mem_cons_of_mem _ z)
   ·rcases List.mem_cons.mp hx with z | z
    ·subst z
     by_cases c:j<x <;> simp [c] at h3 ⊢ <;> omega
    ·rcases List.mem_cons.mp z with z | z
     ·subst z
      by_cases c:x<i <;> simp [c] at h3 ⊢ <;> omega
     ·exact h2 x (List.mem_cons_of_mem _ z)
@[simp] def v6(a:ED):ED:=λσ=>bnd (a σ) λx=>match x with
  | .ref n=>bnd (D3 n) λl=>J4 (l.length<=LIM) (ret (.tup l))
  | _=>stuck
@[simp] def ae6(a e:ED):ED:=λσ=>bnd (a σ) λx=>match x with
  | .ref n=>bnd (T8 n) λ_=>bnd (e σ) λv=>match v with
    | .ref k=>bnd (T8 n) λl=>bnd (T8 k) λm=>J4 (l.length+m.length<=LIM) (bnd (put n (.lst (l++m))) λ_=>ret .non)
    | _=>stuck
  | _=>stuck
def aE3:List Int->List (List Int)
 | []=>[[]]
 | a::r=>aE3 r++(aE3 r).map (a :: ·)
def metI(l:List Int)(a:Int):List Int:=if l.any (·== a)=true then l else l++[a]
def ag5(ns:List Int):Nat:=(ns.foldl metI []).length
@[simp] def ag6(a:ED):ED:=λσ=>bnd (a σ) λx=>bnd (O5 x) λl=>match J6 l with
  | some ns=>J4 (ns.length<1000) (ret (.int (ag5 ns)))
  | none=>stuck
theorem metI_cases(l:List Int)(a:Int):(a∈l/\metI l a=l)\/(a∉l/\metI l a=l++[a]):=by
 unfold metI
 by_cases h:a∈l
 ·exact .inl ⟨h,if_pos (List.any_eq_true.mpr ⟨a,h,by simp⟩)⟩
 ·refine .inr ⟨h,if_neg λz=>?_⟩
  obtain⟨x,hx,e⟩:=List.any_eq_true.mp z
  exact h (by rw [←(beq_iff_eq.mp e)];exact hx)
theorem v7:∀(r l:List Int),l.Nodup->(r.foldl metI l).length<=l.length+r.length/\((r.foldl metI l).length=l.length+r.length↔(l++r).Nodup)
 | [],l,h=>by simp [h]
 | a::r,l,h=>by
   rw [List.foldl_cons]
   rcases metI_cases l a with ⟨h1,e⟩ | ⟨h1,e⟩
   ·rw [e]
    obtain⟨i1,i2⟩:=v7 r l h
    refine⟨by simp;omega,⟨λz=>by simp at z;omega,λz=>?_⟩⟩
    exact absurd rfl ((List.nodup_append.mp z).2.2 a h1 a List.mem_cons_self)
   ·rw [e]
    have nd:(l++[a]).Nodup:=by
     rw [List.nodup_append]
     exact⟨h,by simp,λx hx y hy z=>by simp at hy;exact h1 (by rw [←hy,←z];exact hx)⟩
    obtain⟨i1,i2⟩:=v7 r (l++[a]) nd
    have e2:l++[a]++r=l++a::r:=by simp
    rw [e2] at i2
    simp only [List.length_append,List.length_cons,List.length_nil] at i1 i2 ⊢
    exact⟨by omega,⟨λz=>i2.mp (by omega),λz=>by have:=i2.mpr z;omega⟩⟩
theorem aW1(ns:List Int):ag5 ns<=ns.length:=by have:=(v7 ns [] List.nodup_nil).1;simpa [ag5] using this
theorem aW2(ns:List Int):ag5 ns<ns.length↔¬ns.Nodup:=by
 have h:=(v7 ns [] List.nodup_nil).2
 have h1:=aW1 ns
 simp only [List.length_nil,Nat.zero_add,List.nil_append] at h
 unfold ag5 at *
 constructor
 ·intro z y;have:=h.mpr y;omega
 ·intro z
  rcases Nat.lt_or_ge (ns.foldl metI []).length ns.length with q | q
  ·exact q
  ·exact absurd (h.mp (by omega)) z
@[simp] def a74(a b:ED):ID:=λσ=>bnd (a σ) λx=>bnd (b σ) λy=>bnd (O5 x) λ_=>bnd (O5 y) λ_=>ret (.zip x y)
noncomputable section
@[simp] def bf0(a b:ED):ED:=λσ=>bnd (a σ) λx=>bnd (b σ) λy=>match x,y with
  | .int i,.int j=>ret (.int (if j > i then j else i))
  | _,_=>stuck
end
noncomputable section
end
noncomputable section
end
noncomputable section
def Q8:PV->Option (List Int)
 | .tup l=>J6 l
 | _=>none
def V9(n:Nat):M (List (List Int×PV)):=λA=>match A[n]? with
 | some (.dT m)=>.ok m A
 | _=>.no
def J8:List (List Int×PV)->List Int->Option PV
 | [],_=>none
 | p::r,k=>if p.1=k then some p.2 else J8 r k
def W8(kvs:List (List Int×PV))(k:List Int)(x:PV):List (List Int×PV):=
 if (kvs.any λp=>decide (p.1=k))=true then kvs.map (λp=>if p.1=k then (p.1,x) else p) else kvs++[(k,x)]
def aE4(y d:ED):ED:=λσ=>bnd (y σ) λk=>bnd (d σ) λx=>match Q8 k,x with
 | some i,.ref n=>bnd (V9 n) λm=>ret (.bl (J8 m i).isSome)
 | _,_=>stuck
def ap4(d y e:ED):SD:=λσ=>bnd (e σ) λv=>bnd (d σ) λx=>bnd (y σ) λk=>match x,Q8 k with
 | .ref n,some i=>bnd (V9 n) λm=>J4 (m.length<LIM) (bnd (put n (.dT (W8 m i v))) λ_=>ret (.nx σ))
 | _,_=>stuck
def ad3(d y:ED):ED:=λσ=>bnd (d σ) λx=>bnd (y σ) λk=>match x,Q8 k with
 | .ref n,some i=>bnd (V9 n) λm=>match J8 m i with
   | some v=>ret v
   | none=>stuck
 | _,_=>stuck
def ag7:ED:=λ_=>alloc (.dT [])
def ag8(d y:ED):ED:=λσ=>bnd (d σ) λx=>match x with
 | .ref n=>bnd (V9 n) λ_=>bnd (y σ) λk=>match Q8 k with
   | some i=>bnd (V9 n) λm=>ret ((J8 m i).getD .non)
   | _=>stuck
 | _=>stuck
def aE5(d y e:ED):ED:=λσ=>bnd (d σ) λx=>match x with
 | .ref n=>bnd (V9 n) λ_=>bnd (y σ) λk=>bnd (e σ) λv=>match Q8 k with
   | some i=>bnd (V9 n) λm=>ret ((J8 m i).getD v)
   | _=>stuck
 | _=>stuck
def bl1:OD
 | .int i,.int j=>J4 (0<=j) (ret (.int (i / 2 ^ j.toNat)))
 | _,_=>stuck
def bl2:OD
 | .int i,.int j=>ret (.int (PySem.Builtin.bitAnd i j))
 | _,_=>stuck
end
noncomputable section
def small:List (List Int):=((List.range 10).map λa=>(List.range 10).map λb=>[((a:Nat):Int),((b:Nat):Int)]).flatten
def by3(a:ED):ED:=λσ=>bnd (a σ) λx=>match x with
 | .ref n=>bnd (V9 n) λm=>ret (.int m.length)
 | _=>stuck
def aE6(a:ED):ED:=λσ=>bnd (a σ) λx=>match x with
 | .ref n=>bnd (V9 n) λm=>J4 ((m.map (·.1)).Nodup/\∀p∈m,p.1∈small) (alloc (.dT m))
 | _=>stuck
end
noncomputable section
end
noncomputable section
end
noncomputable section
end
noncomputable section
end
noncomputable section
def aW3(a:ED):ED:=λσ=>bnd (a σ) λx=>match x with
 | .bl b=>ret (.int (if b then 1 else 0))
 | _=>stuck
def ag9(x:PV):M Bool:=match x with
 | .str _=>ret true
 | .ref n=>bnd (T8 n) λ_=>ret false
 | _=>ret false
def at6(a:ED):ED:=λσ=>bnd (a σ) λx=>bnd (ag9 x) λb=>ret (.bl b)
end
noncomputable section
end
noncomputable section
end
noncomputable section
end
noncomputable section
end
noncomputable section
end
def aa8(d y e:ED):ED:=λσ=>bnd (d σ) λx=>match x with
 | .ref n=>bnd (V9 n) λ_=>bnd (y σ) λk=>bnd (e σ) λv=>match Q8 k with
   | some i=>bnd (V9 n) λm=>match J8 m i with
     | some w=>ret w
     | none=>J4 (m.length<LIM) (bnd (put n (.dT (W8 m i v))) λ_=>ret v)
   | _=>stuck
 | _=>stuck
def a75(a:ED):ED:=λσ=>bnd (a σ) λx=>match x with
 | .ref n=>bnd (D3 n) λl=>match a9 l with
   | some bs=>ret (.bl (bs.any id))
   | none=>stuck
 | _=>stuck
def ah0:List PV->Option (List (List Int×PV))
 | []=>some []
 | .tup [k,v]::r=>(Q8 k).bind λi=>(ah0 r).map ((i,v) :: ·)
 | _=>none
def ah1(a:ED):ED:=λσ=>bnd (a σ) λx=>match x with
 | .ref n=>bnd (T8 n) λl=>match ah0 l with
   | some m=>J4 (m.length<LIM) (alloc (.dT (m.foldl (λacc p=>W8 acc p.1 p.2) [])))
   | none=>stuck
 | _=>stuck
def j4(M:List Int)(x:Int):Nat:=(M.takeWhile λy=>decide (y<x)).length
def W9(M:List Int)(x:Int):List Int:=M.takeWhile (λy=>decide (y<x))++x::M.dropWhile (λy=>decide (y<x))
def aa9(M:List Int)(x:Int):List Int:=if x∈M then M else W9 M x
def setL(l:List Int):List Int:=l.foldl aa9 []
def ab0(a:ED):ED:=λσ=>bnd (a σ) λx=>match x with
 | .ref n=>bnd (T8 n) λl=>match J6 l with
   | some ns=>J4 (∀x∈ns,0<=x/\x<=5) (alloc (.lst ((setL ns).map PV.int)))
   | none=>stuck
 | _=>stuck
end Ws
namespace Ws
open PySem L2
def bl3:Expr->Bool
 | .Starred _ _=>true
 | _=>false
theorem E5{e:Expr}{es:List Expr}{env:Env}(h:bl3 e=false):starEach (e::es) env=(false,eval e env)::starEach es env:=by
 cases e <;> first | rfl | cases h
mutual
inductive RV (ρ:List Addr) (H:Hp):PV->V->Prop
 | non:RV ρ H .non .non
 | bl (b:Bool):RV ρ H (.bl b) (.bl b)
 | int (i:Int):RV ρ H (.int i) (.int i)
 | str (x:Str):RV ρ H (.str x) (.str x)
 | tup {l:List PV} {a:Addr} {vs:List V} (h:H a=some (.tup vs)) (r:RVs ρ H l vs):RV ρ H (.tup l) (.ref a)
 | ref {n:Nat} {a:Addr} (h:ρ[n]?=some a):RV ρ H (.ref n) (.ref a)
inductive RVs (ρ:List Addr) (H:Hp):List PV->List V->Prop
 | nil:RVs ρ H [] []
 | cons {x:PV} {v:V} {l:List PV} {vs:List V} (h:RV ρ H x v) (r:RVs ρ H l vs):RVs ρ H (x::l) (v::vs)
end
structure Ext(ρ:List Addr)(H:Hp)(ρ':List Addr)(H':Hp):Prop where
 pre:ρ<+:ρ'
 tup:∀a vs,H a=some (.tup vs)->H' a=some (.tup vs)
 xd:∀a fs,H a=some (.xd fs)->H' a=some (.xd fs)
theorem Ext.refl(ρ:List Addr)(H:Hp):Ext ρ H ρ H:=⟨List.prefix_refl _,λ_ _ h=>h,λ_ _ h=>h⟩
theorem Ext.trans{ρ ρ1 ρ2:List Addr}{H H1 H2:Hp}(a:Ext ρ H ρ1 H1)(b:Ext ρ1 H1 ρ2 H2):Ext ρ H ρ2 H2:=⟨a.pre.trans b.pre,λc vs h=>b.tup c vs (a.tup c vs h),λc vs h=>b.xd c vs (a.xd c vs h)⟩
theorem ah2{ρ ρ':List Addr}{n:Nat}{a:Addr}(h:ρ<+:ρ')(e:ρ[n]?=some a):ρ'[n]?=some a:=by
 obtain⟨t,rfl⟩:=h
 rw [List.getElem?_append_left (List.getElem?_eq_some_iff.mp e).1];exact e
section
variable{ρ ρ':List Addr}{H H':Hp}
mutual
theorem RV.mono(e:Ext ρ H ρ' H'):∀{x:PV} {v:V},RV ρ H x v->RV ρ' H' x v
 | _,_,.non=>.non
 | _,_,.bl b=>.bl b
 | _,_,.int i=>.int i
 | _,_,.str x=>.str x
 | _,_,.tup h r=>.tup (e.tup _ _ h) (RVs.mono e r)
 | _,_,.ref h=>.ref (ah2 e.pre h)
theorem RVs.mono(e:Ext ρ H ρ' H'):∀{l:List PV} {vs:List V},RVs ρ H l vs->RVs ρ' H' l vs
 | _,_,.nil=>.nil
 | _,_,.cons h r=>.cons (RV.mono e h) (RVs.mono e r)
end
theorem RVs.length:∀{l:List PV} {vs:List V},RVs ρ H l vs->l.length=vs.length
 | _,_,.nil=>rfl
 | _,_,.cons _ r=>by simp [RVs.length r]
theorem RVs.get:∀{l:List PV} {vs:List V} {i:Nat} {x:PV},RVs ρ H l vs->l[i]?=some x->∃v,vs[i]?=some v/\RV ρ H x v
 | _,_,_,_,.nil,e=>by simp at e
 | _,_,0,_,.cons h _,e=>by simp at e;subst e;exact⟨_,rfl,h⟩
 | _,_,i+1,_,.cons _ r,e=>by
   obtain⟨v,h1,h2⟩:=RVs.get (i:=i) r (by simpa using e)
   exact⟨v,by simpa using h1,h2⟩
theorem RVs.get':∀{l:List PV} {vs:List V} {i:Nat} {v:V},RVs ρ H l vs->vs[i]?=some v->∃x,l[i]?=some x/\RV ρ H x v
 | _,_,_,_,.nil,e=>by simp at e
 | _,_,0,_,.cons h _,e=>by simp at e;subst e;exact⟨_,rfl,h⟩
 | _,_,i+1,_,.cons _ r,e=>by
   obtain⟨x,h1,h2⟩:=RVs.get' (i:=i) r (by simpa using e)
   exact⟨x,by simpa using h1,h2⟩
theorem RVs.append:∀{l m:List PV} {vs ws:List V},RVs ρ H l vs->RVs ρ H m ws->RVs ρ H (l++m) (vs++ws)
 | _,_,_,_,.nil,s=>s
 | _,_,_,_,.cons h r,s=>.cons h (RVs.append r s)
theorem RVs.take:∀{l:List PV} {vs:List V} (n:Nat),RVs ρ H l vs->RVs ρ H (l.take n) (vs.take n)
 | _,_,0,_=>by simpa using .nil
 | _,_,_+1,.nil=>.nil
 | _,_,n+1,.cons h r=>.cons h (RVs.take n r)
theorem RVs.drop:∀{l:List PV} {vs:List V} (n:Nat),RVs ρ H l vs->RVs ρ H (l.drop n) (vs.drop n)
 | _,_,0,r=>r
 | _,_,_+1,.nil=>.nil
 | _,_,n+1,.cons _ r=>RVs.drop n r
theorem RVs.ints(ns:List Int):RVs ρ H (ns.map .int) (ns.map .int):=by
 induction ns with
 | nil=>exact .nil
 | cons i r ih=>exact .cons (.int i) ih
end
def fnm(i:Nat):Str:=(["number","passings","at","web","leaders","limits","plan","free","ledger","kept_leaders","kept_limits","kept_free","now","turns_of_lays","sayings","first_turns","does","me","open_boxes"]:List Str).getD i "?"
def Fz(K:PySem.W.Frag)(H:Hp)(a:Addr)(xs:List V):Prop:=
 (∃o,H a=some (.frz o (.lst xs)))\/∃(o:Obj) (its:Array Value) (n:Nat),K.lookup a=some o/\o.cls=.type "list"/\o.dict=none/\o.data=.seq its n/\its.size<=sizeLine/\Vals xs its.toList
theorem Fz.sq{K:PySem.W.Frag}{H:Hp}{a:Addr}{xs:List V}(h:Fz K H a xs):SqL K H a xs:=by
 rcases h with ⟨o,h⟩ | h
 ·exact .inl (.inr ⟨o,h⟩)
 ·exact .inr h
def X0:PO->Bool
 | .ro _=>false
 | _=>true
structure Pairs{κ κ':Type}(f:κ->κ')(ρ:List Addr)(H:Hp)(kvs:List (κ×PV))(kv:List (κ'×V)):Prop where
 keys:kv.map (·.1)=kvs.map λp=>f p.1
 vals:RVs ρ H (kvs.map (·.2)) (kv.map (·.2))
theorem Pairs.mono{κ κ':Type}{f:κ->κ'}{ρ ρ':List Addr}{H H':Hp}{kvs:List (κ×PV)}{kv:List (κ'×V)}(h:Pairs f ρ H kvs kv)(e:Ext ρ H ρ' H'):Pairs f ρ' H' kvs kv:=⟨h.keys,h.vals.mono e⟩
section
variable(K:PySem.W.Frag)(cm:Nat->Addr)
def RO(ρ:List Addr)(H:Hp)(a:Addr):PO->Prop
 | .lst l=>∃xs,H a=some (.lst xs)/\RVs ρ H l xs
 | .ro l=>∃xs,Fz K H a xs/\RVs ρ H l xs
 | .dI kvs=>∃kv,H a=some (.dK kv)/\Pairs (Sum.inl:Int->Key) ρ H kvs kv
 | .ins c fs=>(c<7/\∀p∈fs,p.1<19)/\∃dx kv,H a=some (.ins (cm c) dx kv)/\Pairs fnm ρ H fs kv
 | .dT kvs=>∃kv,H a=some (.dT kv)/\Pairs (List.map Sum.inl:List Int->List Key) ρ H kvs kv
 | .exc c v=>∃o d v',H a=some (.frz o (.own a))/\o.cls=.ref (cm c)/\o.dict=some d/\(∃vs:Array Value,o.data=.fields vs/\vs[2]?=some .none)/\H d=some (.xd [("at",v')])/\RV ρ H v v'
structure Rel(ρ:List Addr)(A:PHp)(H:Hp):Prop where
 len:ρ.length=A.length
 obj:∀(n:Nat) (o:PO) (a:Addr),A[n]?=some o->ρ[n]?=some a->RO K cm ρ H a o
 inj:∀(m n:Nat) (a:Addr) (o p:PO),ρ[m]?=some a->ρ[n]?=some a->A[m]?=some o->A[n]?=some p->X0 o=true->X0 p=true->m=n
end
section
variable{K:PySem.W.Frag}{cm:Nat->Addr}{ρ ρ':List Addr}{H H':Hp}{A:PHp}{a p:Addr}{o:PO}{n:Nat}
theorem RO.keep(r:RO K cm ρ H a o)(e:Ext ρ H ρ' H')(hk:∀u,H a=some u->H' a=some u):RO K cm ρ' H' a o:=by
 cases o with
 | lst l=>obtain⟨xs,h,q⟩:=r;exact⟨xs,hk _ h,q.mono e⟩
 | ro l=>
   obtain⟨xs,h,q⟩:=r
   rcases h with ⟨u,h⟩ | h
   ·exact⟨xs,.inl ⟨u,hk _ h⟩,q.mono e⟩
   ·exact⟨xs,.inr h,q.mono e⟩
 | dI kvs=>obtain⟨kv,h,q⟩:=r;exact⟨kv,hk _ h,q.mono e⟩
 | ins c fs=>obtain⟨hs,dx,kv,h,q⟩:=r;exact⟨hs,dx,kv,hk _ h,q.mono e⟩
 | dT kvs=>obtain⟨kv,h,q⟩:=r;exact⟨kv,hk _ h,q.mono e⟩
 | exc c v=>obtain⟨o,d,v',h,h1,h2,h3,h4,q⟩:=r;exact⟨o,d,v',hk _ h,h1,h2,h3,e.xd _ _ h4,q.mono e⟩
theorem RO.some(r:RO K cm ρ H a o)(m:X0 o=true):∃u,H a=some u:=by
 cases o with
 | lst l=>obtain⟨xs,h,q⟩:=r;exact⟨_,h⟩
 | ro l=>simp [X0] at m
 | dI kvs=>obtain⟨kv,h,q⟩:=r;exact⟨_,h⟩
 | ins c fs=>obtain⟨_,dx,kv,h,q⟩:=r;exact⟨_,h⟩
 | dT kvs=>obtain⟨kv,h,q⟩:=r;exact⟨_,h⟩
 | exc c v=>obtain⟨o,d,v',h,q⟩:=r;exact⟨_,h⟩
theorem X1{u:HO}(hp:H p=none):∀b v,H b=some v->upd H p u b=some v:=λb v h=>by
 rw [E4 (K9 h hp)];exact h
theorem Ext.same{u:HO}(hp:H p=none):Ext ρ H ρ (upd H p u):=⟨List.prefix_refl _,λa vs h=>X1 hp a _ h,λa vs h=>X1 hp a _ h⟩
theorem Ext.new{u:HO}(hp:H p=none):Ext ρ H (ρ++[p]) (upd H p u):=⟨List.prefix_append _ _,λa vs h=>X1 hp a _ h,λa vs h=>X1 hp a _ h⟩
theorem Rel.grow(r:Rel K cm ρ A H)(e:Ext ρ H ρ H')(hk:∀b v,H b=some v->H' b=some v):Rel K cm ρ A H':=
 ⟨r.len,λn o a h1 h2=>(r.obj n o a h1 h2).keep e (hk a),r.inj⟩
theorem Rel.tup{vs:List V}(r:Rel K cm ρ A H)(hp:H p=none):Rel K cm ρ A (upd H p (.tup vs)):=r.grow (Ext.same hp) (X1 hp)
theorem Rel.alloc{u:HO}(r:Rel K cm ρ A H)(hp:H p=none)(hn:RO K cm (ρ++[p]) (upd H p u) p o)(hm:X0 o=true):Rel K cm (ρ++[p]) (A++[o]) (upd H p u):=by
 have e:Ext ρ H (ρ++[p]) (upd H p u):=Ext.new hp
 have none_new:∀(n:Nat) (q:PO),ρ[n]?=some p->A[n]?=some q->X0 q=true->False:=λn q h1 h2 hq=>by
  obtain⟨v,hv⟩:=(r.obj n q p h2 h1).some hq
  rw [hp] at hv;cases hv
 have split:∀{α:Type} {l:List α} {x y:α} {n:Nat},(l++[x])[n]?=some y->l[n]?=some y\/(n=l.length/\y=x):=λ{α l x y n} h=>by
  by_cases hn:n<l.length
  ·rw [List.getElem?_append_left hn] at h;exact .inl h
  ·rw [List.getElem?_append_right (by omega)] at h
   have:n - l.length=0:=by
    by_cases z:n - l.length=0
    ·exact z
    ·rw [List.getElem?_eq_none (by simp;omega)] at h;cases h
   rw [this] at h
   simp at h
   exact .inr ⟨by omega,h.symm⟩
 refine⟨by simp [r.len],λn q a h1 h2=>?_,λm n a q q' h1 h2 h3 h4 m1 m2=>?_⟩
 ·rcases split h1 with h1 | ⟨rfl,rfl⟩
  ·rcases split h2 with h2 | ⟨rfl,rfl⟩
   ·exact (r.obj n q a h1 h2).keep e (X1 hp a)
   ·rw [r.len,List.getElem?_eq_none (Nat.le_refl _)] at h1;cases h1
  ·rcases split h2 with h2 | ⟨_,rfl⟩
   ·rw [←r.len,List.getElem?_eq_none (Nat.le_refl _)] at h2;cases h2
   ·exact hn
 ·rcases split h1 with g1 | ⟨rfl,ha1⟩ <;> rcases split h2 with g2 | ⟨rfl,ha2⟩
  ·have h3':A[m]?=some q:=by
    rcases split h3 with h3 | ⟨rfl,_⟩
    ·exact h3
    ·rw [←r.len,List.getElem?_eq_none (Nat.le_refl _)] at g1;cases g1
   have h4':A[n]?=some q':=by
    rcases split h4 with h4 | ⟨rfl,_⟩
    ·exact h4
    ·rw [←r.len,List.getElem?_eq_none (Nat.le_refl _)] at g2;cases g2
   exact r.inj m n a q q' g1 g2 h3' h4' m1 m2
  ·have h3':A[m]?=some q:=by
    rcases split h3 with h3 | ⟨rfl,_⟩
    ·exact h3
    ·rw [←r.len,List.getElem?_eq_none (Nat.le_refl _)] at g1;cases g1
   rw [ha2] at g1
   exact (none_new m q g1 h3' m1).elim
  ·have h4':A[n]?=some q':=by
    rcases split h4 with h4 | ⟨rfl,_⟩
    ·exact h4
    ·rw [←r.len,List.getElem?_eq_none (Nat.le_refl _)] at g2;cases g2
   rw [ha1] at g2
   exact (none_new n q' g2 h4' m2).elim
  ·rfl
theorem Ext.put{u:HO}(r:Rel K cm ρ A H)(h1:ρ[n]?=some a)(h2:A[n]?=some o)(m:X0 o=true):Ext ρ H ρ (upd H a u):=by
 have key:∀b w,H b=some w->((∃vs,w=.tup vs)\/∃fs,w=.xd fs)->upd H a u b=some w:=λb w h hw=>by
  have ne:b≠a:=by
   rintro rfl
   have q:=r.obj n o b h2 h1
   cases o with
   | lst l=>obtain⟨xs,z,_⟩:=q;rw [h] at z;cases z;rcases hw with ⟨_,y⟩ | ⟨_,y⟩ <;> cases y
   | ro l=>simp [X0] at m
   | dI kvs=>obtain⟨xs,z,_⟩:=q;rw [h] at z;cases z;rcases hw with ⟨_,y⟩ | ⟨_,y⟩ <;> cases y
   | ins c fs=>obtain⟨_,dx,xs,z,_⟩:=q;rw [h] at z;cases z;rcases hw with ⟨_,y⟩ | ⟨_,y⟩ <;> cases y
   | dT kvs=>obtain⟨xs,z,_⟩:=q;rw [h] at z;cases z;rcases hw with ⟨_,y⟩ | ⟨_,y⟩ <;> cases y
   | exc c v=>obtain⟨o,d,v',z,_⟩:=q;rw [h] at z;cases z;rcases hw with ⟨_,y⟩ | ⟨_,y⟩ <;> cases y
  rw [E4 ne];exact h
 exact⟨List.prefix_refl _,λb vs h=>key b _ h (.inl ⟨_,rfl⟩),λb vs h=>key b _ h (.inr ⟨_,rfl⟩)⟩
theorem Rel.put{u:HO}{o':PO}(r:Rel K cm ρ A H)(h1:ρ[n]?=some a)(h2:A[n]?=some o)(m:X0 o=true)(m':X0 o'=true)(hn:RO K cm ρ (upd H a u) a o'):Rel K cm ρ (A.set n o') (upd H a u):=by
 have e:Ext ρ H ρ (upd H a u):=Ext.put r h1 h2 m
 have hlt:=J1 h2
 refine⟨by simp [r.len],λk q b hk hb=>?_,λi j b q q' e1 e2 e3 e4 m1 m2=>?_⟩
 ·by_cases hkn:k=n
  ·subst hkn
   rw [get_set h2] at hk;cases hk
   rw [h1] at hb;cases hb
   exact hn
  ·rw [G7 hkn] at hk
   have q0:=r.obj k q b hk hb
   by_cases hba:b=a
   ·subst hba
    cases hq:X0 q with
    | true=>exact absurd (r.inj k n b q o hb h1 hk h2 hq m) hkn
    | false=>
      cases q with
      | ro l=>
        obtain⟨xs,z,w⟩:=q0
        rcases z with ⟨v,z⟩ | z
        ·obtain⟨v',z'⟩:=(r.obj n o b h2 h1).some m
         have:=r.obj n o b h2 h1
         rw [z] at z';cases z'
         cases o with
         | lst l=>obtain⟨xs,zz,_⟩:=this;rw [z] at zz;cases zz
         | ro l=>simp [X0] at m
         | dI kvs=>obtain⟨xs,zz,_⟩:=this;rw [z] at zz;cases zz
         | ins c fs=>obtain⟨_,dx,xs,zz,_⟩:=this;rw [z] at zz;cases zz
         | dT kvs=>obtain⟨xs,zz,_⟩:=this;rw [z] at zz;cases zz
         | exc c v=>obtain⟨o,d,v',zz,_⟩:=this;rw [z] at zz;cases zz
        ·exact⟨xs,.inr z,w.mono e⟩
      | _=>simp [X0] at hq
   ·exact q0.keep e λv hv=>by rw [E4 hba];exact hv
 ·have f3:∀(k:Nat) (x:PO),(A.set n o')[k]?=some x->X0 x=true->∃y,A[k]?=some y/\X0 y=true:=λk x hk hx=>by
   by_cases hkn:k=n
   ·subst hkn;exact⟨o,h2,m⟩
   ·rw [G7 hkn] at hk;exact⟨x,hk,hx⟩
  obtain⟨y,y1,y2⟩:=f3 i q e3 m1
  obtain⟨z,z1,z2⟩:=f3 j q' e4 m2
  exact r.inj i j b y z e1 e2 y1 z1 y2 z2
end
structure RSt(ρ:List Addr)(H:Hp)(σp:PSt)(σ:L2.St):Prop where
 len:σ.length=σp.length
 get:∀(i:Nat) (p:PV),σp[i]?=some (some p)->∃v,σ[i]?=some (some v)/\RV ρ H p v
theorem RSt.mono{ρ ρ':List Addr}{H H':Hp}{σp:PSt}{σ:L2.St}(h:RSt ρ H σp σ)(e:Ext ρ H ρ' H'):RSt ρ' H' σp σ:=
 ⟨h.len,λi p hp=>let ⟨v,h1,h2⟩:=h.get i p hp;⟨v,h1,h2.mono e⟩⟩
theorem RSt.set{ρ:List Addr}{H:Hp}{σp:PSt}{σ:L2.St}(h:RSt ρ H σp σ)(i:Nat){x:PV}{v:V}(r:RV ρ H x v):RSt ρ H (σp.set i (some x)) (σ.set i (some v)):=by
 refine⟨by simp [h.len],λj p hp=>?_⟩
 by_cases hij:i=j
 ·subst hij
  by_cases hl:i<σp.length
  ·rw [List.getElem?_set] at hp
   simp [hl] at hp
   subst hp
   exact⟨v,by rw [List.getElem?_set];simp [h.len,hl],r⟩
  ·rw [List.getElem?_eq_none (by simp;omega)] at hp;cases hp
 ·rw [List.getElem?_set_ne hij] at hp ⊢
  exact h.get j p hp
section
variable(K:PySem.W.Frag)(cm:Nat->Addr)
def EvE(d:ED):TE:=λσ H Q=>∃(ρ:List Addr) (A:PHp) (σp:PSt) (v:PV) (A':PHp),Rel K cm ρ A H/\RSt ρ H σp σ/\d σp A=.ok v A'/\
 ∀ρ' H' v',Ext ρ H ρ' H'->Rel K cm ρ' A' H'->RV ρ' H' v v'->Q v' H'
def EvT(d:TD):TT:=λσ H Q=>∃(ρ:List Addr) (A:PHp) (σp:PSt) (b:Bool) (A':PHp),Rel K cm ρ A H/\RSt ρ H σp σ/\d σp A=.ok b A'/\
 ∀ρ' H',Ext ρ H ρ' H'->Rel K cm ρ' A' H'->Q b H'
def EvA(d:AD):TA:=λσ H Q=>∃(ρ:List Addr) (A:PHp) (σp:PSt) (vs:List PV) (A':PHp),Rel K cm ρ A H/\RSt ρ H σp σ/\d σp A=.ok vs A'/\
 ∀ρ' H' vs',Ext ρ H ρ' H'->Rel K cm ρ' A' H'->RVs ρ' H' vs vs'->Q vs' H'
def EvG(g:GD):TG:=λv σ H Q=>∃(ρ:List Addr) (A:PHp) (σp:PSt) (x:PV) (σp':PSt) (A':PHp),Rel K cm ρ A H/\RSt ρ H σp σ/\RV ρ H x v/\g x σp A=.ok σp' A'/\
 ∀ρ' H' σ',Ext ρ H ρ' H'->Rel K cm ρ' A' H'->RSt ρ' H' σp' σ'->Q σ' H'
def a76(g:GDs):TGs:=λvs σ H Q=>∃(ρ:List Addr) (A:PHp) (σp:PSt) (xs:List PV) (σp':PSt) (A':PHp),Rel K cm ρ A H/\RSt ρ H σp σ/\RVs ρ H xs vs/\g xs σp A=.ok σp' A'/\
 ∀ρ' H' σ',Ext ρ H ρ' H'->Rel K cm ρ' A' H'->RSt ρ' H' σp' σ'->Q σ' H'
def bw5(D:aC3)(ρ:List Addr)(H:Hp):Fl->Prop
 | .nx σp=>∀σ,RSt ρ H σp σ->D.nx σ H
 | .bk σp=>∀σ,RSt ρ H σp σ->D.bk σ H
 | .ct σp=>∀σ,RSt ρ H σp σ->D.ct σ H
 | .rt v=>∀v',RV ρ H v v'->D.rt v' H
def EvS(s:SD):TS:=λD σ H=>∃(ρ:List Addr) (A:PHp) (σp:PSt) (f:Fl) (A':PHp),Rel K cm ρ A H/\RSt ρ H σp σ/\s σp A=.ok f A'/\
 ∀ρ' H',Ext ρ H ρ' H'->Rel K cm ρ' A' H'->bw5 D ρ' H' f
end
section
variable{X:Cx}{cm:Nat->Addr}
theorem E3{e:Expr}{t t':TE}(h:PE X e t)(k:∀σ H Q,t' σ H Q->t σ H Q):PE X e t':=λpins s σ H Q I q=>h pins s σ H Q I (k σ H Q q)
theorem ab1{e:Expr}{t t':TT}(h:PT X e t)(k:∀σ H Q,t' σ H Q->t σ H Q):PT X e t':=λpins s σ H Q I q=>h pins s σ H Q I (k σ H Q q)
theorem aW4{e:Expr}{t t':TT}(h:PW X e t)(k:∀σ H Q,t' σ H Q->t σ H Q):PW X e t':=λw pins s σ H Q I q=>h w pins s σ H Q I (k σ H Q q)
theorem aW5{es:List Expr}{t t':TA}(h:PA X es t)(k:∀σ H Q,t' σ H Q->t σ H Q):PA X es t':=λpos pins s σ H Q I q=>h pos pins s σ H Q I (k σ H Q q)
theorem d9{st:Stmt}{t t':TS}(h:PS X st t)(k:∀D σ H,t' D σ H->t D σ H):PS X st t':=λpins s σ H D I q=>h pins s σ H D I (k D σ H q)
theorem aI2{st:List Stmt}{t t':TS}(h:PSs X st t)(k:∀D σ H,t' D σ H->t D σ H):PSs X st t':=λpins s σ H D I q=>h pins s σ H D I (k D σ H q)
theorem aW6{e:Expr}{t t':TG}(h:L2.PG X e t)(k:∀v σ H Q,t' v σ H Q->t v σ H Q):L2.PG X e t':=λpins s σ H v u Q I r q=>h pins s σ H v u Q I r (k v σ H Q q)
theorem aI3{es:List Expr}{t t':TGs}(h:PGs X es t)(k:∀v σ H Q,t' v σ H Q->t v σ H Q):PGs X es t':=λpins s σ H vs us Q I r q=>h pins s σ H vs us Q I r (k vs σ H Q q)
theorem br5{i:Nat}{e:Expr}(h:PE X e (bg6 i)):PE X e (EvE X.K cm (eVar i)):=E3 h λσ H Q hq=>by
 obtain ⟨ρ,A,σp,v,A',r,rs,ev,k⟩:=hq
 have:∃p,σp[i]?=some (some p)/\v=p/\A'=A:=by
  unfold eVar at ev
  rcases hσ:σp[i]? with _ | (_ | p)
  ·rw [hσ] at ev;cases ev
  ·rw [hσ] at ev;cases ev
  ·rw [hσ] at ev;cases ev;exact⟨_,rfl,rfl,rfl⟩
 obtain⟨p,hp,rfl,rfl⟩:=this
 obtain⟨u,h1,h2⟩:=rs.get i _ hp
 exact⟨u,h1,k ρ H u (Ext.refl _ _) r h2⟩
theorem r_k{e:Expr}{x:PV}{u:V}(h:PE X e (tC u))(rv:∀ρ H,RV ρ H x u):PE X e (EvE X.K cm (eK x)):=E3 h λσ H Q hq=>by
 obtain ⟨ρ,A,σp,v,A',r,rs,ev,k⟩:=hq
 cases ev
 exact k ρ H u (Ext.refl _ _) r (rv ρ H)
theorem r_int{i:Int}{j pos}:PE X (.Constant (.int i) j pos) (EvE X.K cm (eK (.int i))):=r_k aS8 λ_ _=>.int i
theorem ab2{b:Bool}{j pos}:PE X (.Constant (.bool b) j pos) (EvE X.K cm (eK (.bl b))):=r_k bp2 λ_ _=>.bl b
theorem aW7{j pos}:PE X (.Constant .none j pos) (EvE X.K cm (eK .non)):=r_k bg8 λ_ _=>.non
def V3(K:PySem.W.Frag)(cm:Nat->Addr)(f:OD)(r:R2):Prop:=∀ρ A H x y z A' vx vy (Q:VK),Rel K cm ρ A H->RV ρ H x vx->RV ρ H y vy->f x y A=.ok z A'->
 (∀ρ' H' v',Ext ρ H ρ' H'->Rel K cm ρ' A' H'->RV ρ' H' z v'->Q v' H')->r vx vy H Q
theorem at7{f:OD}{r:R2}{a b:ED}(hf:V3 X.K cm f r){σ:L2.St}{H:Hp}{Q:VK}(h:EvE X.K cm (eBin f a b) σ H Q):tOp r (EvE X.K cm a) (EvE X.K cm b) σ H Q:=by
 obtain⟨ρ,A,σp,z,A',rl,rs,ev,k⟩:=h
 obtain⟨x,A1,e1,ev⟩:=B0 ev
 obtain⟨y,A2,e2,ev⟩:=B0 ev
 exact⟨ρ,A,σp,x,A1,rl,rs,e1,λρ1 H1 vx x1 rl1 rv1=>⟨ρ1,A1,σp,y,A2,rl1,rs.mono x1,e2,λρ2 H2 vy x2 rl2 rv2=>hf ρ2 A2 H2 x y z A' vx vy Q rl2 (rv1.mono x2) rv2 ev λρ3 H3 v3 x3 rl3 rv3=>k ρ3 H3 v3 ((x1.trans x2).trans x3) rl3 rv3⟩⟩
theorem r_bin{op:Operator}{f:OD}{r:R2}{a b:Expr}{da db:ED}{pos:Pos}(ho:OpR X (binaryOp op) r)(hf:V3 X.K cm f r)(ha:PE X a (EvE X.K cm da))(hb:PE X b (EvE X.K cm db)):PE X (.BinOp a op b pos) (EvE X.K cm (eBin f da db)):=
 E3 (bq2 ho ha hb) λσ H Q h=>at7 hf h
theorem V4{op:CmpOp}{f:OD}{r:R2}{a b:Expr}{da db:ED}{pos:Pos}(ho:OpR X (compareOp op) r)(hf:V3 X.K cm f r)(ha:PE X a (EvE X.K cm da))(hb:PE X b (EvE X.K cm db))(hm:behindInMarks op b=false):PE X (.Compare a [op] [b] pos) (EvE X.K cm (eBin f da db)):=
 E3 (a57 ho ha hb hm) λσ H Q h=>at7 hf h
theorem v8{d:ED}{t:TE}(h:∀σ H Q,EvE X.K cm d σ H Q->t σ H Q){σ:L2.St}{H:Hp}{Q:Bool->Hp->Prop}(q:EvT X.K cm (G0 d) σ H Q):be0 t σ H Q:=by
 obtain⟨ρ,A,σp,b,A',rl,rs,ev,k⟩:=q
 obtain⟨x,A1,e1,ev⟩:=B0 ev
 refine h σ H _ ⟨ρ,A,σp,x,A1,rl,rs,e1,λρ1 H1 v1 x1 rl1 rv1=>?_⟩
 cases x with
 | bl c=>
   cases ev
   cases rv1
   exact⟨_,rfl,k ρ1 H1 x1 rl1⟩
 | _=>cases ev
theorem E9{op:CmpOp}{f:OD}{r:R2}{a b:Expr}{da db:ED}{pos:Pos}(ho:OpR X (compareOp op) r)(hf:V3 X.K cm f r)(ha:PE X a (EvE X.K cm da))(hb:PE X b (EvE X.K cm db))(hm:behindInMarks op b=false):PT X (.Compare a [op] [b] pos) (EvT X.K cm (G0 (eBin f da db))):=
 ab1 (a58 ho ha hb hm) λσ H Q h=>v8 (λ_ _ _=>at7 hf) h
theorem K6{e:Expr}{d:ED}(h:PE X e (EvE X.K cm d))(he:∀whole,isTrue e X.env whole=(do let v ←whole;standAt e.pos;holding [v] (truthy v)):=by intro _;rfl):PT X e (EvT X.K cm (G0 d)):=
 ab1 (bh0 h he) λσ H Q q=>v8 (λ_ _ _ z=>z) q
theorem okI{f:OD}{g:Int->Int->PV}{g':Int->Int->V}{C:Int->Int->Prop}(h:∀x y A z A',f x y A=.ok z A'->∃i j,x=.int i/\y=.int j/\C i j/\z=g i j/\A'=A)(hg:∀ρ H i j,RV ρ H (g i j) (g' i j))(K:PySem.W.Frag)(cm:Nat->Addr):V3 K cm f (rI C g'):=
 λρ A H x y z A' vx vy Q rl rx ry ev k=>by
  obtain⟨i,j,rfl,rfl,hc,rfl,rfl⟩:=h _ _ _ _ _ ev
  cases rx;cases ry
  exact⟨i,j,rfl,rfl,hc,k ρ H _ (Ext.refl _ _) rl (hg _ _ _ _)⟩
theorem aO2{f:OD}{g:Int->Int->PV}{g':Int->Int->V}(h:∀x y A z A',f x y A=.ok z A'->∃i j,x=.int i/\y=.int j/\z=g i j/\A'=A)(hg:∀ρ H i j,RV ρ H (g i j) (g' i j))(K:PySem.W.Frag)(cm:Nat->Addr):V3 K cm f (rI0 g'):=
 λρ A H x y z A' vx vy Q rl rx ry ev k=>by
  obtain⟨i,j,rfl,rfl,rfl,rfl⟩:=h _ _ _ _ _ ev
  cases rx;cases ry
  exact⟨i,j,rfl,rfl,k ρ H _ (Ext.refl _ _) rl (hg _ _ _ _)⟩
theorem bl4:V3 X.K cm bk8 (rI0 λi j=>.int (i - j)):=aO2 (g:=λi j=>.int (i - j)) (λx y A z A' h=>by cases x <;> cases y <;> first | (cases h;exact⟨_,_,rfl,rfl,rfl,rfl⟩) | cases h) (λ_ _ _ _=>.int _) _ _
theorem ad4:V3 X.K cm oLt (rI0 λi j=>.bl (decide (i<j))):=aO2 (g:=λi j=>.bl (decide (i<j))) (λx y A z A' h=>by cases x <;> cases y <;> first | (cases h;exact⟨_,_,rfl,rfl,rfl,rfl⟩) | cases h) (λ_ _ _ _=>.bl _) _ _
theorem aW8:V3 X.K cm oLe (rI0 λi j=>.bl (decide (i<=j))):=aO2 (g:=λi j=>.bl (decide (i<=j))) (λx y A z A' h=>by cases x <;> cases y <;> first | (cases h;exact⟨_,_,rfl,rfl,rfl,rfl⟩) | cases h) (λ_ _ _ _=>.bl _) _ _
theorem bf1:V3 X.K cm oGt (rI0 λi j=>.bl (decide (j<i))):=aO2 (g:=λi j=>.bl (decide (j<i))) (λx y A z A' h=>by cases x <;> cases y <;> first | (cases h;exact⟨_,_,rfl,rfl,rfl,rfl⟩) | cases h) (λ_ _ _ _=>.bl _) _ _
theorem br6:V3 X.K cm oGe (rI0 λi j=>.bl (decide (j<=i))):=aO2 (g:=λi j=>.bl (decide (j<=i))) (λx y A z A' h=>by cases x <;> cases y <;> first | (cases h;exact⟨_,_,rfl,rfl,rfl,rfl⟩) | cases h) (λ_ _ _ _=>.bl _) _ _
theorem ok_mod:V3 X.K cm oMod (rI (λ_ j=>0<j) λi j=>.int (i%j)):=okI (g:=λi j=>.int (i%j)) (λx y A z A' h=>by
 cases x <;> cases y <;> first | (obtain⟨c,h⟩:=C8 h;cases h;exact⟨_,_,rfl,rfl,c,rfl,rfl⟩) | cases h) (λ_ _ _ _=>.int _) _ _
theorem a77:V3 X.K cm aV7 (rI bq4 λi j=>.int (i / j)):=okI (g:=λi j=>.int (i / j)) (λx y A z A' h=>by
 cases x <;> cases y <;> first | (obtain⟨c,h⟩:=C8 h;cases h;exact⟨_,_,rfl,rfl,c,rfl,rfl⟩) | cases h) (λ_ _ _ _=>.int _) _ _
theorem at8:V3 X.K cm aO0 (rI CMul λi j=>.int (i*j)):=okI (g:=λi j=>.int (i*j)) (λx y A z A' h=>by
 cases x <;> cases y <;> first | (obtain⟨c,h⟩:=C8 h;cases h;exact⟨_,_,rfl,rfl,c,rfl,rfl⟩) | cases h) (λ_ _ _ _=>.int _) _ _
end
section
variable{K:PySem.W.Frag}{ρ:List Addr}{H:Hp}{A:PHp}{n:Nat}{v:V}{l:List PV}
theorem K1{cm:Nat->Addr}{A':PHp}(rl:Rel K cm ρ A H)(r:RV ρ H (.ref n) v)(h:D3 n A=.ok l A'):A'=A/\∃a xs,v=.ref a/\SqL K H a xs/\RVs ρ H l xs:=by
 cases r with
 | ref hn=>
   unfold D3 at h
   rcases hA:A[n]? with _ | o
   ·rw [hA] at h;cases h
   ·have q:=rl.obj n o _ hA hn
    cases o with
    | lst m=>rw [hA] at h;cases h;obtain⟨xs,h1,h2⟩:=q;exact⟨rfl,_,xs,rfl,SqL.of h1,h2⟩
    | ro m=>rw [hA] at h;cases h;obtain⟨xs,h1,h2⟩:=q;exact⟨rfl,_,xs,rfl,h1.sq,h2⟩
    | dI m=>rw [hA] at h;cases h
    | ins c m=>rw [hA] at h;cases h
    | dT m=>rw [hA] at h;cases h
    | exc c m=>rw [hA] at h;cases h
theorem P8{cm:Nat->Addr}{A':PHp}(rl:Rel K cm ρ A H)(r:RV ρ H (.ref n) v)(h:T8 n A=.ok l A'):A'=A/\A[n]?=some (.lst l)/\∃a xs,v=.ref a/\ρ[n]?=some a/\H a=some (.lst xs)/\RVs ρ H l xs:=by
 cases r with
 | ref hn=>
   unfold T8 at h
   rcases hA:A[n]? with _ | o
   ·rw [hA] at h;cases h
   ·have q:=rl.obj n o _ hA hn
    cases o with
    | lst m=>rw [hA] at h;cases h;obtain⟨xs,h1,h2⟩:=q;exact⟨rfl,rfl,_,xs,rfl,hn,h1,h2⟩
    | ro m=>rw [hA] at h;cases h
    | dI m=>rw [hA] at h;cases h
    | ins c m=>rw [hA] at h;cases h
    | dT m=>rw [hA] at h;cases h
    | exc c m=>rw [hA] at h;cases h
theorem ah3{cm:Nat->Addr}{c:Nat}{fs:List (Nat×PV)}{a:Addr}(rl:Rel K cm ρ A H)(hA:A[n]?=some (.ins c fs))(hn:ρ[n]?=some a):c<7:=(rl.obj n _ _ hA hn).1.1
theorem ah4{cm:Nat->Addr}{A':PHp}{o:Nat×List (Nat×PV)}(rl:Rel K cm ρ A H)(r:RV ρ H (.ref n) v)(h:i8 n A=.ok o A'):A'=A/\A[n]?=some (.ins o.1 o.2)/\∃a dx kv,v=.ref a/\ρ[n]?=some a/\H a=some (.ins (cm o.1) dx kv)/\Pairs fnm ρ H o.2 kv/\∀p∈o.2,p.1<19:=by
 cases r with
 | ref hn=>
   unfold i8 at h
   rcases hA:A[n]? with _ | o
   ·rw [hA] at h;cases h
   ·have q:=rl.obj n o _ hA hn
    cases o with
    | lst m=>rw [hA] at h;cases h
    | ro m=>rw [hA] at h;cases h
    | dI m=>rw [hA] at h;cases h
    | ins c m=>rw [hA] at h;cases h;obtain⟨hs,dx,kv,h1,h2⟩:=q;exact⟨rfl,rfl,_,dx,kv,rfl,hn,h1,h2,hs.2⟩
    | dT m=>rw [hA] at h;cases h
    | exc c m=>rw [hA] at h;cases h
theorem j5{cm:Nat->Addr}{x:PV}{A':PHp}(rl:Rel K cm ρ A H)(r:RV ρ H x v)(h:O5 x A=.ok l A'):A'=A/\∃a xs,v=.ref a/\(SqL K H a xs\/SqT K H a xs)/\RVs ρ H l xs:=by
 cases x with
 | ref n=>
   obtain⟨e,a,xs,h1,h2,h3⟩:=K1 rl r h
   exact⟨e,a,xs,h1,.inl h2,h3⟩
 | tup m=>
   cases h
   cases r with
   | tup h1 h2=>exact⟨rfl,_,_,rfl,.inr (SqT.of h1),h2⟩
 | _=>cases h
theorem bl5{α:Type}(xs:List α)(i:Int):L2.atI xs i=atI xs i:=rfl
theorem RVs.at{xs:List V}{i:Int}{x:PV}(r:RVs ρ H l xs)(h:atI l i=some x):∃u,L2.atI xs i=some u/\RV ρ H x u:=by
 rw [bl5]
 unfold atI at h ⊢
 rw [←r.length]
 rcases e:ixN l.length i with _ | j
 ·rw [e] at h;cases h
 ·rw [e] at h
  obtain⟨u,h1,h2⟩:=r.get (i:=j) h
  exact⟨u,h1,h2⟩
theorem v9(n d:Nat)(o:Option Int):HT.sIx n d o=a7 n d o:=by
 cases o with
 | none=>rfl
 | some v=>
   have e:=HT.clip_eq v n d
   show HT.sIx n d (some v)=if v<0 then (max (v+n) 0).toNat else (min v n).toNat
   by_cases h:v<0
   ·rw [if_pos h] at e ⊢;omega
   ·rw [if_neg h] at e ⊢;omega
theorem RVs.slc{xs:List V}(r:RVs ρ H l xs)(lo hi:Option Int):RVs ρ H (cut l lo hi) (as4 xs lo hi):=by
 unfold cut as4
 rw [v9,v9,←r.length]
 exact (r.drop _).take _
end
theorem X2{n:Nat}(h:n<=LIM):n<=sizeLine:=Nat.le_trans h (by unfold LIM;rw [sizeLine_eq];decide)
theorem at9{n:Nat}(h:n<LIM):n<sizeLine:=Nat.lt_of_lt_of_le h (by unfold LIM;rw [sizeLine_eq];decide)
section
variable{X:Cx}{cm:Nat->Addr}
def bf2(K:PySem.W.Frag):R2:=λx y H Q=>(∃i j,x=.int i/\y=.int j/\Q (.int (i+j)) H)\/(be4 K x y H Q\/rCat x y H Q)
theorem J7:OpR X (binaryOp .Add) (bf2 X.K):=op_add.or (op_catT.or bj8)
theorem L9:V3 X.K cm V6 (bf2 X.K):=λρ A H x y z A' vx vy Q rl rx ry ev k=>by
 cases x with
 | int i=>
   cases y with
   | int j=>cases ev;cases rx;cases ry;exact .inl ⟨i,j,rfl,rfl,k ρ H _ (Ext.refl _ _) rl (.int _)⟩
   | _=>cases ev
 | tup l=>
   cases y with
   | tup m=>
     obtain⟨c,ev⟩:=C8 ev
     cases ev
     cases rx with
     | tup h1 r1=>
       cases ry with
       | tup h2 r2=>
         refine .inr (.inl ⟨_,_,_,_,rfl,rfl,SqT.of h1,SqT.of h2,?_,?_,?_⟩)
         ·intro e;subst e;have:=r1.length;exact c.1 (List.length_eq_zero_iff.mp (by simpa using this))
         ·rw [←r1.length,←r2.length];exact X2 c.2
         ·refine⟨λz=>?_,λ_ p hp=>?_⟩
          ·subst z
           cases r2
           refine k ρ H _ (Ext.refl _ _) rl ?_
           rw [List.append_nil];exact .tup h1 r1
          ·refine k ρ _ _ (Ext.same hp) (rl.tup hp) (.tup D8 ?_)
           exact (r1.mono (Ext.same hp)).append (r2.mono (Ext.same hp))
   | _=>cases ev
 | ref n=>
   cases y with
   | ref m=>
     obtain⟨l1,A1,e1,ev1⟩:=B0 ev
     obtain⟨rfl,_,a,xs,rfl,_,ha,r1⟩:=P8 rl rx e1
     obtain⟨l2,A2,e2,ev2⟩:=B0 ev1
     obtain⟨rfl,_,b,ys,rfl,_,hb,r2⟩:=P8 rl ry e2
     obtain⟨c,ev3⟩:=C8 ev2
     cases ev3
     refine .inr (.inr ⟨a,b,xs,ys,rfl,rfl,ha,hb,?_,λp hp=>?_⟩)
     ·rw [←r1.length,←r2.length];exact X2 c
     ·have e:Ext ρ H (ρ++[p]) (upd H p (.lst (xs++ys))):=Ext.new hp
      exact k (ρ++[p]) _ _ e (rl.alloc hp ⟨_,D8,(r1.mono e).append (r2.mono e)⟩ rfl) (.ref (by rw [←rl.len];simp))
   | _=>cases ev
 | _=>cases y <;> cases ev
def br7(K:PySem.W.Frag):R2:=λx y H Q=>bq8 K x y H Q\/bq9 K x y H Q
theorem ix2:IxR X (br7 X.K):=ix_list.or bj5
theorem br8:V3 X.K cm oIx (br7 X.K):=λρ A H x y z A' vx vy Q rl rx ry ev k=>by
 cases y with
 | int i=>
   obtain⟨l,A1,e1,ev1⟩:=B0 ev
   obtain⟨rfl,a,xs,rfl,hs,rs⟩:=j5 rl rx e1
   rcases hi:atI l i with _ | u
   ·rw [hi] at ev1;cases ev1
   ·rw [hi] at ev1
    cases ev1
    cases ry
    obtain⟨w,hw,rw'⟩:=rs.at hi
    rcases hs with hs | hs
    ·exact .inl ⟨a,xs,i,w,rfl,rfl,hs,hw,k ρ H w (Ext.refl _ _) rl rw'⟩
    ·exact .inr ⟨a,xs,i,w,rfl,rfl,hs,hw,k ρ H w (Ext.refl _ _) rl rw'⟩
 | _=>cases ev
theorem r_ix{a b:Expr}{da db:ED}{pos:Pos}(ha:PE X a (EvE X.K cm da))(hb:PE X b (EvE X.K cm db))(hs:aH7 b):PE X (.Subscript a b pos) (EvE X.K cm (eBin oIx da db)):=
 E3 (bq7 ix2 ha hb hs) λσ H Q h=>at7 br8 h
theorem ah5{ρ:List Addr}{H:Hp}{x:PV}{v:V}(r:RV ρ H x v):decide (v=.non)=ax5 x:=by
 cases r <;> simp [ax5]
theorem br9{a:Expr}{da:ED}{j:Nat}{pos pos':Pos}(ha:PE X a (EvE X.K cm da)):PE X (.Compare a [.Is] [.Constant .none j pos'] pos) (EvE X.K cm (aD7 da)):=
 E3 (aT0 (aS9 ha)) λσ H Q hq=>by
  obtain ⟨ρ,A,σp,v,A',rl,rs,ev,k⟩:=hq
  obtain⟨x,A1,e1,ev⟩:=B0 ev
  cases ev
  exact⟨ρ,A,σp,x,A',rl,rs,e1,λρ1 H1 v1 x1 rl1 rv1=>k ρ1 H1 _ x1 rl1 (by rw [ah5 rv1];exact .bl _)⟩
theorem aE7{a:Expr}{da:ED}{j:Nat}{pos pos':Pos}(ha:PE X a (EvE X.K cm da)):PT X (.Compare a [.Is] [.Constant .none j pos'] pos) (EvT X.K cm (G0 (aD7 da))):=
 ab1 (aC4 (aS9 ha)) λσ H Q q=>v8 (t:=bp3 (EvE X.K cm da)) (λσ H Q hq=>by
  obtain ⟨ρ,A,σp,v,A',rl,rs,ev,k⟩:=hq
  obtain⟨x,A1,e1,ev⟩:=B0 ev
  cases ev
  exact⟨ρ,A,σp,x,A',rl,rs,e1,λρ1 H1 v1 x1 rl1 rv1=>k ρ1 H1 _ x1 rl1 (by rw [ah5 rv1];exact .bl _)⟩) q
theorem a78{a:Expr}{da:ED}{j:Nat}{pos pos':Pos}(ha:PE X a (EvE X.K cm da)):PT X (.Compare a [.IsNot] [.Constant .none j pos'] pos) (EvT X.K cm (G0 (be7 da))):=
 ab1 (aC4 (a48 ha)) λσ H Q q=>v8 (t:=bd8 (EvE X.K cm da)) (λσ H Q hq=>by
  obtain ⟨ρ,A,σp,v,A',rl,rs,ev,k⟩:=hq
  obtain⟨x,A1,e1,ev⟩:=B0 ev
  cases ev
  exact⟨ρ,A,σp,x,A',rl,rs,e1,λρ1 H1 v1 x1 rl1 rv1=>k ρ1 H1 _ x1 rl1 (by rw [ah5 rv1];exact .bl _)⟩) q
theorem aW9{f g:OD}{r r':R2}{a b c:ED}(hf:V3 X.K cm f r)(hg:V3 X.K cm g r'){σ:L2.St}{H:Hp}{Q:VK}(h:EvE X.K cm (at1 f g a b c) σ H Q):aT9 r r' (EvE X.K cm a) (EvE X.K cm b) (EvE X.K cm c) σ H Q:=by
 obtain⟨ρ,A,σp,z,A',rl,rs,ev,k⟩:=h
 obtain⟨x,A1,e1,ev⟩:=B0 ev
 obtain⟨y,A2,e2,ev⟩:=B0 ev
 obtain⟨m,A3,e3,ev⟩:=B0 ev
 refine⟨ρ,A,σp,x,A1,rl,rs,e1,λρ1 H1 vx x1 rl1 rv1=>⟨ρ1,A1,σp,y,A2,rl1,rs.mono x1,e2,λρ2 H2 vy x2 rl2 rv2=>hf ρ2 A2 H2 x y m A3 vx vy _ rl2 (rv1.mono x2) rv2 e3 λρ3 H3 v3 x3 rl3 rv3=>?_⟩⟩
 have x13:=(x1.trans x2).trans x3
 cases m with
 | bl t=>
   cases rv3
   refine⟨t,rfl,?_⟩
   cases t with
   | true=>
     rw [if_pos rfl]
     obtain⟨u,A4,e4,ev⟩:=B0 ev
     exact⟨ρ3,A3,σp,u,A4,rl3,rs.mono x13,e4,λρ4 H4 v4 x4 rl4 rv4=>hg ρ4 A4 H4 y u z A' vy v4 Q rl4 ((rv2.mono x3).mono x4) rv4 ev λρ5 H5 v5 x5 rl5 rv5=>k ρ5 H5 v5 ((x13.trans x4).trans x5) rl5 rv5⟩
   | false=>
     rw [if_neg (by simp)]
     cases ev
     exact k ρ3 H3 _ x13 rl3 (.bl false)
 | _=>cases ev
theorem aI4{op op':CmpOp}{f g:OD}{r r':R2}{a b c:Expr}{da db dc:ED}{pos:Pos}(ho:OpR X (compareOp op) r)(hf:V3 X.K cm f r)(ho':OpR X (compareOp op') r')(hg:V3 X.K cm g r')
 (ha:PE X a (EvE X.K cm da)) (hb:PE X b (EvE X.K cm db)) (hc:PE X c (EvE X.K cm dc)) (hm:lastMarks [op,op'] [b,c]=false:=by with_unfolding_all rfl):PE X (.Compare a [op,op'] [b,c] pos) (EvE X.K cm (at1 f g da db dc)):=
 E3 (aU0 ho ho' ha hb hc hm) λσ H Q h=>aW9 hf hg h
theorem P9{a:Expr}{t:TD}{pos:Pos}(h:PT X a (EvT X.K cm t)):PT X (.UnaryOp .Not a pos) (EvT X.K cm (tNot t)):=ab1 (bh3 h) λσ H Q hq=>by
 obtain ⟨ρ,A,σp,b,A',rl,rs,ev,k⟩:=hq
 obtain⟨c,A1,e1,ev⟩:=B0 ev
 cases ev
 exact⟨ρ,A,σp,c,A',rl,rs,e1,λρ1 H1 x1 rl1=>k ρ1 H1 x1 rl1⟩
theorem au0{a:Expr}{t:TD}{pos:Pos}(h:PT X a (EvT X.K cm t)):PW X (.BoolOp .And [a] pos) (EvT X.K cm t):=a49 h
theorem V7{a:Expr}{t:TD}{pos:Pos}(h:PT X a (EvT X.K cm t)):PW X (.BoolOp .Or [a] pos) (EvT X.K cm t):=bh1 h
theorem au1{a b:Expr}{rest:List Expr}{t u:TD}{pos:Pos}(ha:PT X a (EvT X.K cm t))(hb:PW X (.BoolOp .And (b::rest) pos) (EvT X.K cm u)):PW X (.BoolOp .And (a::b::rest) pos) (EvT X.K cm (tAnd t u)):=
 aW4 (bh2 ha hb) λσ H Q hq=>by
  obtain ⟨ρ,A,σp,z,A',rl,rs,ev,k⟩:=hq
  obtain⟨c,A1,e1,ev⟩:=B0 ev
  refine⟨ρ,A,σp,c,A1,rl,rs,e1,λρ1 H1 x1 rl1=>?_⟩
  cases c with
  | true=>rw [if_pos rfl] at ev ⊢;exact⟨ρ1,A1,σp,z,A',rl1,rs.mono x1,ev,λρ2 H2 x2 rl2=>k ρ2 H2 (x1.trans x2) rl2⟩
  | false=>rw [if_neg (by simp)] at ev ⊢;cases ev;exact k ρ1 H1 x1 rl1
theorem b0{a b:Expr}{rest:List Expr}{t u:TD}{pos:Pos}(ha:PT X a (EvT X.K cm t))(hb:PW X (.BoolOp .Or (b::rest) pos) (EvT X.K cm u)):PW X (.BoolOp .Or (a::b::rest) pos) (EvT X.K cm (tOr t u)):=
 aW4 (bp4 ha hb) λσ H Q hq=>by
  obtain ⟨ρ,A,σp,z,A',rl,rs,ev,k⟩:=hq
  obtain⟨c,A1,e1,ev⟩:=B0 ev
  refine⟨ρ,A,σp,c,A1,rl,rs,e1,λρ1 H1 x1 rl1=>?_⟩
  cases c with
  | true=>rw [if_pos rfl] at ev ⊢;cases ev;exact k ρ1 H1 x1 rl1
  | false=>rw [if_neg (by simp)] at ev ⊢;exact⟨ρ1,A1,σp,z,A',rl1,rs.mono x1,ev,λρ2 H2 x2 rl2=>k ρ2 H2 (x1.trans x2) rl2⟩
theorem au2{x:PV}{A A':PHp}{c:Bool}(h:asB x A=.ok c A'):x=.bl c/\A'=A:=by
 cases x with
 | bl b=>cases h;exact⟨rfl,rfl⟩
 | _=>cases h
theorem U3{a:Expr}{d:ED}{pos:Pos}(h:PE X a (EvE X.K cm d)):PE X (.BoolOp .And [a] pos) (EvE X.K cm d):=aT1 h
theorem bs0{a:Expr}{d:ED}{pos:Pos}(h:PE X a (EvE X.K cm d)):PE X (.BoolOp .Or [a] pos) (EvE X.K cm d):=aT1 h
theorem X3{a b:Expr}{rest:List Expr}{d u:ED}{pos:Pos}(ha:PE X a (EvE X.K cm d))(hb:PE X (.BoolOp .And (b::rest) pos) (EvE X.K cm u)):PE X (.BoolOp .And (a::b::rest) pos) (EvE X.K cm (i9 d u)):=
 E3 (bh4 ha hb) λσ H Q hq=>by
  obtain ⟨ρ,A,σp,z,A',rl,rs,ev,k⟩:=hq
  obtain⟨c,A1,e1,ev⟩:=B0 ev
  obtain⟨x,A0,e0,e1⟩:=B0 e1
  obtain⟨rfl,rfl⟩:=au2 e1
  refine⟨ρ,A,σp,_,_,rl,rs,e0,λρ1 H1 v1 x1 rl1 rv1=>?_⟩
  cases rv1
  refine⟨c,rfl,?_⟩
  cases c with
  | true=>rw [if_pos rfl] at ev ⊢;exact⟨ρ1,_,σp,z,A',rl1,rs.mono x1,ev,λρ2 H2 v2 x2 rl2=>k ρ2 H2 v2 (x1.trans x2) rl2⟩
  | false=>rw [if_neg (by simp)] at ev ⊢;cases ev;exact k ρ1 H1 _ x1 rl1 (.bl false)
theorem bw6{a b:Expr}{rest:List Expr}{d u:ED}{pos:Pos}(ha:PE X a (EvE X.K cm d))(hb:PE X (.BoolOp .Or (b::rest) pos) (EvE X.K cm u)):PE X (.BoolOp .Or (a::b::rest) pos) (EvE X.K cm (eOr d u)):=
 E3 (bp7 ha hb) λσ H Q hq=>by
  obtain ⟨ρ,A,σp,z,A',rl,rs,ev,k⟩:=hq
  obtain⟨c,A1,e1,ev⟩:=B0 ev
  obtain⟨x,A0,e0,e1⟩:=B0 e1
  obtain⟨rfl,rfl⟩:=au2 e1
  refine⟨ρ,A,σp,_,_,rl,rs,e0,λρ1 H1 v1 x1 rl1 rv1=>?_⟩
  cases rv1
  refine⟨c,rfl,?_⟩
  cases c with
  | true=>rw [if_pos rfl] at ev ⊢;cases ev;exact k ρ1 H1 _ x1 rl1 (.bl true)
  | false=>rw [if_neg (by simp)] at ev ⊢;exact⟨ρ1,_,σp,z,A',rl1,rs.mono x1,ev,λρ2 H2 v2 x2 rl2=>k ρ2 H2 v2 (x1.trans x2) rl2⟩
theorem bf3{a:Expr}{d:ED}{pos:Pos}(ha:PE X a (EvE X.K cm d)):PE X (.UnaryOp .Not a pos) (EvE X.K cm (bk9 d)):=
 E3 (bh5 ha) λσ H Q hq=>by
  obtain ⟨ρ,A,σp,z,A',rl,rs,ev,k⟩:=hq
  obtain⟨c,A1,e1,ev⟩:=B0 ev
  obtain⟨x,A0,e0,e1⟩:=B0 e1
  obtain⟨rfl,rfl⟩:=au2 e1
  cases ev
  refine⟨ρ,A,σp,_,_,rl,rs,e0,λρ1 H1 v1 x1 rl1 rv1=>?_⟩
  cases rv1
  exact⟨c,rfl,k ρ1 H1 _ x1 rl1 (.bl _)⟩
theorem bs1{c a b:Expr}{t:TD}{d u:ED}{pos:Pos}(hc:PT X c (EvT X.K cm t))(ha:PE X a (EvE X.K cm d))(hb:PE X b (EvE X.K cm u)):PE X (.IfExp c a b pos) (EvE X.K cm (eIf t d u)):=
 E3 (aT2 hc ha hb) λσ H Q hq=>by
  obtain ⟨ρ,A,σp,z,A',rl,rs,ev,k⟩:=hq
  obtain⟨c,A1,e1,ev⟩:=B0 ev
  refine⟨ρ,A,σp,c,A1,rl,rs,e1,λρ1 H1 x1 rl1=>?_⟩
  cases c with
  | true=>rw [if_pos rfl] at ev ⊢;exact⟨ρ1,A1,σp,z,A',rl1,rs.mono x1,ev,λρ2 H2 v2 x2 rl2=>k ρ2 H2 v2 (x1.trans x2) rl2⟩
  | false=>rw [if_neg (by simp)] at ev ⊢;exact⟨ρ1,A1,σp,z,A',rl1,rs.mono x1,ev,λρ2 H2 v2 x2 rl2=>k ρ2 H2 v2 (x1.trans x2) rl2⟩
theorem r_nil:PA X [] (EvA X.K cm aNil):=aW5 as3 λσ H Q hq=>by
 obtain ⟨ρ,A,σp,vs,A',rl,rs,ev,k⟩:=hq
 cases ev
 exact k ρ H [] (Ext.refl _ _) rl .nil
theorem r_cons{e:Expr}{es:List Expr}{d:ED}{ds:AD}(h:PE X e (EvE X.K cm d))(hr:PA X es (EvA X.K cm ds))(hs:starEach (e::es) X.env=(false,eval e X.env)::starEach es X.env:=by exact E5 rfl):PA X (e::es) (EvA X.K cm (aCons d ds)):=
 aW5 (d4 h hr hs) λσ H Q hq=>by
  obtain ⟨ρ,A,σp,vs,A',rl,rs,ev,k⟩:=hq
  obtain⟨x,A1,e1,ev⟩:=B0 ev
  obtain⟨xs,A2,e2,ev⟩:=B0 ev
  cases ev
  exact⟨ρ,A,σp,x,A1,rl,rs,e1,λρ1 H1 v1 x1 rl1 rv1=>⟨ρ1,A1,σp,xs,A',rl1,rs.mono x1,e2,λρ2 H2 vs2 x2 rl2 rv2=>k ρ2 H2 _ (x1.trans x2) rl2 (.cons (rv1.mono x2) rv2)⟩⟩
theorem R7{es:List Expr}{ds:AD}{x1:Nat}{pos:Pos}(h:PA X es (EvA X.K cm ds)):PE X (.Tuple es x1 pos) (EvE X.K cm (W3 ds)):=
 E3 (bj0 h) λσ H Q hq=>by
  obtain ⟨ρ,A,σp,v,A',rl,rs,ev,k⟩:=hq
  obtain⟨xs,A1,e1,ev⟩:=B0 ev
  obtain⟨c,ev⟩:=C8 ev
  cases ev
  refine⟨ρ,A,σp,xs,A',rl,rs,e1,λρ1 H1 vs1 x1 rl1 rv1=>⟨by rw [←rv1.length];exact X2 c,λp hp=>?_⟩⟩
  have e:Ext ρ1 H1 ρ1 (upd H1 p (.tup vs1)):=Ext.same hp
  exact k ρ1 _ _ (x1.trans e) (rl1.tup hp) (.tup D8 (rv1.mono e))
theorem r_lst{es:List Expr}{ds:AD}{pos:Pos}(h:PA X es (EvA X.K cm ds)):PE X (.List es pos) (EvE X.K cm (eLst ds)):=
 E3 (bj1 h) λσ H Q hq=>by
  obtain ⟨ρ,A,σp,v,A',rl,rs,ev,k⟩:=hq
  obtain⟨xs,A1,e1,ev⟩:=B0 ev
  obtain⟨c,ev⟩:=C8 ev
  cases ev
  refine⟨ρ,A,σp,xs,A1,rl,rs,e1,λρ1 H1 vs1 x1 rl1 rv1=>⟨by rw [←rv1.length];exact X2 c,λp hp=>?_⟩⟩
  have e:Ext ρ1 H1 (ρ1++[p]) (upd H1 p (.lst vs1)):=Ext.new hp
  exact k (ρ1++[p]) _ _ (x1.trans e) (rl1.alloc hp ⟨_,D8,rv1.mono e⟩ rfl) (.ref (by rw [←rl1.len];simp))
def EvL(K:PySem.W.Frag)(cm:Nat->Addr)(d:LD):L2.TO:=λσ H Q=>∃(ρ:List Addr) (A:PHp) (σp:PSt) (v:Option Int) (A':PHp),Rel K cm ρ A H/\RSt ρ H σp σ/\d σp A=.ok v A'/\
 ∀ρ' H',Ext ρ H ρ' H'->Rel K cm ρ' A' H'->Q v H'
theorem aX0{e:Option Expr}{t t':L2.TO}(h:L2.PO X e t)(k:∀σ H Q,t' σ H Q->t σ H Q):L2.PO X e t':=λpins s σ H Q I q=>h pins s σ H Q I (k σ H Q q)
theorem r_lno:L2.PO X none (EvL X.K cm lNo):=aX0 a66 λσ H Q hq=>by
 obtain ⟨ρ,A,σp,v,A',rl,rs,ev,k⟩:=hq
 cases ev;exact k ρ H (Ext.refl _ _) rl
theorem ay2{e:Expr}{d:ED}(h:PE X e (EvE X.K cm d)):L2.PO X (some e) (EvL X.K cm (lAt d)):=aX0 (a67 h) λσ H Q hq=>by
 obtain ⟨ρ,A,σp,v,A',rl,rs,ev,k⟩:=hq
 obtain⟨x,A1,e1,ev1⟩:=B0 ev
 refine⟨ρ,A,σp,x,A1,rl,rs,e1,λρ1 H1 v1 x1 rl1 rv1=>?_⟩
 cases x with
 | int i=>cases ev1;cases rv1;exact⟨i,rfl,k ρ1 H1 x1 rl1⟩
 | _=>cases ev1
theorem ay3{e:Expr}{lo hi:Option Expr}{d:ED}{dl dh:LD}{p2 pos:Pos}(he:PE X e (EvE X.K cm d))(hl:L2.PO X lo (EvL X.K cm dl))(hu:L2.PO X hi (EvL X.K cm dh)):PE X (.Subscript e (.Slice lo hi none p2) pos) (EvE X.K cm (aD8 d dl dh)):=
 E3 (aU8 (sl_list.or bj4) he hl hu) λσ H Q hq=>by
  obtain ⟨ρ,A,σp,v,A',rl,rs,ev,k⟩:=hq
  obtain⟨x,A1,e1,ev1⟩:=B0 ev
  obtain⟨l,A2,e2,ev2⟩:=B0 ev1
  obtain⟨h,A3,e3,ev3⟩:=B0 ev2
  refine⟨ρ,A,σp,x,A1,rl,rs,e1,λρ1 H1 v1 x1 rl1 rv1=>⟨ρ1,A1,σp,l,A2,rl1,rs.mono x1,e2,λρ2 H2 x2 rl2=>⟨ρ2,A2,σp,h,A3,rl2,(rs.mono x1).mono x2,e3,λρ3 H3 x3 rl3=>?_⟩⟩⟩
  have x13:=(x1.trans x2).trans x3
  have rv3:=rv1.mono (x2.trans x3)
  cases x with
  | ref n=>
    obtain⟨xs,A4,e4,ev4⟩:=B0 ev3
    obtain⟨rfl,a,vs,rfl,hs,r⟩:=K1 rl3 rv3 e4
    cases ev4
    refine .inl ⟨a,vs,rfl,hs,λp hp=>?_⟩
    have e:Ext ρ3 H3 (ρ3++[p]) (upd H3 p (.lst (as4 vs l h))):=Ext.new hp
    exact k (ρ3++[p]) _ _ (x13.trans e) (rl3.alloc hp ⟨_,D8,(r.slc l h).mono e⟩ rfl) (.ref (by rw [←rl3.len];simp))
  | tup xs=>
    obtain⟨c,ev4⟩:=C8 ev3
    cases ev4
    cases rv3 with
    | tup ha r=>
      refine .inr ⟨_,_,rfl,SqT.of ha,by rw [v9,v9,←r.length];exact c,λp hp=>?_⟩
      exact k ρ3 _ _ (x13.trans (Ext.same hp)) (rl3.tup hp) (.tup D8 ((r.slc l h).mono (Ext.same hp)))
  | _=>cases ev3
theorem Z5{d:ED}{f:PV->M PV}{r:List V->Hp->VK->Prop}{e:ED}(he:∀σ,e σ=bnd (d σ) f)
 (hf:∀ρ A H x z A' v (Q:VK),Rel X.K cm ρ A H->RV ρ H x v->f x A=.ok z A'->(∀ρ' H' v',Ext ρ H ρ' H'->Rel X.K cm ρ' A' H'->RV ρ' H' z v'->Q v' H')->r [v] H Q)
 {σ:L2.St} {H:Hp} {Q:VK} (h:EvE X.K cm e σ H Q):tCB r (EvA X.K cm (aCons d aNil)) σ H Q:=by
 obtain⟨ρ,A,σp,z,A',rl,rs,ev,k⟩:=h
 rw [he] at ev
 obtain⟨x,A1,e1,ev1⟩:=B0 ev
 refine⟨ρ,A,σp,[x],A1,rl,rs,by show bnd (d σp) _ A=_;rw [bnd_ok e1];rfl,λρ1 H1 vs1 x1 rl1 rv1=>?_⟩
 cases rv1 with
 | cons hv hr=>
   cases hr
   exact hf ρ1 A1 H1 x z A' _ Q rl1 hv ev1 λρ2 H2 v2 x2 rl2 rv2=>k ρ2 H2 v2 (x1.trans x2) rl2 rv2
theorem r_len{e:Expr}{d:ED}{p pos:Pos}(he:PE X e (EvE X.K cm d))(hg:Gl X "len")(hm:X.mg "len" = none)(hs:starEach [e] X.env=(false,eval e X.env)::starEach [] X.env:=by exact E5 rfl):PE X (.Call (.Name "len" p) [e] [] pos) (EvE X.K cm (aa3 d)):=
 E3 (S4 as6 hg hm PySem.boot_len (r_cons he r_nil hs) (he:=hs)) λσ H Q h=>Z5 (f:=λx=>bnd (O5 x) λl=>ret (.int l.length)) (λ_=>rfl) (λρ A H x z A' v Q rl rx ev k=>by
  obtain⟨l,A1,e1,ev1⟩:=B0 ev
  obtain⟨rfl,a,xs,rfl,hq,r⟩:=j5 rl rx e1
  cases ev1
  exact⟨a,xs,rfl,hq,k ρ H _ (Ext.refl _ _) rl (by rw [←r.length];exact .int _)⟩) h
theorem ah6{e:Expr}{d:ED}{p pos:Pos}(he:PE X e (EvE X.K cm d))(hg:Gl X "list")(hm:X.mg "list" = none)(hv:bootBuiltins "list" = some (.type "list"))(hs:starEach [e] X.env=(false,eval e X.env)::starEach [] X.env:=by exact E5 rfl):PE X (.Call (.Name "list" p) [e] [] pos) (EvE X.K cm (u8 d)):=
 E3 (m6 as7 hg hm hv (r_cons he r_nil hs) (he:=hs)) λσ H Q h=>Z5 (f:=λx=>bnd (O5 x) λl=>alloc (.lst l)) (λ_=>rfl) (λρ A H x z A' v Q rl rx ev k=>by
  obtain⟨l,A1,e1,ev1⟩:=B0 ev
  obtain⟨rfl,a,xs,rfl,hq,r⟩:=j5 rl rx e1
  cases ev1
  refine⟨a,xs,rfl,hq,λp hp=>?_⟩
  have e:Ext ρ H (ρ++[p]) (upd H p (.lst xs)):=Ext.new hp
  exact k (ρ++[p]) _ _ e (rl.alloc hp ⟨_,D8,r.mono e⟩ rfl) (.ref (by rw [←rl.len];simp))) h
theorem Pairs.look{f:Nat->Str}{ρ:List Addr}{H:Hp}(hf:∀i j,f i=f j->i<19->j<19->i=j):∀{kvs:List (Nat×PV)} {kv:List (Str×V)} {i:Nat} {x:PV},Pairs f ρ H kvs kv->(∀p∈kvs,p.1<19)->i<19->Z3 i kvs=some x->∃v,kv.lookup (f i)=some v/\RV ρ H x v
 | [],kv,i,x,h,_,_,e=>by cases e
 | (g,u)::r,kv,i,x,h,hs,hi,e=>by
   cases kv with
   | nil=>have:=h.keys;simp at this
   | cons p q=>
     have k:=h.keys
     simp only [List.map_cons,List.cons.injEq] at k
     have hv:=h.vals
     simp only [List.map_cons] at hv
     cases hv with
     | cons h1 h2=>
       have hg:g<19:=hs _ List.mem_cons_self
       obtain⟨p1,p2⟩:=p
       by_cases hgi:g=i
       ·subst hgi
        simp [Z3] at e
        subst e
        exact⟨p2,by rw [List.lookup_cons];simp [show p1=f g from k.1],h1⟩
       ·have hne:¬f i=p1:=λz=>hgi (hf g i (by rw [z];exact k.1.symm) hg hi)
        simp only [Z3,hgi,if_false] at e
        obtain⟨v,a,b⟩:=Pairs.look hf (kvs:=r) (kv:=q) ⟨k.2,h2⟩ (λp hp=>hs p (List.mem_cons_of_mem _ hp)) hi e
        refine⟨v,?_,b⟩
        rw [List.lookup_cons,beq_eq_false_iff_ne.mpr hne]
        exact a
end
theorem aI5:∀i j,fnm i=fnm j->i<19->j<19->i=j:=by
 intro i j h hi hj
 have key:∀i:_root_.Fin 19,∀j:_root_.Fin 19,fnm i.1=fnm j.1->i=j:=by decide +kernel
 exact congrArg (·.1) (key ⟨i,hi⟩ ⟨j,hj⟩ h)
section
variable{X:Cx}{cm:Nat->Addr}
theorem bs2{o:Expr}{d:ED}{f:Str}{i:Nat}{pos:Pos}(he:PE X o (EvE X.K cm d))(hf:fnm i=f)(hi:i<19)(hc:∀c,c<7->Cls X.K (cm c))(hn:∀c,c<7->NoAttr X.K (cm c) f)
 (hb:attributeBase o f X.env (eval o X.env)=eval o X.env:=by rfl):PE X (.Attribute o f pos) (EvE X.K cm (J0 d i)):=
 E3 (bi8 he hb) λσ H Q hq=>by
  obtain ⟨ρ,A,σp,v,A',rl,rs,ev,k⟩:=hq
  obtain⟨x,A1,e1,ev1⟩:=B0 ev
  refine⟨ρ,A,σp,x,A1,rl,rs,e1,λρ1 H1 v1 x1 rl1 rv1=>?_⟩
  cases x with
  | ref n=>
    obtain⟨o,A2,e2,ev2⟩:=B0 ev1
    obtain⟨rfl,hA,a,dx,kv,rfl,hn',hH,hp,hs⟩:=ah4 rl1 rv1 e2
    rcases hg:Z3 i o.2 with _ | u
    ·rw [hg] at ev2;cases ev2
    ·rw [hg] at ev2
     cases ev2
     obtain⟨w,hw,rw'⟩:=hp.look aI5 hs hi hg
     rw [hf] at hw
     exact⟨a,_,dx,kv,w,rfl,hH,hc _ (ah3 rl1 hA hn'),hn _ (ah3 rl1 hA hn'),hw,k ρ1 H1 w x1 rl1 rw'⟩
  | _=>cases ev1
theorem Pairs.put{ρ:List Addr}{H:Hp}{i:Nat}{x:PV}{v:V}(hi:i<19)(rv:RV ρ H x v):∀{kvs:List (Nat×PV)} {kv:List (Str×V)},Pairs fnm ρ H kvs kv->(∀p∈kvs,p.1<19)->Pairs fnm ρ H (putFld i x kvs) (Y2 (fnm i) v kv)
 | [],kv,h,_=>by
   cases kv with
   | nil=>exact⟨rfl,.cons rv .nil⟩
   | cons p q=>have:=h.keys;simp at this
 | (g,u)::r,kv,h,hs=>by
   cases kv with
   | nil=>have:=h.keys;simp at this
   | cons p q=>
     have k:=h.keys
     simp only [List.map_cons,List.cons.injEq] at k
     have hv:=h.vals
     simp only [List.map_cons] at hv
     cases hv with
     | cons h1 h2=>
       obtain⟨p1,p2⟩:=p
       have hg:g<19:=hs _ List.mem_cons_self
       have k1:p1=fnm g:=k.1
       by_cases hgi:g=i
       ·subst hgi
        have e:Y2 (fnm g) v ((p1,p2)::q)=(p1,v)::q:=by
         show (if p1=fnm g then _ else _)=_
         rw [if_pos k1]
        rw [e]
        simp only [putFld,if_true]
        exact⟨by simp [k1,k.2],.cons rv h2⟩
       ·have hne:¬p1=fnm i:=λz=>hgi (aI5 g i (by rw [←z];exact k1.symm) hg hi)
        have e:Y2 (fnm i) v ((p1,p2)::q)=(p1,p2)::Y2 (fnm i) v q:=by
         show (if p1=fnm i then _ else _)=_
         rw [if_neg hne]
        rw [e]
        simp only [putFld,hgi,if_false]
        have ih:=Pairs.put hi rv (kvs:=r) (kv:=q) ⟨k.2,h2⟩ λp hp=>hs p (List.mem_cons_of_mem _ hp)
        exact⟨by simp only [List.map_cons];rw [ih.keys,k1],.cons h1 ih.vals⟩
theorem ap5{i:Nat}{x:PV}(hi:i<19):∀{kvs:List (Nat×PV)},(∀p∈kvs,p.1<19)->∀p∈putFld i x kvs,p.1<19
 | [],_,p,hp=>by simp [putFld] at hp;subst hp;exact hi
 | (g,u)::r,hs,p,hp=>by
   unfold putFld at hp
   split at hp
   ·rcases List.mem_cons.mp hp with rfl | hp
    ·exact hs (g,u) List.mem_cons_self
    ·exact hs p (List.mem_cons_of_mem _ hp)
   ·rcases List.mem_cons.mp hp with rfl | hp
    ·exact hs (g,u) List.mem_cons_self
    ·exact ap5 hi (λq hq=>hs q (List.mem_cons_of_mem _ hq)) p hp
theorem bs3{o value:Expr}{d e:ED}{f:Str}{i:Nat}{pos pos':Pos}(ho:PE X o (EvE X.K cm d))(hv:PE X value (EvE X.K cm e))(hf:fnm i=f)(hi:i<19)(hc:∀c,c<7->Cls X.K (cm c))(hn:∀c,c<7->NoAttr X.K (cm c) f)
 (hs:swapsWith value (some (.Attribute o f pos')) pos.line X.env=pure false:=by rfl):PS X (.Assign [.Attribute o f pos'] value pos) (EvS X.K cm (sFld d i e)):=
 d9 (bi9 ho hv hs) λD σ H hq=>by
  obtain ⟨ρ,A,σp,fl,A',rl,rs,ev,k⟩:=hq
  obtain⟨y,A1,e1,ev1⟩:=B0 ev
  obtain⟨x,A2,e2,ev2⟩:=B0 ev1
  refine⟨ρ,A,σp,y,A1,rl,rs,e1,λρ1 H1 v1 x1 rl1 rv1=>⟨ρ1,A1,σp,x,A2,rl1,rs.mono x1,e2,λρ2 H2 v2 x2 rl2 rv2=>?_⟩⟩
  cases x with
  | ref n=>
    obtain⟨o,A3,e3,ev3⟩:=B0 ev2
    obtain⟨rfl,hA,a,dx,kv,rfl,hn',hH,hp,hs'⟩:=ah4 rl2 rv2 e3
    obtain⟨c,ev4⟩:=C8 ev3
    cases ev4
    have hkl:kv.length=o.2.length:=by have:=congrArg List.length hp.keys;simpa using this
    refine⟨a,cm o.1,dx,kv,rfl,hH,hc _ (ah3 rl2 hA hn'),hn _ (ah3 rl2 hA hn'),by omega,?_⟩
    rw [←hf]
    have ex:Ext ρ2 H2 ρ2 (upd H2 a (.ins (cm o.1) dx (Y2 (fnm i) v1 kv))):=Ext.put rl2 hn' hA rfl
    have rl3:Rel X.K cm ρ2 (A3.set n (.ins o.1 (putFld i y o.2))) (upd H2 a (.ins (cm o.1) dx (Y2 (fnm i) v1 kv))):=
     rl2.put hn' hA rfl rfl ⟨⟨ah3 rl2 hA hn',ap5 hi hs'⟩,dx,_,D8,(hp.mono ex).put hi ((rv1.mono x2).mono ex) hs'⟩
    exact k ρ2 _ ((x1.trans x2).trans ex) rl3 σ (((rs.mono x1).mono x2).mono ex)
  | _=>cases ev2
theorem ah7{o e:Expr}{d u:ED}{apos cpos:Pos}(ho:PE X o (EvE X.K cm d))(he:PE X e (EvE X.K cm u))
 (hb:attributeBase o "append" X.env (eval o X.env)=eval o X.env:=by rfl) (hs:starEach [e] X.env=(false,eval e X.env)::starEach [] X.env:=by exact E5 rfl)
 (hfew:((backTo cpos (starEach [e] X.env)).all (λx=>!x.1)&&(backToKw cpos (keywordEach [] X.env)).all (λx=>x.1.isSome)&&decide ([e].length+([]:List Keyword).length+(if ([]:List Keyword).isEmpty then 0 else 1)<30))=true:=by rfl)
 (hline:(apos.endLine == cpos.line)=true:=by rfl):PE X (.Call (.Attribute o "append" apos) [e] [] cpos) (EvE X.K cm (m9 d u)):=
 E3 (be5 PySem.F.plainAttrs_list PySem.F.slot_list_append PySem.F.type_list_append aN4 ho (r_cons he r_nil hs) (hbase:=hb) (hfew:=hfew) (hline:=hline) (hs:=hs)) λσ H Q hq=>by
  obtain ⟨ρ,A,σp,v,A',rl,rs,ev,k⟩:=hq
  obtain⟨x,A1,e1,ev1⟩:=B0 ev
  refine⟨ρ,A,σp,x,A1,rl,rs,e1,λρ1 H1 v1 x1 rl1 rv1=>?_⟩
  cases x with
  | ref n=>
    obtain⟨l0,A2,e2,ev2⟩:=B0 ev1
    obtain⟨rfl,hA,a,xs,rfl,hn,hH,r0⟩:=P8 rl1 rv1 e2
    refine⟨.inl ⟨rfl,xs,SqL.of hH⟩,?_⟩
    obtain⟨y,A3,e3,ev3⟩:=B0 ev2
    obtain⟨l,A4,e4,ev4⟩:=B0 ev3
    obtain⟨c,ev5⟩:=C8 ev4
    cases ev5
    refine⟨ρ1,_,σp,[y],A3,rl1,rs.mono x1,by show bnd (u σp) _ _=_;rw [bnd_ok e3];rfl,λρ2 H2 vs2 x2 rl2 rv2=>?_⟩
    cases rv2 with
    | cons hv hr=>
      cases hr
      obtain⟨rfl,hA2,a2,ys,e5,hn2,hH2,r2⟩:=P8 rl2 (rv1.mono x2) e4
      cases e5
      refine⟨a,ys,_,rfl,rfl,hH2,by rw [←r2.length];exact at9 c,?_⟩
      refine k ρ2 _ _ ((x1.trans x2).trans (Ext.put rl2 hn2 hA2 rfl)) (rl2.put hn2 hA2 rfl rfl ⟨_,D8,?_⟩) .non
      exact (r2.mono (Ext.put rl2 hn2 hA2 rfl)).append (.cons (hv.mono (Ext.put rl2 hn2 hA2 rfl)) .nil)
  | _=>cases ev1
theorem g_name{i:Nat}{e:Expr}(h:L2.PG X e (L2.gName i)):L2.PG X e (EvG X.K cm (gName i)):=aW6 h λv σ H Q hq=>by
 obtain ⟨ρ,A,σp,x,σp',A',rl,rs,rv,ev,k⟩:=hq
 cases ev
 exact k ρ H _ (Ext.refl _ _) rl (rs.set i rv)
theorem g_nil:PGs X [] (a76 X.K cm gNil):=aI3 a53 λvs σ H Q hq=>by
 obtain ⟨ρ,A,σp,xs,σp',A',rl,rs,rv,ev,k⟩:=hq
 cases xs with
 | nil=>cases ev;cases rv;exact⟨rfl,k ρ H _ (Ext.refl _ _) rl rs⟩
 | cons y ys=>cases ev
theorem g_cons{e:Expr}{es:List Expr}{g:GD}{r:GDs}(h1:L2.PG X e (EvG X.K cm g))(h2:PGs X es (a76 X.K cm r))(hs:(assignEach (e::es) X.env).map (·.2)=assign e X.env::(assignEach es X.env).map (·.2):=by rfl):PGs X (e::es) (a76 X.K cm (gCons g r)):=
 aI3 (aT5 h1 h2 hs) λvs σ H Q hq=>by
  obtain ⟨ρ,A,σp,xs,σp',A',rl,rs,rv,ev,k⟩:=hq
  cases xs with
  | nil=>cases ev
  | cons y ys=>
    obtain⟨σ1,A1,e1,ev1⟩:=B0 ev
    cases rv with
    | cons hv hr=>
      exact⟨_,_,rfl,ρ,A,σp,y,σ1,A1,rl,rs,hv,e1,λρ1 H1 σ' x1 rl1 rs1=>⟨ρ1,A1,σ1,ys,σp',A',rl1,rs1,hr.mono x1,ev1,λρ2 H2 σ2 x2 rl2 rs2=>k ρ2 H2 σ2 (x1.trans x2) rl2 rs2⟩⟩
theorem ad5{es:List Expr}{j n:Nat}{g:GDs}{pos:Pos}(hc:X.calm=true)(h:PGs X es (a76 X.K cm g))(hn:(assignEach es X.env).length=n:=by rfl)(hst:(assignEach es X.env).findIdx? (·.1)=none:=by rfl):L2.PG X (.Tuple es j pos) (EvG X.K cm (gTup n g)):=
 aW6 (bh7 hc h hn hst) λv σ H Q hq=>by
  obtain ⟨ρ,A,σp,x,σp',A',rl,rs,rv,ev,k⟩:=hq
  cases x with
  | tup l=>
    obtain⟨c,ev1⟩:=C8 ev
    cases rv with
    | tup ha r=>exact⟨_,_,rfl,SqT.of ha,by rw [←r.length];exact c,ρ,A,σp,l,σp',A',rl,rs,r,ev1,k⟩
  | _=>cases ev
theorem U9{st:Stmt}:PS X st (EvS X.K cm sNever):=d9 aT4 λD σ H ⟨ρ,A,σp,f,A',rl,rs,ev,k⟩=>by cases ev
theorem G2:PSs X [] (EvS X.K cm sPass):=aI2 a50 λD σ H hq=>by
 obtain ⟨ρ,A,σp,f,A',rl,rs,ev,k⟩:=hq
 cases ev;exact k ρ H (Ext.refl _ _) rl σ rs
theorem C3{st:Stmt}{s:SD}(h:PS X st (EvS X.K cm s)):PSs X [st] (EvS X.K cm s):=a51 h
theorem C2{st:Stmt}{rest:List Stmt}{s r:SD}(h1:PS X st (EvS X.K cm s))(h2:PSs X rest (EvS X.K cm r)):PSs X (st::rest) (EvS X.K cm (D7 s r)):=
 aI2 (aT3 h1 h2) λD σ H hq=>by
  obtain ⟨ρ,A,σp,f,A',rl,rs,ev,k⟩:=hq
  obtain⟨o,A1,e1,ev1⟩:=B0 ev
  refine⟨ρ,A,σp,o,A1,rl,rs,e1,λρ1 H1 x1 rl1=>?_⟩
  cases o with
  | nx σ1=>exact λσ' rs'=>⟨ρ1,A1,σ1,f,A',rl1,rs',ev1,λρ2 H2 x2 rl2=>k ρ2 H2 (x1.trans x2) rl2⟩
  | rt v=>cases ev1;exact λv' rv=>k ρ1 H1 x1 rl1 v' rv
  | bk σ1=>cases ev1;exact λσ' rs'=>k ρ1 H1 x1 rl1 σ' rs'
  | ct σ1=>cases ev1;exact λσ' rs'=>k ρ1 H1 x1 rl1 σ' rs'
theorem Z6{e:Expr}{d:ED}{pos:Pos}(h:PE X e (EvE X.K cm d))(hs:swapsWith e none pos.line X.env=pure false:=by rfl):PS X (.Expr e pos) (EvS X.K cm (Y5 d)):=
 d9 (a52 h hs) λD σ H hq=>by
  obtain ⟨ρ,A,σp,f,A',rl,rs,ev,k⟩:=hq
  obtain⟨x,A1,e1,ev1⟩:=B0 ev
  cases ev1
  exact⟨ρ,A,σp,x,A',rl,rs,e1,λρ1 H1 v1 x1 rl1 rv1=>k ρ1 H1 x1 rl1 σ (rs.mono x1)⟩
theorem D4{e:Expr}{d:ED}{pos:Pos}(h:PE X e (EvE X.K cm d)):PS X (.Return (some e) pos) (EvS X.K cm (H8 d)):=
 d9 (bh6 h) λD σ H hq=>by
  obtain ⟨ρ,A,σp,f,A',rl,rs,ev,k⟩:=hq
  obtain⟨x,A1,e1,ev1⟩:=B0 ev
  cases ev1
  exact⟨ρ,A,σp,x,A',rl,rs,e1,λρ1 H1 v1 x1 rl1 rv1=>k ρ1 H1 x1 rl1 v1 rv1⟩
theorem O6{c:Expr}{a b:List Stmt}{t:TD}{s u:SD}{pos:Pos}(hc:PT X c (EvT X.K cm t))(ha:PSs X a (EvS X.K cm s))(hb:PSs X b (EvS X.K cm u)):PS X (.If c a b pos) (EvS X.K cm (sIf t s u)):=
 d9 (bp9 hc ha hb) λD σ H hq=>by
  obtain ⟨ρ,A,σp,f,A',rl,rs,ev,k⟩:=hq
  obtain⟨x,A1,e1,ev1⟩:=B0 ev
  refine⟨ρ,A,σp,x,A1,rl,rs,e1,λρ1 H1 x1 rl1=>?_⟩
  cases x with
  | true=>rw [if_pos rfl] at ev1 ⊢;exact⟨ρ1,A1,σp,f,A',rl1,rs.mono x1,ev1,λρ2 H2 x2 rl2=>k ρ2 H2 (x1.trans x2) rl2⟩
  | false=>rw [if_neg (by simp)] at ev1 ⊢;exact⟨ρ1,A1,σp,f,A',rl1,rs.mono x1,ev1,λρ2 H2 x2 rl2=>k ρ2 H2 (x1.trans x2) rl2⟩
theorem bl6{d:ED}{g:GD}{te:TE}{tg:TG}(he:∀σ H Q,EvE X.K cm d σ H Q->te σ H Q)(hg:∀v σ H Q,EvG X.K cm g v σ H Q->tg v σ H Q){D:aC3}{σ:L2.St}{H:Hp}(h:EvS X.K cm (N4 d g) D σ H):bq0 te tg D σ H:=by
 obtain⟨ρ,A,σp,f,A',rl,rs,ev,k⟩:=h
 obtain⟨x,A1,e1,ev1⟩:=B0 ev
 obtain⟨σ1,A2,e2,ev2⟩:=B0 ev1
 cases ev2
 exact he _ _ _ ⟨ρ,A,σp,x,A1,rl,rs,e1,λρ1 H1 v1 x1 rl1 rv1=>hg _ _ _ _ ⟨ρ1,A1,σp,x,σ1,A',rl1,rs.mono x1,rv1,e2,λρ2 H2 σ2 x2 rl2 rs2=>k ρ2 H2 (x1.trans x2) rl2 σ2 rs2⟩⟩
theorem L3{i:Nat}{x:Str}{e:Expr}{d:ED}{pos pos':Pos}(hN:X.N.Nodup)(hi:X.N[i]?=some x)(hx:L2.Loc X.env.scope x)(he:PE X e (EvE X.K cm d))(hs:swapsWith e (some (.Name x pos')) pos.line X.env=pure false:=by rfl)
 (hf:X.fn x=true\/X.env.scope.names.lookup x=some .local:=by first | exact .inl rfl | exact .inr rfl | assumption):PS X (.Assign [.Name x pos'] e pos) (EvS X.K cm (N4 d (gName i))):=
 d9 (bh8 hN hi hx he hs hf) λD σ H h=>bl6 (λ_ _ _ z=>z) (λv σ H Q hq=>by
  obtain ⟨ρ,A,σp,x,σp',A',rl,rs,rv,ev,k⟩:=hq
  cases ev
  exact k ρ H _ (Ext.refl _ _) rl (rs.set i rv)) h
end
def SpF(K:PySem.W.Frag)(cm:Nat->Addr)(f:Fun)(n:Nat):Sp:=λvs H Q _=>∃(ρ:List Addr) (A:PHp) (ps:List PV) (v:PV) (A':PHp),Rel K cm ρ A H/\RVs ρ H ps vs/\ps.length=n/\f ps A=.ok v A'/\
 ∀ρ' H' v',Ext ρ H ρ' H'->Rel K cm ρ' A' H'->RV ρ' H' v v'->Q v' H'
theorem RSt.start0{ρ:List Addr}{H:Hp}{ps:List PV}{vs:List V}{N:List Str}(r:RVs ρ H ps vs):RSt ρ H (Ws.start N.length ps) (L2.start N vs):=by
 have hl:=r.length
 refine⟨by unfold Ws.start L2.start;simp [hl],λi p hp=>?_⟩
 unfold Ws.start at hp
 by_cases hi:i<ps.length
 ·rw [List.getElem?_append_left (by simpa using hi),List.getElem?_map] at hp
  rcases e:ps[i]? with _ | q
  ·rw [e] at hp;cases hp
  ·rw [e] at hp;cases hp
   obtain⟨v,h1,h2⟩:=r.get e
   refine⟨v,?_,h2⟩
   unfold L2.start
   rw [List.getElem?_append_left (by simp;omega),List.getElem?_map,h1];rfl
 ·rw [List.getElem?_append_right (by simpa using hi),List.getElem?_replicate] at hp
  split at hp <;> cases hp
section
variable{P:Program}{w:World}{K:PySem.W.Frag}{mg:Str->Option Value}{base:Heap}{cm:Nat->Addr}
theorem bs4{x qual:Str}{st:Stmt}{f:Addr}{fd:FuncData}{N ps:List Str}{k:Nat}{s:SD}(F:L2.Fun K x qual st f fd)(S:C7 N ps (C0 st))
 (hbody:∀(cdv:Value) (A:Around) (outer:List Env) (s0:Shared) (H:Hp) (E:L2.XK),Room k (A.deeper (PyProof.Rows.envOfC qual (C0 st) s0.heap.objs.size f cdv))->
  PSs (an3 CX0 P w K mg base N qual (C0 st) f cdv A outer s0 H E).nox (C4 st) (EvS K cm s)) :
 FnOk P w K mg base CX0 (k+1) f fd ps (SpF K cm (fn N.length ps.length s) ps.length):=by
 refine F.ok S (λvs H Q E ⟨ρ,A,qs,v,A',rl,rv,hl,_,_⟩=>by rw [←rv.length];exact hl) λcdv A outer s0 H vs Q E hr h=>⟨_,hbody cdv A outer s0 H E hr,?_⟩
 obtain⟨ρ,B,qs,v,B',rl,rv,hl,ev,k⟩:=h
 obtain⟨_,ev1⟩:=C8 ev
 obtain⟨o,B1,e1,ev2⟩:=B0 ev1
 refine⟨ρ,B,Ws.start N.length qs,o,B1,rl,RSt.start0 rv,e1,λρ1 H1 x1 rl1=>?_⟩
 cases o with
 | nx σ1=>cases ev2;exact λσ' _=>k ρ1 H1 _ x1 rl1 .non
 | rt u=>cases ev2;exact λv' rv'=>k ρ1 H1 v' x1 rl1 rv'
 | bk σ1=>cases ev2
 | ct σ1=>cases ev2
end
section
variable{X:Cx}{cm:Nat->Addr}
theorem a79{f:Fun}{n:Nat}{ds:AD}(hn:∀vs A v A',f vs A=.ok v A'->vs.length=n){σ:L2.St}{H:Hp}{Q:VK}(h:EvE X.K cm (eCall f ds) σ H Q):be1 (SpF X.K cm f n) [] E0 (EvA X.K cm ds) σ H Q:=by
 obtain⟨ρ,A,σp,v,A',rl,rs,ev,k⟩:=h
 obtain⟨xs,A1,e1,ev1⟩:=B0 ev
 refine⟨ρ,A,σp,xs,A1,rl,rs,e1,λρ1 H1 vs1 x1 rl1 rv1=>?_⟩
 show SpF X.K cm f n (vs1++[]) H1 Q _
 rw [List.append_nil]
 exact⟨ρ1,A1,xs,v,A',rl1,rv1,hn _ _ _ _ ev1,ev1,λρ2 H2 v2 x2 rl2 rv2=>k ρ2 H2 v2 (x1.trans x2) rl2 rv2⟩
theorem aE8{n p:Nat}{s:SD}{vs:List PV}{A A':PHp}{v:PV}(h:fn n p s vs A=.ok v A'):vs.length=p:=(C8 h).1
theorem bl7{f:Fun}{n k:Nat}{fa:Addr}{fd:FuncData}{ps:List Str}{x:Str}{e:Expr}{es:List Expr}{ds:AD}{p pos:Pos}(F:FnOk X.prog X.w X.K X.mg X.base CX0 k fa fd ps (SpF X.K cm f n))(hn:∀vs A v A',f vs A=.ok v A'->vs.length=n)(hr:Room k X.A)(hg:Gl X x)(hm:X.mg x=some (.ref fa))(hk:PySem.W.keepIn X.K (.ref fa)=true)(hb:L2.Binds X.K fd ps [])
 (ha:PA X (e::es) (EvA X.K cm ds)) (hdb:(x == ("__debug__" : Str))=false:=by decide) (he:starEach (e::es) X.env=(false,eval e X.env)::starEach es X.env:=by exact E5 rfl) (hpl:(backTo pos (starEach es X.env)).any (·.1)=false:=by rfl) :
 PE X (.Call (.Name x p) (e::es) [] pos) (EvE X.K cm (eCall f ds)):=
 E3 (a62 F hr hg hm hk hb .nil aH9 ha hdb he hpl) λσ H Q h=>a79 hn h
theorem aI6{c:Nat}{f:Fun}{n:Nat}{m:Str}{d:ED}{ds:AD}(hn:∀vs A v A',f vs A=.ok v A'->vs.length=n)(hm:∀i,i<19->fnm i≠m){σ:L2.St}{H:Hp}{Q:VK}(h:EvE X.K cm (J5 c f d ds) σ H Q) :
 aU4 (cm c) m (SpF X.K cm f n) [] E0 (EvE X.K cm d) (EvA X.K cm ds) σ H Q:=by
 obtain⟨ρ,A,σp,v,A',rl,rs,ev,k⟩:=h
 obtain⟨x,A1,e1,ev1⟩:=B0 ev
 refine⟨ρ,A,σp,x,A1,rl,rs,e1,λρ1 H1 v1 x1 rl1 rv1=>?_⟩
 cases x with
 | ref j=>
   obtain⟨o,A2,e2,ev2⟩:=B0 ev1
   obtain⟨rfl,hA,a,dx,kv,rfl,hn',hH,hp,hs⟩:=ah4 rl1 rv1 e2
   obtain⟨hc,ev3⟩:=C8 ev2
   obtain⟨xs,A3,e3,ev4⟩:=B0 ev3
   subst hc
   have hno:kv.lookup m=none:=by
    have key:∀(l:List (Str×V)),(∀z∈l.map (·.1),z≠m)->l.lookup m=none:=λl=>by
     induction l with
     | nil=>intro _;rfl
     | cons p q ih=>
       intro hz
       rw [List.lookup_cons,beq_eq_false_iff_ne.mpr (λz=>hz p.1 (by simp) z.symm)]
       exact ih λz hz'=>hz z (by simp at hz' ⊢;exact .inr hz')
    refine key kv λz hz=>?_
    rw [hp.keys] at hz
    obtain⟨q,hq,rfl⟩:=List.mem_map.mp hz
    exact hm _ (hs q hq)
   refine⟨a,dx,kv,rfl,hH,hno,ρ1,_,σp,xs,A3,rl1,rs.mono x1,e3,λρ2 H2 vs2 x2 rl2 rv2=>?_⟩
   show SpF X.K cm f n (.ref a::(vs2++[])) H2 Q _
   rw [List.append_nil]
   exact⟨ρ2,A3,.ref j::xs,v,A',rl2,.cons (rv1.mono x2) rv2,hn _ _ _ _ ev4,ev4,λρ3 H3 v3 x3 rl3 rv3=>k ρ3 H3 v3 ((x1.trans x2).trans x3) rl3 rv3⟩
 | _=>cases ev1
theorem bl8{c:Nat}{f:Fun}{n k:Nat}{fa:Addr}{fd:FuncData}{ps:List Str}{m:Str}{o e:Expr}{es:List Expr}{d:ED}{ds:AD}{apos pos:Pos}{pl:Sem Bool}(ho:PE X o (EvE X.K cm d))(hc:Cls X.K (cm c))(hm:aN2 X.K (cm c) m fa)
 (F:FnOk X.prog X.w X.K X.mg X.base CX0 k fa fd ps (SpF X.K cm f n)) (hn:∀vs A v A',f vs A=.ok v A'->vs.length=n) (hnm:∀i,i<19->fnm i≠m) (hr:Room k X.A) (hb:L2.Binds X.K fd ps []) (ha:PA X (e::es) (EvA X.K cm ds))
 (hst:starEach (e::es) X.env=(false,eval e X.env)::starEach es X.env:=by exact E5 rfl) (hpl:(backTo pos (starEach es X.env)).any (·.1)=false:=by rfl)
 (ht:eval (.Call (.Attribute o m apos) (e::es) [] pos) X.env=(do
  let ov ←eval o X.env
  standAt apos.atName
  let (f,first) ←holding [ov] (getMethod ov m pl)
  callWith pos f first (backTo pos (starEach (e::es) X.env)) (backToKw pos (keywordEach [] X.env))):=by rfl) :
 PE X (.Call (.Attribute o m apos) (e::es) [] pos) (EvE X.K cm (J5 c f d ds)):=
 E3 (a63 (pl:=pl) ho hc hm F hr hb .nil aH9 ha hst hpl ht) λσ H Q h=>aI6 hn hnm h
theorem a80{c:Nat}{f:Fun}{n:Nat}{ds:AD}(h7:c<7)(hn:∀vs A v A',f vs A=.ok v A'->vs.length=n/\v=.non){σ:L2.St}{H:Hp}{Q:VK}(h:EvE X.K cm (ad0 c f ds) σ H Q):be2 (cm c) (SpF X.K cm f n) [] E0 (EvA X.K cm ds) σ H Q:=by
 obtain⟨ρ,A,σp,v,A',rl,rs,ev,k⟩:=h
 obtain⟨xs,A1,e1,ev1⟩:=B0 ev
 obtain⟨x,A2,e2,ev2⟩:=B0 ev1
 cases e2
 obtain⟨u,A3,e3,ev3⟩:=B0 ev2
 cases ev3
 refine⟨ρ,A,σp,xs,A1,rl,rs,e1,λρ1 H1 vs1 x1 rl1 rv1 x dx hx hdx hne=>?_⟩
 rw [List.append_nil]
 have g1:Ext ρ1 H1 ρ1 (upd H1 dx (.own x)):=Ext.same hdx
 have rl2:Rel X.K cm ρ1 A1 (upd H1 dx (.own x)):=rl1.grow g1 (X1 hdx)
 have hx2:upd H1 dx (.own x) x=none:=by rw [E4 (Ne.symm hne)];exact hx
 have g2:Ext ρ1 (upd H1 dx (.own x)) (ρ1++[x]) (upd (upd H1 dx (.own x)) x (.ins (cm c) dx [])):=Ext.new hx2
 have rl3:Rel X.K cm (ρ1++[x]) (A1++[.ins c []]) (upd (upd H1 dx (.own x)) x (.ins (cm c) dx [])):=rl2.alloc hx2 ⟨⟨h7,by simp⟩,dx,[],D8,⟨rfl,.nil⟩⟩ rfl
 have hl:(ρ1++[x])[A1.length]?=some x:=by rw [←rl1.len];simp
 obtain⟨hn1,rfl⟩:=hn _ _ _ _ e3
 refine⟨ρ1++[x],_,.ref A1.length::xs,.non,A',rl3,.cons (.ref hl) ((rv1.mono g1).mono g2),hn1,e3,λρ4 H4 v4 x4 rl4 rv4=>?_⟩
 cases rv4
 exact⟨rfl,k ρ4 H4 _ (((x1.trans g1).trans g2).trans x4) rl4 (.ref (ah2 x4.pre hl))⟩
theorem bl9{c:Nat}(h7:c<7){f:Fun}{n k:Nat}{fa:Addr}{fd:FuncData}{ps:List Str}{x:Str}{e:Expr}{es:List Expr}{ds:AD}{p pos:Pos}(Mk:L2.Mk X.K (cm c) fa)(F:FnOk X.prog X.w X.K X.mg X.base CX0 k fa fd ps (SpF X.K cm f n))(hn:∀vs A v A',f vs A=.ok v A'->vs.length=n/\v=.non)(hr:Room (k+1) X.A)
 (hg:Gl X x) (hm:X.mg x=some (.ref (cm c))) (hb:L2.Binds X.K fd ps []) (ha:PA X (e::es) (EvA X.K cm ds)) (hdb:(x == ("__debug__" : Str))=false:=by decide) (he:starEach (e::es) X.env=(false,eval e X.env)::starEach es X.env:=by exact E5 rfl) (hpl:(backTo pos (starEach es X.env)).any (·.1)=false:=by rfl) :
 PE X (.Call (.Name x p) (e::es) [] pos) (EvE X.K cm (ad0 c f ds)):=
 E3 (a64 Mk F hr hg hm hb .nil aH9 ha hdb he hpl) λσ H Q h=>a80 h7 hn h
def Ite(K:PySem.W.Frag)(a:Addr):L2.It:=
 ⟨λi H=>∃xs x,SqL K H a xs/\xs[i]?=some x,λi H x H'=>∃y p,(∀xs,SqL K H a xs->xs[i]?=some y)/\H p=none/\x=.ref p/\H'=upd H p (.tup [.int i,y]),λi H=>∃xs,SqL K H a xs/\xs.length<=i⟩
def Itk(K:PySem.W.Frag)(k:Nat)(a:Addr):L2.It:=
 ⟨λi H=>∃xs x,SqL K H a xs/\xs[i]?=some x,λi H x H'=>∃y p,(∀xs,SqL K H a xs->xs[i]?=some y)/\H p=none/\x=.ref p/\H'=upd H p (.tup [.int ((k+i:Nat):Int),y]),λi H=>∃xs,SqL K H a xs/\xs.length<=i⟩
def Itf(vs:List V):L2.It:=⟨λi _=>i<vs.length,λi H x H'=>H'=H/\vs[i]?=some x,λi _=>vs.length<=i⟩
def SqK(k:Bool)(K:PySem.W.Frag)(H:Hp)(a:Addr)(xs:List V):Prop:=match k with
 | true=>SqT K H a xs
 | false=>SqL K H a xs
def kindOf:PV->Bool
 | .tup _=>true
 | _=>false
def Itz(K:PySem.W.Frag)(k1 k2:Bool)(a b:Addr):L2.It:=
 ⟨λi H=>∃xs ys x y,SqK k1 K H a xs/\SqK k2 K H b ys/\xs[i]?=some x/\ys[i]?=some y,
  λi H v H'=>∃x y p,(∀xs,SqK k1 K H a xs->xs[i]?=some x)/\(∀ys,SqK k2 K H b ys->ys[i]?=some y)/\H p=none/\v=.ref p/\H'=upd H p (.tup [x,y]),
  λi H=>∃xs ys,SqK k1 K H a xs/\SqK k2 K H b ys/\(xs.length<=i\/ys.length<=i)⟩
theorem b4{K:PySem.W.Frag}{ρ:List Addr}{H:Hp}{A:PHp}{l:List PV}{v:V}{x:PV}{A':PHp}(rl:Rel K cm ρ A H)(r:RV ρ H x v)(h:O5 x A=.ok l A'):A'=A/\∃a xs,v=.ref a/\SqK (kindOf x) K H a xs/\RVs ρ H l xs:=by
 cases x with
 | ref n=>
   obtain⟨e,a,xs,h1,h2,h3⟩:=K1 rl r h
   exact⟨e,a,xs,h1,h2,h3⟩
 | tup m=>
   cases h
   cases r with
   | tup h1 h2=>exact⟨rfl,_,_,rfl,SqT.of h1,h2⟩
 | _=>cases h
def RIt(K:PySem.W.Frag)(ρ:List Addr)(H:Hp):It->L2.It->Prop
 | .rng lo n,j=>j=Itr lo n
 | .lst m,j=>∃a,ρ[m]?=some a/\j=Itl K a
 | .tup l,j=>∃a vs,H a=some (.tup vs)/\RVs ρ H l vs/\j=Itt K a
 | .enm m,j=>∃a,ρ[m]?=some a/\j=Ite K a
 | .fix l,j=>∃vs,RVs ρ H l vs/\j=Itf vs
 | .zip x y,j=>∃a b,RV ρ H x (.ref a)/\RV ρ H y (.ref b)/\j=Itz K (kindOf x) (kindOf y) a b
 | .enk k m,j=>∃a,ρ[m]?=some a/\j=Itk K k a
theorem RIt.mono{K:PySem.W.Frag}{ρ ρ':List Addr}{H H':Hp}{J:It}{j:L2.It}(h:RIt K ρ H J j)(e:Ext ρ H ρ' H'):RIt K ρ' H' J j:=by
 cases J with
 | rng lo n=>exact h
 | lst m=>obtain⟨a,h1,h2⟩:=h;exact⟨a,ah2 e.pre h1,h2⟩
 | tup l=>obtain⟨a,vs,h1,h2,h3⟩:=h;exact⟨a,vs,e.tup _ _ h1,h2.mono e,h3⟩
 | enm m=>obtain⟨a,h1,h2⟩:=h;exact⟨a,ah2 e.pre h1,h2⟩
 | fix l=>obtain⟨vs,h1,h2⟩:=h;exact⟨vs,h1.mono e,h2⟩
 | zip x y=>obtain⟨a,b,h1,h2,h3⟩:=h;exact⟨a,b,h1.mono e,h2.mono e,h3⟩
 | enk k m=>obtain⟨a,h1,h2⟩:=h;exact⟨a,ah2 e.pre h1,h2⟩
def EvI(K:PySem.W.Frag)(cm:Nat->Addr)(d:ID):L2.TI:=λσ H R=>∃(ρ:List Addr) (A:PHp) (σp:PSt) (J:It) (A':PHp),Rel K cm ρ A H/\RSt ρ H σp σ/\d σp A=.ok J A'/\
 ∀ρ' H' j,Ext ρ H ρ' H'->Rel K cm ρ' A' H'->RIt K ρ' H' J j->R j H'
def aE9(K:PySem.W.Frag)(cm:Nat->Addr)(ρ:List Addr)(A:PHp)(H:Hp)(j:L2.It)(i:Nat):Option PV->Prop
 | none=>j.stop i H
 | some v=>j.go i H/\∀y H',j.yld i H y H'->Ext ρ H ρ H'/\Rel K cm ρ A H'/\RV ρ H' v y
theorem aI7{K:PySem.W.Frag}{ρ:List Addr}{H:Hp}{A A':PHp}{J:It}{j:L2.It}{i:Nat}{x:Option PV}(rl:Rel K cm ρ A H)(rj:RIt K ρ H J j)(e:item J i A=.ok x A') :
 A'=A/\aE9 K cm ρ A H j i x:=by
 cases J with
 | rng lo n=>
   cases e
   cases rj
   refine⟨rfl,?_⟩
   by_cases h:i<n
   ·show aE9 K cm ρ A H _ i (if i<n then some (PV.int (lo+i)) else none)
    rw [if_pos h]
    refine⟨h,λy H' ⟨e1,e2⟩=>?_⟩
    subst e1;subst e2
    exact⟨Ext.refl _ _,rl,.int _⟩
   ·show aE9 K cm ρ A H _ i (if i<n then some (PV.int (lo+i)) else none)
    rw [if_neg h]
    exact Nat.le_of_not_lt h
 | fix l=>
   cases e
   obtain⟨vs,r,rfl⟩:=rj
   refine⟨rfl,?_⟩
   rcases hi:l[i]? with _ | v
   ·show vs.length<=i
    rw [←r.length];exact List.getElem?_eq_none_iff.mp hi
   ·obtain⟨u,hu,rv⟩:=r.get hi
    refine⟨(List.getElem?_eq_some_iff.mp hu).1,λy H' ⟨e3,e4⟩=>?_⟩
    subst e3
    rw [hu] at e4;cases e4
    exact⟨Ext.refl _ _,rl,rv⟩
 | zip x y=>
   obtain⟨a,b,ra,rb,rfl⟩:=rj
   obtain⟨l,A1,e1,e2⟩:=B0 e
   obtain⟨rfl,a',xs,h1,q1,r1⟩:=b4 rl ra e1
   cases h1
   obtain⟨m,A2,e3,e4⟩:=B0 e2
   obtain⟨rfl,b',ys,h2,q2,r2⟩:=b4 rl rb e3
   cases h2
   cases e4
   refine⟨rfl,?_⟩
   rcases hi:l[i]? with _ | u
   ·exact⟨xs,ys,q1,q2,.inl (by rw [←r1.length];exact List.getElem?_eq_none_iff.mp hi)⟩
   ·rcases hj:m[i]? with _ | v
    ·exact⟨xs,ys,q1,q2,.inr (by rw [←r2.length];exact List.getElem?_eq_none_iff.mp hj)⟩
    ·obtain⟨u',hu,ru⟩:=r1.get hi
     obtain⟨v',hv,rv⟩:=r2.get hj
     refine⟨⟨xs,ys,u',v',q1,q2,hu,hv⟩,λz H' ⟨x',y',p,g1,g2,g3,g4,g5⟩=>?_⟩
     have g1:=g1 xs q1
     have g2:=g2 ys q2
     rw [hu] at g1;cases g1
     rw [hv] at g2;cases g2
     subst g4;subst g5
     exact⟨Ext.same g3,rl.tup g3,.tup D8 (.cons (ru.mono (Ext.same g3)) (.cons (rv.mono (Ext.same g3)) .nil))⟩
 | lst m=>
   obtain⟨a,ha,rfl⟩:=rj
   obtain⟨l,A1,e1,e2⟩:=B0 e
   obtain⟨rfl,b,xs,hb,hs,r⟩:=K1 rl (.ref ha) e1
   cases hb
   cases e2
   refine⟨rfl,?_⟩
   rcases hi:l[i]? with _ | v
   ·exact⟨xs,hs,by rw [←r.length];exact List.getElem?_eq_none_iff.mp hi⟩
   ·obtain⟨u,hu,rv⟩:=r.get hi
    refine⟨⟨xs,u,hs,hu⟩,λy H' ⟨e3,e4⟩=>?_⟩
    subst e3
    have:=e4 xs hs
    rw [hu] at this;cases this
    exact⟨Ext.refl _ _,rl,rv⟩
 | tup l=>
   obtain⟨a,vs,ha,r,rfl⟩:=rj
   cases e
   refine⟨rfl,?_⟩
   rcases hi:l[i]? with _ | v
   ·exact⟨vs,SqT.of ha,by rw [←r.length];exact List.getElem?_eq_none_iff.mp hi⟩
   ·obtain⟨u,hu,rv⟩:=r.get hi
    refine⟨⟨vs,u,SqT.of ha,hu⟩,λy H' ⟨e3,e4⟩=>?_⟩
    subst e3
    have:=e4 vs (SqT.of ha)
    rw [hu] at this;cases this
    exact⟨Ext.refl _ _,rl,rv⟩
 | enm m=>
   obtain⟨a,ha,rfl⟩:=rj
   obtain⟨l,A1,e1,e2⟩:=B0 e
   obtain⟨rfl,b,xs,hb,hs,r⟩:=K1 rl (.ref ha) e1
   cases hb
   cases e2
   refine⟨rfl,?_⟩
   rcases hi:l[i]? with _ | v
   ·exact⟨xs,hs,by rw [←r.length];exact List.getElem?_eq_none_iff.mp hi⟩
   ·obtain⟨u,hu,rv⟩:=r.get hi
    refine⟨⟨xs,u,hs,hu⟩,λy H' ⟨y',p,h2,h3,h4,h5⟩=>?_⟩
    have h2:=h2 xs hs
    rw [hu] at h2;cases h2
    subst h4;subst h5
    exact⟨Ext.same h3,rl.tup h3,.tup D8 (.cons (.int _) (.cons (rv.mono (Ext.same h3)) .nil))⟩
 | enk k m=>
   obtain⟨a,ha,rfl⟩:=rj
   obtain⟨l,A1,e1,e2⟩:=B0 e
   obtain⟨rfl,b,xs,hb,hs,r⟩:=K1 rl (.ref ha) e1
   cases hb
   cases e2
   refine⟨rfl,?_⟩
   rcases hi:l[i]? with _ | v
   ·exact⟨xs,hs,by rw [←r.length];exact List.getElem?_eq_none_iff.mp hi⟩
   ·obtain⟨u,hu,rv⟩:=r.get hi
    refine⟨⟨xs,u,hs,hu⟩,λy H' ⟨y',p,h2,h3,h4,h5⟩=>?_⟩
    have h2:=h2 xs hs
    rw [hu] at h2;cases h2
    subst h4;subst h5
    exact⟨Ext.same h3,rl.tup h3,.tup D8 (.cons (.int _) (.cons (rv.mono (Ext.same h3)) .nil))⟩
theorem ab3{J:It}{A A':PHp}{n:Nat}(h:s8 J A=.ok n A'):A'=A:=by
 have key:∀a,bnd (D3 a) (λl=>ret l.length) A=.ok n A'->A'=A:=λa h=>by
  obtain⟨l,A1,e1,e2⟩:=B0 h
  cases e2
  unfold D3 at e1
  rcases hA:A[a]? with _ | o
  ·rw [hA] at e1;cases e1
  ·cases o <;> rw [hA] at e1 <;> cases e1 <;> rfl
 cases J with
 | rng lo n=>cases h;rfl
 | lst m=>exact key m h
 | tup l=>cases h;rfl
 | fix l=>cases h;rfl
 | enm m=>exact key m h
 | enk k m=>exact key m h
 | zip x y=>
   cases x with
   | ref n=>
     exact key n h
   | tup l=>cases h;rfl
   | _=>cases h
theorem o4{tg iter:Expr}{body:List Stmt}{it:ID}{g:GD}{b:SD}{pos:Pos}(hp:PassesOwn (model X.prog X.w) X.A X.env X.xe)(hc:X.calm=true)(hi:L2.PI X tg iter (EvI X.K cm it))(hg:L2.PG X tg (EvG X.K cm g))(hb:PSs X body (EvS X.K cm b))
 (hs:∀x,foldedSetIterable iter X.env x=pure x:=by intro _;rfl):PS X (.For tg iter body [] pos) (EvS X.K cm (g8 it g b)):=
 d9 (bi1 hp hc hi hg hb hs) λD σ H hq=>by
  obtain ⟨ρ,A,σp,f,A',rl,rs,ev,k⟩:=hq
  obtain⟨J,A1,e1,ev1⟩:=B0 ev
  obtain⟨n,A2,e2,ev2⟩:=B0 ev1
  obtain rfl:=ab3 e2
  refine⟨ρ,A,σp,J,A2,rl,rs,e1,λρ1 H1 j x1 rl1 rj=>?_⟩
  refine⟨λi m σ' H'=>∃ρ' B σp',Ext ρ1 H1 ρ' H'/\Rel X.K cm ρ' B H'/\RSt ρ' H' σp' σ'/\a8 J g b (m+1) i σp' B=.ok f A',⟨n,ρ1,A2,σp,Ext.refl _ _,rl1,rs.mono x1,ev2⟩,?_⟩
  rintro i m σ' H' ⟨ρ',B,σp',x2,rl2,rs2,ev3⟩
  rw [U2] at ev3
  obtain⟨x,B1,e3,ev4⟩:=B0 ev3
  obtain⟨rfl,hit⟩:=aI7 rl2 (rj.mono x2) e3
  cases x with
  | none=>
    cases ev4
    exact .inl ⟨hit,k ρ' H' (x1.trans x2) rl2 σ' rs2⟩
  | some v=>
    refine .inr ⟨hit.1,λσ3 H3=>∃ρ3 B3 σp3,Ext ρ1 H1 ρ3 H3/\Rel X.K cm ρ3 B3 H3/\RSt ρ3 H3 σp3 σ3/\a8 J g b m (i+1) σp3 B3=.ok f A',?_,λy H3 hy=>?_⟩
    ·rintro σ3 H3 ⟨ρ3,B3,σp3,x3,rl3,rs3,ev5⟩
     cases m with
     | zero=>rw [ag0] at ev5;cases ev5
     | succ m=>exact⟨m,Nat.lt_succ_self _,ρ3,B3,σp3,x3,rl3,rs3,ev5⟩
    ·obtain⟨x3,rl3,rv3⟩:=hit.2 y H3 hy
     obtain⟨σ4,B4,e4,ev5⟩:=B0 ev4
     obtain⟨o,B5,e5,ev6⟩:=B0 ev5
     refine⟨ρ',B1,σp',v,σ4,B4,rl3,rs2.mono x3,rv3,e4,λρ4 H4 σ5 x4 rl4 rs4=>⟨ρ4,B4,σ4,o,B5,rl4,rs4,e5,λρ5 H5 x5 rl5=>?_⟩⟩
     have x15:=(((x2.trans x3).trans x4).trans x5)
     cases o with
     | nx σ6=>exact λσ7 rs7=>⟨ρ5,B5,σ6,x15,rl5,rs7,ev6⟩
     | ct σ6=>exact λσ7 rs7=>⟨ρ5,B5,σ6,x15,rl5,rs7,ev6⟩
     | bk σ6=>cases ev6;exact λσ7 rs7=>k ρ5 H5 (x1.trans x15) rl5 σ7 rs7
     | rt u=>cases ev6;exact λv' rv'=>k ρ5 H5 (x1.trans x15) rl5 v' rv'
theorem a81{c:Expr}{body:List Stmt}{t:TD}{b:SD}{pos:Pos}(hp:PassesOwn (model X.prog X.w) X.A X.env X.xe)(hc:PT X c (EvT X.K cm t))(hb:PSs X body (EvS X.K cm b)):PS X (.While c body [] pos) (EvS X.K cm (aE0 t b)):=
 d9 (aT6 hp hc hb) λD σ H hq=>by
  obtain ⟨ρ,A,σp,f,A',rl,rs,ev,k⟩:=hq
  refine⟨λm σ' H'=>∃ρ' B σp',Ext ρ H ρ' H'/\Rel X.K cm ρ' B H'/\RSt ρ' H' σp' σ'/\j3 t b m σp' B=.ok f A',⟨LIM,ρ,A,σp,Ext.refl _ _,rl,rs,ev⟩,?_⟩
  rintro m σ' H' ⟨ρ',B,σp',x1,rl1,rs1,ev1⟩
  cases m with
  | zero=>rw [ax7] at ev1;cases ev1
  | succ m=>
    rw [ad1] at ev1
    obtain⟨x,B1,e1,ev2⟩:=B0 ev1
    refine⟨ρ',B,σp',x,B1,rl1,rs1,e1,λρ2 H2 x2 rl2=>?_⟩
    cases x with
    | false=>
      rw [if_neg (by simp)] at ev2 ⊢
      cases ev2
      exact k ρ2 H2 (x1.trans x2) rl2 σ' (rs1.mono x2)
    | true=>
      rw [if_pos rfl] at ev2 ⊢
      obtain⟨o,B2,e2,ev3⟩:=B0 ev2
      refine⟨λσ3 H3=>∃ρ3 B3 σp3,Ext ρ H ρ3 H3/\Rel X.K cm ρ3 B3 H3/\RSt ρ3 H3 σp3 σ3/\j3 t b m σp3 B3=.ok f A',λσ3 H3 h=>⟨m,Nat.lt_succ_self _,h⟩,ρ2,B1,σp',o,B2,rl2,rs1.mono x2,e2,λρ3 H3 x3 rl3=>?_⟩
      have x13:=(x1.trans x2).trans x3
      cases o with
      | nx σ6=>exact λσ7 rs7=>⟨ρ3,B2,σ6,x13,rl3,rs7,ev3⟩
      | ct σ6=>exact λσ7 rs7=>⟨ρ3,B2,σ6,x13,rl3,rs7,ev3⟩
      | bk σ6=>cases ev3;exact λσ7 rs7=>k ρ3 H3 x13 rl3 σ7 rs7
      | rt u=>cases ev3;exact λv' rv'=>k ρ3 H3 x13 rl3 v' rv'
theorem aF0{tg iter:Expr}{t t':L2.TI}(h:L2.PI X tg iter t)(k:∀σ H R,t' σ H R->t σ H R):L2.PI X tg iter t':=λpins s σ H R I q=>h pins s σ H R I (k σ H R q)
theorem i_rng1{tg a:Expr}{d:ED}{p pos:Pos}(hg:Gl X "range")(hm:X.mg "range" = none)(ha:PE X a (EvE X.K cm d))(hs:starEach [a] X.env=[(false,eval a X.env)]:=by rfl):L2.PI X tg (.Call (.Name "range" p) [a] [] pos) (EvI X.K cm (iRng1 d)):=
 aF0 (aM6 hg hm (r_cons ha r_nil hs) hs) λσ H R hq=>by
  obtain ⟨ρ,A,σp,J,A',rl,rs,ev,k⟩:=hq
  obtain⟨x,A1,e1,ev1⟩:=B0 ev
  refine⟨ρ,A,σp,[x],A1,rl,rs,by show bnd (d σp) _ A=_;rw [bnd_ok e1];rfl,λρ1 H1 vs1 x1 rl1 rv1=>?_⟩
  cases x with
  | int i=>
    obtain⟨c,ev2⟩:=C8 ev1
    cases ev2
    cases rv1 with
    | cons hv hr=>cases hr;cases hv;exact⟨i,rfl,c.1,c.2,k ρ1 H1 _ x1 rl1 rfl⟩
  | _=>cases ev1
theorem bm0{tg a b:Expr}{d e:ED}{p pos:Pos}(hg:Gl X "range")(hm:X.mg "range" = none)(ha:PE X a (EvE X.K cm d))(hb:PE X b (EvE X.K cm e))(hs:starEach [a,b] X.env=[(false,eval a X.env),(false,eval b X.env)]:=by rfl)(hs2:starEach [b] X.env=[(false,eval b X.env)]:=by rfl):L2.PI X tg (.Call (.Name "range" p) [a,b] [] pos) (EvI X.K cm (iRng2 d e)):=
 aF0 (aM7 hg hm (r_cons ha (r_cons hb r_nil hs2) (by rw [hs,hs2])) hs hs2) λσ H R hq=>by
  obtain ⟨ρ,A,σp,J,A',rl,rs,ev,k⟩:=hq
  obtain⟨x,A1,e1,ev1⟩:=B0 ev
  obtain⟨y,A2,e2,ev2⟩:=B0 ev1
  refine⟨ρ,A,σp,[x,y],A2,rl,rs,by show bnd (d σp) _ A=_;rw [bnd_ok e1];show bnd (bnd (e σp) _) _ A1=_;rw [bnd_ok (show bnd (e σp) _ A1=.ok [y] A2 by rw [bnd_ok e2];rfl)];rfl,λρ1 H1 vs1 x1 rl1 rv1=>?_⟩
  cases x with
  | int i=>
    cases y with
    | int j=>
      obtain⟨c,ev3⟩:=C8 ev2
      cases ev3
      cases rv1 with
      | cons hv hr=>
        cases hr with
        | cons hv2 hr2=>cases hr2;cases hv;cases hv2;exact⟨i,j,rfl,⟨c.1.1,c.1.2,c.2.1,c.2.2⟩,k ρ1 H1 _ x1 rl1 rfl⟩
    | _=>cases ev2
  | _=>cases ev2
def bs5(K:PySem.W.Frag)(tl:TE):L2.TI:=λσ H R=>tl σ H λx H1=>(∃a,x=.ref a/\(∃xs,SqL K H1 a xs)/\R (Itl K a) H1)\/(∃a,x=.ref a/\(∃xs,SqT K H1 a xs)/\R (Itt K a) H1)
theorem a82{tg l:Expr}{tl:TE}(hl:PE X l tl):L2.PI X tg l (bs5 X.K tl):=by
 intro pins s σ H R I h
 have a1:=a54 (tg:=tg) hl
 have a2:=bi0 (tg:=tg) hl
 refine thn (hl pins s σ H _ I h) λv s1 ⟨x,H1,I1,r1,q1⟩=>?_
 rcases q1 with ⟨a,e,⟨xs,hq⟩,q⟩ | ⟨a,e,⟨xs,hq⟩,q⟩
 ·subst e
  cases r1
  obtain⟨its,rv,p,hz⟩:=I1.list hq
  refine wpAny_pyIter_list p.isList ?_
  refine⟨s1.heap.objs.size,[s1.heap.objs.size],_,_,H1,rfl,I1.kept (t':=s1.toks) λb o e=>Heap.get?_push_of_some _ e,ao4 a _,⟨_,Heap.get?_push_size _ rfl,rfl,rfl⟩,λb hb=>?_,q⟩
  have e:b=s1.heap.objs.size:=by simpa using hb
  subst e
  exact I1.fpOk (Nat.le_refl _) (I1.hok.fresh (Nat.le_refl _))
 ·subst e
  cases r1
  obtain⟨its,rv,p,hz⟩:=I1.tuple hq
  refine wpAny_pyIter_tuple (show s1.heap.IsTuple a its.toArray from p) ?_
  refine⟨s1.heap.objs.size,[s1.heap.objs.size],_,_,H1,rfl,I1.kept (t':=s1.toks) λb o e=>Heap.get?_push_of_some _ e,af0 a _,⟨_,Heap.get?_push_size _ rfl,rfl,rfl⟩,λb hb=>?_,q⟩
  have e:b=s1.heap.objs.size:=by simpa using hb
  subst e
  exact I1.fpOk (Nat.le_refl _) (I1.hok.fresh (Nat.le_refl _))
theorem i_seq{tg l:Expr}{d:ED}(hl:PE X l (EvE X.K cm d)):L2.PI X tg l (EvI X.K cm (V0 d)):=aF0 (a82 hl) λσ H R hq=>by
 obtain ⟨ρ,A,σp,J,A',rl,rs,ev,k⟩:=hq
 obtain⟨x,A1,e1,ev1⟩:=B0 ev
 refine⟨ρ,A,σp,x,A1,rl,rs,e1,λρ1 H1 v1 x1 rl1 rv1=>?_⟩
 cases x with
 | ref n=>
   obtain⟨l,A2,e2,ev2⟩:=B0 ev1
   obtain⟨rfl,a,xs,rfl,hs,r⟩:=K1 rl1 rv1 e2
   cases ev2
   cases rv1 with
   | ref hn=>exact .inl ⟨a,rfl,⟨xs,hs⟩,k ρ1 H1 _ x1 rl1 ⟨a,hn,rfl⟩⟩
 | tup l=>
   cases ev1
   cases rv1 with
   | tup ha r=>exact .inr ⟨_,rfl,⟨_,SqT.of ha⟩,k ρ1 H1 _ x1 rl1 ⟨_,_,ha,r,rfl⟩⟩
 | _=>cases ev1
end
section
variable{ρ:List Addr}{H:Hp}
mutual
theorem RV.uniq:∀{x y:PV} {v:V},RV ρ H x v->RV ρ H y v->d5 x=true->d5 y=true->x=y
 | _,_,_,.non,h,_,_=>by cases h;rfl
 | _,_,_,.bl b,_,n,_=>by simp [d5] at n
 | _,_,_,.int i,h,_,_=>by cases h;rfl
 | _,_,_,.str z,h,_,_=>by cases h;rfl
 | _,_,_,.tup h1 r1,h,n1,n2=>by
   cases h with
   | tup h2 r2=>
     rw [h1] at h2;cases h2
     rw [RVs.uniq r1 r2 (by simpa [d5] using n1) (by simpa [d5] using n2)]
   | ref h2=>simp [d5] at n2
 | _,_,_,.ref _,_,n,_=>by simp [d5] at n
theorem RVs.uniq:∀{l m:List PV} {vs:List V},RVs ρ H l vs->RVs ρ H m vs->u7 l=true->u7 m=true->l=m
 | _,_,_,.nil,h,_,_=>by cases h;rfl
 | _,_,_,.cons h1 r1,h,n1,n2=>by
   cases h with
   | cons h2 r2=>
     simp only [u7,Bool.and_eq_true] at n1 n2
     rw [RV.uniq h1 h2 n1.1 n2.1,RVs.uniq r1 r2 n1.2 n2.2]
end
end
theorem w4:∀{l m:List PV},l.length≠m.length->W2 l m=false
 | [],[],h=>absurd rfl h
 | [],_::_,_=>rfl
 | _::_,[],_=>rfl
 | x::xs,y::ys,h=>by
   have:xs.length≠ys.length:=by simpa using h
   simp [W2,w4 this]
theorem w5:∀{l m:List PV},l.length=m.length->W2 l m=(List.range l.length).all λj=>eqv (l.getD j .non) (m.getD j .non)
 | [],[],_=>rfl
 | [],_::_,h=>by simp at h
 | _::_,[],h=>by simp at h
 | x::xs,y::ys,h=>by
   have e:xs.length=ys.length:=by simpa using h
   rw [List.length_cons,List.range_succ_eq_map,List.all_cons,List.all_map]
   simp only [W2,w5 e]
   rfl
theorem ah8{l m:List PV}:W2 l m=((List.range (min l.length m.length)).all (λj=>eqv (l.getD j .non) (m.getD j .non))&&l.length == m.length):=by
 by_cases h:l.length=m.length
 ·rw [w5 h,h];simp
 ·rw [w4 h,beq_eq_false_iff_ne.mpr h,Bool.and_false]
section
variable{X:Cx}{pins:List (Addr×Obj)}{σ:L2.St}{H:Hp}{s:Shared}{ρ:List Addr}{A:Around}
open PySem.SeqAt
theorem aI8{x y:PV}{vx vy:V}{u v:Value}(rx:RV ρ H x vx)(ry:RV ρ H y vy)(hx:O4 x=true)(hy:O4 y=true)(ux:L2.RelV vx u)(uy:L2.RelV vy v):EqAt A s u v (eqv x y):=by
 have key:=bj6 (A:=A) (s:=s) ux uy (by cases rx <;> simp_all [O4,aH8]) (by cases ry <;> simp_all [O4,aH8])
 have e:eqV vx vy=eqv x y:=by
  cases rx <;> cases ry <;> simp_all [O4,eqV,eqv] <;> (try (exact (Bool.beq_eq_decide_eq _ _)))
 rw [←e];exact key
theorem ab4{f:PV->Bool}{l m:List PV}{a b:Addr}{vs ws:List V}(I:L2.Inv X pins σ H s)(ha:H a=some (.tup vs))(hb:H b=some (.tup ws))(r1:RVs ρ H l vs)(r2:RVs ρ H m ws)(hl:l.all f=true)(hm:m.all f=true)(hf:∀x,f x=true->d5 x=true)(hu:A.units<cLine)
 (ih:∀x y vx vy u v,RV ρ H x vx->RV ρ H y vy->f x=true->f y=true->L2.RelV vx u->L2.RelV vy v->EqAt A.in1 s u v (eqv x y)) :
 (a≠b->RcAt A s (.ref a) (.ref b) (W2 l m))/\RcAt A s (.ref a) (.ref b) (W2 l m)/\EqAt A s (.ref a) (.ref b) (W2 l m):=by
 obtain⟨_,its,ri,pi⟩:=I.hok a _ ha
 obtain⟨_,its2,ri2,pi2⟩:=I.hok b _ hb
 have rc:RcAt A s (.ref a) (.ref b) (W2 l m):=by
  have h:=RcAt.tuples (A:=A) (s:=s) (l:=a) (b:=b) (items:=its.toArray) (items2:=its2.toArray) (e:=λj=>eqv (l.getD j .non) (m.getD j .non)) pi pi2 hu (λj h1 h2=>by
   simp only [List.size_toArray] at h1 h2
   have l1:j<vs.length:=by rw [ri.length];exact h1
   have l2:j<ws.length:=by rw [ri2.length];exact h2
   obtain⟨x,ex,rx⟩:=r1.get' (i:=j) (v:=vs[j]) (by simp [l1])
   obtain⟨y,ey,ry⟩:=r2.get' (i:=j) (v:=ws[j]) (by simp [l2])
   obtain⟨u,eu,ru⟩:=ri.get (i:=j) (x:=vs[j]) (by simp [l1])
   obtain⟨v,ev,rv⟩:=ri2.get (i:=j) (x:=ws[j]) (by simp [l2])
   have d1:l.getD j .non=x:=by rw [List.getD_eq_getElem?_getD,ex];rfl
   have d2:m.getD j .non=y:=by rw [List.getD_eq_getElem?_getD,ey];rfl
   have q1:its.toArray[j]=u:=by
    rw [List.getElem?_eq_getElem h1] at eu
    simpa using Option.some.inj eu
   have q2:its2.toArray[j]=v:=by
    rw [List.getElem?_eq_getElem h2] at ev
    simpa using Option.some.inj ev
   rw [d1,d2,q1,q2]
   exact ih x y _ _ u v rx ry (List.all_eq_true.mp hl x (List.mem_of_getElem? ex)) (List.all_eq_true.mp hm y (List.mem_of_getElem? ey)) ru rv)
  rw [ah8]
  have z1:its.toArray.size=l.length:=by rw [List.size_toArray,←ri.length,r1.length]
  have z2:its2.toArray.size=m.length:=by rw [List.size_toArray,←ri2.length,r2.length]
  rw [z1,z2] at h
  exact h
 refine⟨λ_=>rc,rc,?_⟩
 by_cases hab:a=b
 ·subst hab
  rw [ha] at hb;cases hb
  have e:=RVs.uniq r1 r2 (V1 hf l hl) (V1 hf m hm)
  subst e
  rw [(n0 l l (V1 hf l hl)).mpr rfl]
  exact EqAt.same _
 ·exact EqAt.of_refs hab rc
theorem Q9{x y:PV}{vx vy:V}{u v:Value}(I:L2.Inv X pins σ H s)(rx:RV ρ H x vx)(ry:RV ρ H y vy)(hu:A.units<cLine)(ux:L2.RelV vx u)(uy:L2.RelV vy v)
 (h:(∃l,x=.tup l/\O4 y=true)\/(∃m,y=.tup m/\O4 x=true)):EqAt A s u v (eqv x y)/\RcAt A s u v (eqv x y)/\RcNeAt A s u v (!eqv x y):=by
 rcases h with ⟨l,rfl,hy⟩ | ⟨m,rfl,hx⟩
 ·cases rx with
  | tup ha r=>
    obtain⟨_,its,ri,pi⟩:=I.hok _ _ ha
    cases ux
    cases ry with
    | non=>cases uy;exact⟨EqAt.tuple_none pi hu,RcAt.tuple_none pi hu,RcNeAt.tuple_none pi hu⟩
    | int i=>obtain⟨t,rfl⟩:=uy;exact⟨EqAt.tuple_int _ _ pi hu,RcAt.tuple_int _ _ pi hu,RcNeAt.tuple_int _ _ pi hu⟩
    | str i=>obtain⟨t,rfl⟩:=uy;exact⟨EqAt.tuple_str _ _ pi hu,RcAt.tuple_str _ _ pi hu,RcNeAt.tuple_str _ _ pi hu⟩
    | bl b=>simp [O4] at hy
    | tup h2 r2=>simp [O4] at hy
    | ref h2=>simp [O4] at hy
 ·cases ry with
  | tup ha r=>
    obtain⟨_,its,ri,pi⟩:=I.hok _ _ ha
    cases uy
    cases rx with
    | non=>cases ux;exact⟨EqAt.none_tuple pi hu,RcAt.none_tuple pi hu,RcNeAt.none_tuple pi hu⟩
    | int i=>obtain⟨t,rfl⟩:=ux;exact⟨EqAt.int_tuple _ _ pi hu,RcAt.int_tuple _ _ pi hu,RcNeAt.int_tuple _ _ pi hu⟩
    | str i=>obtain⟨t,rfl⟩:=ux;exact⟨EqAt.str_tuple _ _ pi hu,RcAt.str_tuple _ _ pi hu,RcNeAt.str_tuple _ _ pi hu⟩
    | bl b=>simp [O4] at hx
    | tup h2 r2=>simp [O4] at hx
    | ref h2=>simp [O4] at hx
theorem O7(A:Around)(n:Nat)(h:A.units+(n+1)<cLine):A.in1.units+n<cLine:=by
 show A.units+1+n<cLine;omega
theorem bs6(I:L2.Inv X pins σ H s)(A:Around)(hu:A.units+1<cLine)(x y:PV)(vx vy:V)(u v:Value)(rx:RV ρ H x vx)(ry:RV ρ H y vy)(hx:aI0 x=true)(hy:aI0 y=true)(ux:L2.RelV vx u)(uy:L2.RelV vy v):EqAt A s u v (eqv x y):=by
 cases x with
 | tup l=>
   cases y with
   | tup m=>
     cases rx with
     | tup ha r1=>
       cases ry with
       | tup hb r2=>
         cases ux;cases uy
         exact (ab4 I ha hb r1 r2 hx hy ay0 (by omega) (λx y vx vy u v rx ry h1 h2 u1 u2=>aI8 rx ry h1 h2 u1 u2)).2.2
   | _=>exact (Q9 I rx ry (by omega) ux uy (.inl ⟨_,rfl,hy⟩)).1
 | _=>
   cases y with
   | tup m=>exact (Q9 I rx ry (by omega) ux uy (.inr ⟨_,rfl,hx⟩)).1
   | _=>exact aI8 rx ry hx hy ux uy
theorem bf4(I:L2.Inv X pins σ H s)(A:Around)(hu:A.units+2<cLine)(x y:PV)(vx vy:V)(u v:Value)(rx:RV ρ H x vx)(ry:RV ρ H y vy)(hx:af7 x=true)(hy:af7 y=true)(ux:L2.RelV vx u)(uy:L2.RelV vy v):EqAt A s u v (eqv x y):=by
 cases x with
 | tup l=>
   cases y with
   | tup m=>
     cases rx with
     | tup ha r1=>
       cases ry with
       | tup hb r2=>
         cases ux;cases uy
         exact (ab4 I ha hb r1 r2 hx hy be8 (by omega) (λx y vx vy u v rx ry h1 h2 u1 u2=>bs6 I A.in1 (O7 A 1 (by omega)) x y vx vy u v rx ry h1 h2 u1 u2)).2.2
   | _=>exact (Q9 I rx ry (by omega) ux uy (.inl ⟨_,rfl,hy⟩)).1
 | _=>
   cases y with
   | tup m=>exact (Q9 I rx ry (by omega) ux uy (.inr ⟨_,rfl,hx⟩)).1
   | _=>exact aI8 rx ry hx hy ux uy
theorem aX1(I:L2.Inv X pins σ H s)(A:Around)(hu:A.units+3<cLine)(x y:PV)(vx vy:V)(u v:Value)(rx:RV ρ H x vx)(ry:RV ρ H y vy)(hx:plain x=true)(hy:plain y=true)(ux:L2.RelV vx u)(uy:L2.RelV vy v):EqAt A s u v (eqv x y):=by
 cases x with
 | tup l=>
   cases y with
   | tup m=>
     cases rx with
     | tup ha r1=>
       cases ry with
       | tup hb r2=>
         cases ux;cases uy
         exact (ab4 I ha hb r1 r2 hx hy be9 (by omega) (λx y vx vy u v rx ry h1 h2 u1 u2=>bf4 I A.in1 (O7 A 2 (by omega)) x y vx vy u v rx ry h1 h2 u1 u2)).2.2
   | _=>exact (Q9 I rx ry (by omega) ux uy (.inl ⟨_,rfl,hy⟩)).1
 | _=>
   cases y with
   | tup m=>exact (Q9 I rx ry (by omega) ux uy (.inr ⟨_,rfl,hx⟩)).1
   | _=>exact aI8 rx ry hx hy ux uy
end
end Ws
namespace Ws
open PySem PySem.SeqAt L2
section
variable{X:Cx}{cm:Nat->Addr}{pins:List (Addr×Obj)}{σ:L2.St}{H:Hp}{s:Shared}{ρ:List Addr}{A:Around}
theorem rc0{x y:PV}{vx vy:V}{u v:Value}(rx:RV ρ H x vx)(ry:RV ρ H y vy)(hx:O4 x=true)(hy:O4 y=true)(ux:L2.RelV vx u)(uy:L2.RelV vy v):RcAt A s u v (eqv x y)/\RcNeAt A s u v (!eqv x y):=by
 have hb:∀(i j:Int),(i == j)=decide (i=j):=λi j=>by rw [Bool.beq_eq_decide_eq]
 have hs:∀(i j:Str),(i == j)=decide (i=j):=λi j=>by rw [Bool.beq_eq_decide_eq]
 cases rx with
 | non=>
   cases ux
   cases ry with
   | non=>cases uy;exact⟨RcAt.none_none,RcNeAt.none_none⟩
   | int i=>obtain⟨t,rfl⟩:=uy;exact⟨RcAt.none_int _ _,RcNeAt.none_int _ _⟩
   | str i=>obtain⟨t,rfl⟩:=uy;exact⟨RcAt.none_str _ _,RcNeAt.none_str _ _⟩
   | _=>simp [O4] at hy
 | int i=>
   obtain⟨t,rfl⟩:=ux
   cases ry with
   | non=>cases uy;exact⟨RcAt.int_none _ _,RcNeAt.int_none _ _⟩
   | int j=>obtain⟨t',rfl⟩:=uy;simp only [eqv,←hb];exact⟨RcAt.int_int _ _ _ _,RcNeAt.int_int _ _ _ _⟩
   | str j=>obtain⟨t',rfl⟩:=uy;exact⟨RcAt.int_str _ _ _ _,RcNeAt.int_str _ _ _ _⟩
   | _=>simp [O4] at hy
 | str i=>
   obtain⟨t,rfl⟩:=ux
   cases ry with
   | non=>cases uy;exact⟨RcAt.str_none _ _,RcNeAt.str_none _ _⟩
   | int j=>obtain⟨t',rfl⟩:=uy;exact⟨RcAt.str_int _ _ _ _,RcNeAt.str_int _ _ _ _⟩
   | str j=>obtain⟨t',rfl⟩:=uy;simp only [eqv,←hs];exact⟨RcAt.str_str _ _ _ _,RcNeAt.str_str _ _ _ _⟩
   | _=>simp [O4] at hy
 | _=>simp [O4] at hx
theorem ah9{f:PV->Bool}{l m:List PV}{vs ws:List V}{its its2:List Value}(r1:RVs ρ H l vs)(r2:RVs ρ H m ws)(ri:Vals vs its)(ri2:Vals ws its2)(hl:l.all f=true)(hm:m.all f=true)
 (ih:∀x y vx vy u v,RV ρ H x vx->RV ρ H y vy->f x=true->f y=true->L2.RelV vx u->L2.RelV vy v->EqAt A s u v (eqv x y)) :
 ∀j (h1:j<its.toArray.size) (h2:j<its2.toArray.size),EqAt A s its.toArray[j] its2.toArray[j] (eqv (l.getD j .non) (m.getD j .non)):=λj h1 h2=>by
 simp only [List.size_toArray] at h1 h2
 have l1:j<vs.length:=by rw [ri.length];exact h1
 have l2:j<ws.length:=by rw [ri2.length];exact h2
 obtain⟨x,ex,rx⟩:=r1.get' (i:=j) (v:=vs[j]) (by simp [l1])
 obtain⟨y,ey,ry⟩:=r2.get' (i:=j) (v:=ws[j]) (by simp [l2])
 obtain⟨u,eu,ru⟩:=ri.get (i:=j) (x:=vs[j]) (by simp [l1])
 obtain⟨v,ev,rv⟩:=ri2.get (i:=j) (x:=ws[j]) (by simp [l2])
 have d1:l.getD j .non=x:=by rw [List.getD_eq_getElem?_getD,ex];rfl
 have d2:m.getD j .non=y:=by rw [List.getD_eq_getElem?_getD,ey];rfl
 have q1:its.toArray[j]=u:=by
  rw [List.getElem?_eq_getElem h1] at eu
  simpa using Option.some.inj eu
 have q2:its2.toArray[j]=v:=by
  rw [List.getElem?_eq_getElem h2] at ev
  simpa using Option.some.inj ev
 rw [d1,d2,q1,q2]
 exact ih x y _ _ u v rx ry (List.all_eq_true.mp hl x (List.mem_of_getElem? ex)) (List.all_eq_true.mp hm y (List.mem_of_getElem? ey)) ru rv
def aF1(K:PySem.W.Frag)(g:Bool->Bool):R2:=λvx vy H Q=>∃(ρ:List Addr),
 (∃x y,RV ρ H x vx/\RV ρ H y vy/\plain x=true/\plain y=true/\Q (.bl (g (eqv x y))) H)\/(∃b c,vx=.bl b/\vy=.bl c/\Q (.bl (g (b == c))) H)\/
 (∃a b l m xs ys,vx=.ref a/\vy=.ref b/\SqL K H a xs/\SqL K H b ys/\RVs ρ H l xs/\RVs ρ H m ys/\N3 l=true/\N3 m=true/\Q (.bl (g (W2 l m))) H)
theorem aI9(hr:X.A.units+64<cLine){vx vy:V}{u v:Value}{Q:VK}{g:Bool->Bool}(I:L2.Inv X pins σ H s)(ux:L2.RelV vx u)(uy:L2.RelV vy v)(h:aF1 X.K g vx vy H Q):∃b,RcAt X.A s u v b/\RcNeAt X.A s u v (!b)/\Q (.bl (g b)) H:=by
 obtain⟨ρ,h⟩:=h
 rcases h with ⟨x,y,rx,ry,px,py,q⟩ | ⟨b,c,rfl,rfl,q⟩ | ⟨a,b,l,m,xs,ys,rfl,rfl,h1,h2,r1,r2,p1,p2,q⟩
 ·refine⟨eqv x y,?_,?_,q⟩ <;>
  (cases x with
  | tup l=>
    cases y with
    | tup m=>
      cases rx with
      | tup ha r1=>
        cases ry with
        | tup hb r2=>
          cases ux;cases uy
          obtain⟨_,its,ri,pi⟩:=I.hok _ _ ha
          obtain⟨_,its2,ri2,pi2⟩:=I.hok _ _ hb
          have z1:its.toArray.size=l.length:=by rw [List.size_toArray,←ri.length,r1.length]
          have z2:its2.toArray.size=m.length:=by rw [List.size_toArray,←ri2.length,r2.length]
          have hi:=ah9 (A:=X.A.in1) (s:=s) r1 r2 ri ri2 (show l.all af7=true from px) (show m.all af7=true from py) (λx y vx vy u v rx ry h1 h2 u1 u2=>bf4 I X.A.in1 (O7 X.A 2 (by omega)) x y vx vy u v rx ry h1 h2 u1 u2)
          first
           | (have h:=RcAt.tuples (A:=X.A) (s:=s) (e:=λj=>eqv (l.getD j .non) (m.getD j .non)) pi pi2 (by omega) hi
              rw [z1,z2,←ah8] at h;exact h)
           | (have h:=RcNeAt.tuples (A:=X.A) (s:=s) (e:=λj=>eqv (l.getD j .non) (m.getD j .non)) pi pi2 (by omega) hi
              rw [z1,z2,←ah8] at h;exact h)
    | _=>first | exact (Q9 I rx ry (by omega) ux uy (.inl ⟨_,rfl,py⟩)).2.1 | exact (Q9 I rx ry (by omega) ux uy (.inl ⟨_,rfl,py⟩)).2.2
  | _=>
    cases y with
    | tup m=>first | exact (Q9 I rx ry (by omega) ux uy (.inr ⟨_,rfl,px⟩)).2.1 | exact (Q9 I rx ry (by omega) ux uy (.inr ⟨_,rfl,px⟩)).2.2
    | _=>first | exact (rc0 rx ry px py ux uy).1 | exact (rc0 rx ry px py ux uy).2)
 ·cases ux;cases uy
  exact⟨b == c,RcAt.bool_bool _ _,RcNeAt.bool_bool _ _,q⟩
 ·cases ux;cases uy
  obtain⟨its,ri,pi,_⟩:=I.list h1
  obtain⟨its2,ri2,pi2,_⟩:=I.list h2
  have z1:its.toArray.size=l.length:=by rw [List.size_toArray,←ri.length,r1.length]
  have z2:its2.toArray.size=m.length:=by rw [List.size_toArray,←ri2.length,r2.length]
  refine⟨W2 l m,?_,?_,q⟩
  ·by_cases hlm:l.length=m.length
   ·have hi:=ah9 (A:=X.A.in1) (s:=s) r1 r2 ri ri2 p1 p2 (λx y vx vy u v rx ry h1 h2 u1 u2=>aX1 I X.A.in1 (O7 X.A 3 (by omega)) x y vx vy u v rx ry h1 h2 u1 u2)
    have h:=RcAt.lists (A:=X.A) (s:=s) (e:=λj=>eqv (l.getD j .non) (m.getD j .non)) pi.isList pi2.isList (by rw [z1,z2,hlm]) (by omega) hi
    rw [z1,←w5 hlm] at h;exact h
   ·rw [w4 hlm]
    exact RcAt.lists_lengths pi.isList pi2.isList (by rw [z1,z2];exact bne_iff_ne.mpr hlm) (by omega)
  ·by_cases hlm:l.length=m.length
   ·have hi:=ah9 (A:=X.A.in1) (s:=s) r1 r2 ri ri2 p1 p2 (λx y vx vy u v rx ry h1 h2 u1 u2=>aX1 I X.A.in1 (O7 X.A 3 (by omega)) x y vx vy u v rx ry h1 h2 u1 u2)
    have h:=RcNeAt.lists (A:=X.A) (s:=s) (e:=λj=>eqv (l.getD j .non) (m.getD j .non)) pi.isList pi2.isList (by rw [z1,z2,hlm]) (by omega) hi
    rw [z1,←w5 hlm] at h;exact h
   ·rw [w4 hlm]
    exact RcNeAt.lists_lengths pi.isList pi2.isList (by rw [z1,z2];exact bne_iff_ne.mpr hlm) (by omega)
theorem M9(hr:X.A.units+64<cLine):OpR X (compareOp .Eq) (aF1 X.K id):=by
 intro pins s σ H x y v u Q I rx ry q
 obtain⟨b,h1,_,h3⟩:=aI9 hr I rx ry q
 exact h1 _ _ _ _ ⟨.bl b,H,I,rfl,h3⟩
theorem S5(hr:X.A.units+64<cLine):OpR X (compareOp .NotEq) (aF1 X.K not):=by
 intro pins s σ H x y v u Q I rx ry q
 obtain⟨b,_,h2,h3⟩:=aI9 hr I rx ry q
 exact h2 _ _ _ _ ⟨.bl (!b),H,I,rfl,h3⟩
theorem au3{x y:PV}{B B':PHp}{b:Bool}{vx vy:V}{Q:VK}{g:Bool->Bool}(rl:Rel X.K cm ρ B H)(rx:RV ρ H x vx)(ry:RV ρ H y vy)(h:pEq x y B=.ok b B')(q:Q (.bl (g b)) H):B'=B/\aF1 X.K g vx vy H Q:=by
 have gen:∀x y,RV ρ H x vx->RV ρ H y vy->J4 (as9 x y=true\/(plain x=true/\plain y=true)) (ret (eqv x y)) B=.ok b B'->B'=B/\aF1 X.K g vx vy H Q:=λx y rx ry h=>by
  obtain⟨c,h⟩:=C8 h
  cases h
  refine⟨rfl,ρ,?_⟩
  rcases c with c | c
  ·cases x with
   | bl b1=>
     cases y with
     | bl b2=>cases rx;cases ry;exact .inr (.inl ⟨b1,b2,rfl,rfl,q⟩)
     | _=>simp [as9] at c
   | _=>simp [as9] at c
  ·exact .inl ⟨x,y,rx,ry,c.1,c.2,q⟩
 cases x with
 | ref n=>
   cases y with
   | ref k=>
     obtain⟨l,B1,e1,h1⟩:=B0 h
     obtain⟨rfl,a,xs,rfl,hs,r⟩:=K1 rl rx e1
     obtain⟨m,B2,e2,h2⟩:=B0 h1
     obtain⟨rfl,a2,ys,rfl,hs2,r2⟩:=K1 rl ry e2
     obtain⟨c,h3⟩:=C8 h2
     cases h3
     exact⟨rfl,ρ,.inr (.inr ⟨a,a2,l,m,xs,ys,rfl,rfl,hs,hs2,r,r2,c.1,c.2,q⟩)⟩
   | _=>exact gen _ _ rx ry h
 | _=>cases y <;> exact gen _ _ rx ry h
theorem R0:V3 X.K cm oEq (aF1 X.K id):=λρ B H x y z B' vx vy Q rl rx ry ev k=>by
 obtain⟨b,B1,e1,ev1⟩:=B0 ev
 cases ev1
 have hB:B'=B:=(au3 (g:=id) (Q:=λ_ _=>True) rl rx ry e1 trivial).1
 subst hB
 exact (au3 (g:=id) rl rx ry e1 (k ρ H _ (Ext.refl _ _) rl (.bl b))).2
theorem Y8:V3 X.K cm oNe (aF1 X.K not):=λρ B H x y z B' vx vy Q rl rx ry ev k=>by
 obtain⟨b,B1,e1,ev1⟩:=B0 ev
 cases ev1
 have hB:B'=B:=(au3 (g:=not) (Q:=λ_ _=>True) rl rx ry e1 trivial).1
 subst hB
 exact (au3 (g:=not) rl rx ry e1 (k ρ H _ (Ext.refl _ _) rl (.bl _))).2
def a83(K:PySem.W.Frag)(neg:Bool):R2:=λvx vy H Q=>∃(ρ:List Addr) (x:PV) (a:Addr) (l:List PV) (xs:List V),RV ρ H x vx/\vy=.ref a/\(SqL K H a xs\/SqT K H a xs)/\RVs ρ H l xs/\plain x=true/\N3 l=true/\Q (.bl (if neg then !pIn x l else pIn x l)) H
def ay4(ρ:List Addr)(H:Hp)(x:PV)(u:Value):Bool:=@decide (∃y vy,L2.RelV vy u/\RV ρ H y vy/\plain y=true/\eqv y x=true) (Classical.propDecidable _)
theorem aJ0{x y:PV}{vy:V}{u:Value}(ru:L2.RelV vy u)(ry:RV ρ H y vy)(py:plain y=true):ay4 ρ H x u=eqv y x:=by
 unfold ay4
 cases e:eqv y x with
 | true=>exact @decide_eq_true _ (Classical.propDecidable _) ⟨y,vy,ru,ry,py,e⟩
 | false=>
   refine @decide_eq_false _ (Classical.propDecidable _) λ⟨z,vz,rz,qz,pz,ez⟩=>?_
   have:=rz.inj ru
   subst this
   have:=RV.uniq qz ry (d8 _ pz) (d8 _ py)
   subst this
   rw [e] at ez;cases ez
theorem j6{x:PV}:∀{l:List PV} {xs:List V} {us:List Value},RVs ρ H l xs->Vals xs us->N3 l=true->us.any (ay4 ρ H x)=pIn x l
 | _,_,_,.nil,.nil,_=>rfl
 | _,_,_,.cons h r,.cons h' r',p=>by
   have p':=p
   unfold N3 at p'
   rw [List.all_cons,Bool.and_eq_true] at p'
   rw [List.any_cons,aJ0 h' h p'.1,j6 r r' p'.2];rfl
theorem j7{x:PV}{vx:V}{v:Value}(I:L2.Inv X pins σ H s)(A:Around)(hu:A.units+3<cLine)(rx:RV ρ H x vx)(px:plain x=true)(ux:L2.RelV vx v):∀{l:List PV} {xs:List V} {us:List Value},RVs ρ H l xs->Vals xs us->N3 l=true->∀u∈us,EqAt A s u v (ay4 ρ H x u)
 | _,_,_,.nil,.nil,_=>λu hu=>by cases hu
 | _,_,_,.cons h r,.cons h' r',p=>λu hm=>by
   have p':=p
   unfold N3 at p'
   rw [List.all_cons,Bool.and_eq_true] at p'
   rcases List.mem_cons.mp hm with rfl | hm
   ·rw [aJ0 h' h p'.1];exact aX1 I A hu _ _ _ _ _ _ h rx p'.1 px h' ux
   ·exact j7 I A hu rx px ux r r' p'.2 u hm
theorem s9(hr:X.A.units+64<cLine):OpR X (compareOp .In) (a83 X.K false):=by
 intro pins s σ H x y v u Q I rx ry h
 obtain⟨ρ,z,a,l,xs,rz,rfl,hq,r,pz,pl,q⟩:=h
 cases ry
 rcases hq with hq | hq
 ·obtain⟨its,ri,pi,hz⟩:=I.list hq
  refine in_listAt (ay4 ρ H z) pi.isList (λw hw=>j7 I X.A.in1 (O7 X.A 3 (by omega)) rz pz rx r ri pl w (by simpa using hw)) ⟨.bl _,H,I,rfl,?_⟩
  rw [List.any_toArray,j6 r ri pl];exact q
 ·obtain⟨its,ri,pi,hz⟩:=I.tuple hq
  refine in_tupleAt (ay4 ρ H z) pi (λw hw=>j7 I X.A.in1 (O7 X.A 3 (by omega)) rz pz rx r ri pl w (by simpa using hw)) ⟨.bl _,H,I,rfl,?_⟩
  rw [List.any_toArray,j6 r ri pl];exact q
theorem ap6(hr:X.A.units+64<cLine):OpR X (compareOp .NotIn) (a83 X.K true):=by
 intro pins s σ H x y v u Q I rx ry h
 obtain⟨ρ,z,a,l,xs,rz,rfl,hq,r,pz,pl,q⟩:=h
 cases ry
 rcases hq with hq | hq
 ·obtain⟨its,ri,pi,hz⟩:=I.list hq
  refine notIn_listAt (ay4 ρ H z) pi.isList (λw hw=>j7 I X.A.in1 (O7 X.A 3 (by omega)) rz pz rx r ri pl w (by simpa using hw)) ⟨.bl _,H,I,rfl,?_⟩
  rw [List.any_toArray,j6 r ri pl];exact q
 ·obtain⟨its,ri,pi,hz⟩:=I.tuple hq
  refine notIn_tupleAt (ay4 ρ H z) pi (λw hw=>j7 I X.A.in1 (O7 X.A 3 (by omega)) rz pz rx r ri pl w (by simpa using hw)) ⟨.bl _,H,I,rfl,?_⟩
  rw [List.any_toArray,j6 r ri pl];exact q
theorem ai0:V3 X.K cm oIn (a83 X.K false):=λρ B H x y z B' vx vy Q rl rx ry ev k=>by
 obtain⟨l,B1,e1,ev1⟩:=B0 ev
 obtain⟨rfl,a,xs,rfl,hs,r⟩:=j5 rl ry e1
 obtain⟨c,ev2⟩:=C8 ev1
 cases ev2
 exact⟨ρ,x,a,l,xs,rx,rfl,hs,r,c.1,c.2,k ρ H _ (Ext.refl _ _) rl (.bl _)⟩
theorem ay5:V3 X.K cm af8 (a83 X.K true):=λρ B H x y z B' vx vy Q rl rx ry ev k=>by
 obtain⟨l,B1,e1,ev1⟩:=B0 ev
 obtain⟨rfl,a,xs,rfl,hs,r⟩:=j5 rl ry e1
 obtain⟨c,ev2⟩:=C8 ev1
 cases ev2
 exact⟨ρ,x,a,l,xs,rx,rfl,hs,r,c.1,c.2,k ρ H _ (Ext.refl _ _) rl (.bl _)⟩
def t0:Ty->String
 | .int=>"int"
 | .bool=>"bool"
 | .tuple=>"tuple"
 | .list=>"list"
structure Kit(K:PySem.W.Frag):Prop where
 t (a b:String) (ha:a∈["NoneType","bool","int","str","list","tuple"]) (hb:b∈["int","bool","tuple","list"]):PySem.W.kitOne K (.type a) (.type b)=some (a == b||(a == "bool"&&b == "int"))
def bw7(K:PySem.W.Frag)(t:Ty):List V->Hp->VK->Prop:=λvs H Q=>∃v ty,vs=[v,.ty (t0 t)]/\ty∈["NoneType","bool","int","str","list","tuple"]/\t9 K H v (.type ty)/\Q (.bl (ty == t0 t||(ty == "bool"&&t0 t == "int"))) H
theorem aX2(kit:Kit X.K)(t:Ty):CallR X (.builtin "isinstance") (bw7 X.K t):=by
 intro pins s σ H xs us Q I r h
 obtain⟨v,ty,rfl,hm,hty,q⟩:=h
 obtain⟨u,w,rfl,ru,rw'⟩:=aH5 r
 cases rw'
 exact ao5 I ru hty (kit.t ty (t0 t) hm (by cases t <;> simp [t0])) λtk=>⟨.bl _,H,I.tok tk,rfl,q⟩
theorem X4{e:Expr}{d:ED}{t:Ty}{tn:Str}{p p2 pos:Pos}(kit:Kit X.K)(he:PE X e (EvE X.K cm d))(hg:Gl X "isinstance")(hm:X.mg "isinstance" = none)(hgt:Gl X tn)(hmt:X.mg tn=none)(hbt:bootBuiltins tn=some (.type (t0 t)))
 (hs:starEach [e,.Name tn p2] X.env=(false,eval e X.env)::starEach [.Name tn p2] X.env:=by exact E5 rfl) (hs2:starEach [Expr.Name tn p2] X.env=(false,eval (.Name tn p2) X.env)::starEach [] X.env:=by exact E5 rfl) (hpl:(backTo pos (starEach [Expr.Name tn p2] X.env)).any (·.1)=false:=by rfl)
 (hn:tn≠"__name__":=by decide) (hdb:(tn == ("__debug__" : Str))=false:=by decide) :
 PE X (.Call (.Name "isinstance" p) [e,.Name tn p2] [] pos) (EvE X.K cm (j0 d t)):=
 E3 (S4 (aX2 kit t) hg hm PyProof.Rows.boot_isinstance (d4 he (d4 (aH4 (v:=.ty (t0 t)) hgt hmt hbt rfl hn hdb) as3 hs2) hs) (he:=hs) (hpl:=hpl)) λσ H Q hq=>by
  obtain ⟨ρ,A,σp,v,A',rl,rs,ev,k⟩:=hq
  obtain⟨x,A1,e1,ev1⟩:=B0 ev
  obtain⟨b,A2,e2,ev2⟩:=B0 ev1
  cases ev2
  refine⟨ρ,A,σp,x,A1,rl,rs,e1,λρ1 H1 v1 x1 rl1 rv1=>?_⟩
  cases x with
  | non=>cases rv1;cases t <;> cases e2 <;> exact⟨_,"NoneType",rfl,by simp,.non,k ρ1 H1 _ x1 rl1 (.bl _)⟩
  | bl c=>cases rv1;cases t <;> cases e2 <;> exact⟨_,"bool",rfl,by simp,.bl c,k ρ1 H1 _ x1 rl1 (.bl _)⟩
  | int i=>cases rv1;cases t <;> cases e2 <;> exact⟨_,"int",rfl,by simp,.int i,k ρ1 H1 _ x1 rl1 (.bl _)⟩
  | str z=>cases rv1;cases t <;> cases e2 <;> exact⟨_,"str",rfl,by simp,.str z,k ρ1 H1 _ x1 rl1 (.bl _)⟩
  | tup l=>
    cases rv1 with
    | tup ha r=>cases t <;> cases e2 <;> exact⟨_,"tuple",rfl,by simp,.tup ha,k ρ1 H1 _ x1 rl1 (.bl _)⟩
  | ref n=>
    cases t <;>
    (obtain⟨l,A3,e3,e4⟩:=B0 e2
     obtain⟨rfl,hA,a,xs,rfl,hn,hH,r⟩:=P8 rl1 rv1 e3
     cases e4
     exact⟨_,"list",rfl,by simp,.lst hH,k ρ1 H1 _ x1 rl1 (.bl _)⟩)
end
end Ws
namespace Ws
open PySem L2
theorem ai1{X:Cx}{pins:List (Addr×Obj)}{σ:L2.St}{H:Hp}{s:Shared}{h':Heap}{t':Nat}{fp:List Addr}{T:Addr}{o:HO}(I:L2.Inv X pins σ H s)(hf:∀b∈fp,t8 X pins H b)
 (k:∀b u,b∉fp->s.heap.get? b=some u->h'.get? b=some u) (hT:s.heap.objs.size<=T) (new:ObjOk X.prog X.w (upd H T o) h' T o):L2.Inv X pins σ (upd H T o) { s with heap:=h',toks:=t' }:=by
 have hn:H T=none:=I.hok.fresh hT
 have neT:∀b u,s.heap.get? b=some u->b≠T:=λb u e=>Nat.ne_of_lt (Nat.lt_of_lt_of_le (Heap.lt_size e) hT)
 have nfp:∀b u,H b=some u->b∉fp:=λb u e z=>by rw [(hf b z).1] at e;cases e
 refine I.step (g':=s.gens) (d':=s.drawn) (ch:=fp) (λb hb=>?_) (λb u _ _ hc e _=>k b u hc e) (λb u _ _ hc e _=>⟨u.slots,k b u hc e⟩) (λb u hc e n=>by rw [E4 (neT b u e)];exact n) (λb u hc e=>⟨u,k b u hc e⟩)
  (λb xs e=>by rw [E4 (K9 e hn)];exact e) (λb u xs e=>by rw [E4 (K9 e hn)];exact e) (λb ps e=>⟨#[],by rw [E4 (K9 e hn),e];simp⟩) (λm hm=>?_) (λb u e=>?_) I.bare
 ·obtain⟨_,f1,_,f3,f4,f5⟩:=hf b hb
  exact⟨f3,f1,f4,f5⟩
 ·obtain⟨ob,es,ep,ho,r⟩:=hm
  exact⟨ob,es,ep,k _ ob (λz=>(hf _ z).2.1 rfl) ho,r⟩
 ·by_cases hb:b=T
  ·subst hb;rw [D8] at e;cases e;exact new
  ·rw [E4 hb] at e
   refine (I.hok b u e).stay (λc v hc q=>k c v ?_ q) (λc q=>by rw [E4 (K9 q hn)];exact q) λc xs q=>by rw [E4 (K9 q hn)];exact q
   rcases hc with rfl | hc
   ·exact nfp c u e
   ·exact nfp c _ hc
theorem ap7{X:Cx}{pins:List (Addr×Obj)}{σ:L2.St}{H:Hp}{s:Shared}{h':Heap}{t':Nat}{fp:List Addr}(I:L2.Inv X pins σ H s)(hf:∀b∈fp,t8 X pins H b)
 (k:∀b u,b∉fp->s.heap.get? b=some u->h'.get? b=some u):L2.Inv X pins σ H { s with heap:=h',toks:=t' }:=by
 have nfp:∀b u,H b=some u->b∉fp:=λb u e z=>by rw [(hf b z).1] at e;cases e
 refine I.step (g':=s.gens) (d':=s.drawn) (ch:=fp) (λb hb=>?_) (λb u _ _ hc e _=>k b u hc e) (λb u _ _ hc e _=>⟨u.slots,k b u hc e⟩) (λb u hc e n=>n) (λb u hc e=>⟨u,k b u hc e⟩)
  (λb xs e=>e) (λb u xs e=>e) (λb ps e=>⟨#[],by rw [e];simp⟩) (λm hm=>?_) (λb u e=>?_) I.bare
 ·obtain⟨_,f1,_,f3,f4,f5⟩:=hf b hb
  exact⟨f3,f1,f4,f5⟩
 ·obtain⟨ob,es,ep,ho,r⟩:=hm
  exact⟨ob,es,ep,k _ ob (λz=>(hf _ z).2.1 rfl) ho,r⟩
 ·refine (I.hok b u e).stay (λc v hc q=>k c v ?_ q) (λc q=>q) λc xs q=>q
  rcases hc with rfl | hc
  ·exact nfp c u e
  ·exact nfp c _ hc
theorem aO3{P:Program}{w:World}{K:PySem.W.Frag}{elts:List Expr}{x1:Nat}{pos:Pos}(a e it:Addr)(hei:e≠it):aC5 P w K (.Tuple elts x1 pos) (Ite K a) [e,it] e (λi h=>(∃old,IsEnum h e it i old)/\h.IsListIter it a i) where
 mem:=by simp
 obj:=λi h st b hb=>by
  obtain⟨⟨old,he⟩,o,e1,c,d⟩:=st
  rcases List.mem_cons.mp hb with rfl | hb
  ·exact⟨_,he,λv z=>by cases z⟩
  ·have e2:b=it:=by simpa using hb
   subst e2
   exact⟨o,e1,λv z=>by rw [d] at z;cases z⟩
 keep:=λi h h' st k=>by
  obtain⟨⟨old,he⟩,hit⟩:=st
  exact⟨⟨old,k e (by simp) _ he⟩,hit.at λo x=>k it (by simp) o x⟩
 item:=by
  intro X hP hw hK hc i pins s σ H E I hf st hg
  subst hP hw hK
  obtain⟨xs,x,hq,hx⟩:=hg
  obtain⟨its,rv,p,hz⟩:=I.list hq
  obtain⟨u,hu,ru⟩:=rv.get hx
  obtain⟨⟨old,he⟩,hit⟩:=st
  have el:=Heap.lt_size he
  refine wpAny_pyNext_enum_item he hit p.isList (x:=u) (by simpa using hu) hei λh' ho hit' hT hsz hk=>?_
  refine⟨.ref s.heap.objs.size,rfl,wpAny_letOwnedTupleGo_enum (s:={ s with heap:=h',toks:=s.toks+1 }) ho λh2 he2 hs2=>?_⟩
  have sb:∀b u,b≠e->h'.get? b=some u->h2.get? b=some u:=λb u hb q=>(hs2.2 b hb).trans q
  have hTe:s.heap.objs.size≠e:=Nat.ne_of_gt el
  have I2:L2.Inv X pins σ (upd H s.heap.objs.size (.tup [.int i,x])) { s with heap:=h2,toks:=s.toks+1 }:=by
   refine ai1 (s:=s) (t':=s.toks+1) I hf (λb u hb q=>?_) (Nat.le_refl _) ?_
   ·have h1:b≠e:=λz=>hb (by simp [z])
    have h2:b≠it:=λz=>hb (by simp [z])
    exact sb b u h1 (hk b u h1 h2 q)
   ·exact⟨by show 2<=sizeLine;decide,[.int i s.toks,u],.cons ⟨_,rfl⟩ (.cons ru .nil),_,sb _ _ hTe hT,rfl,_,rfl⟩
  refine⟨.ref s.heap.objs.size,upd H s.heap.objs.size (.tup [.int i,x]),I2,rfl,⟨x,s.heap.objs.size,λys hy=>by rw [I.list_inj hy hq];exact hx,I.hok.fresh (Nat.le_refl _),rfl,rfl⟩,⟨⟨u,by exact_mod_cast he2⟩,hit'.at λo y=>sb it o hei.symm y⟩,λb hb=>?_⟩
  ·rw [E4]
   ·exact (hf b hb).1
   ·rcases List.mem_cons.mp hb with rfl | hb
    ·exact hTe.symm
    ·have e2:b=it:=by simpa using hb
     subst e2
     obtain⟨_,y,_⟩:=hit
     exact Nat.ne_of_lt (Heap.lt_size y)
 done:=by
  intro X hP hw hK hc i pins s σ H E I hf st hg
  subst hP hw hK
  obtain⟨xs,hq,hx⟩:=hg
  obtain⟨its,rv,p,hz⟩:=I.list hq
  obtain⟨⟨old,he⟩,hit⟩:=st
  have hl:=rv.length
  exact wpAny_pyNext_enum_end (I.ok.hd hc) he hit p.isList (by rw [Array.getElem?_eq_none];simp;omega) λh' eb=>⟨rfl,ap7 (t':=s.toks) I hf λb u hb q=>eb b u (λz=>hb (by simp [z])) q⟩
 self:=λ_ _ _ _ _ st h=>by
  obtain⟨⟨old,he⟩,_⟩:=st
  exact wpAny_pyIter_enum he h
section
variable{X:Cx}{cm:Nat->Addr}
theorem aX3{l:Expr}{d:ED}{elts:List Expr}{x1:Nat}{tpos p pos:Pos}(hg:Gl X "enumerate")(hm:X.mg "enumerate" = none)(hl:PE X l (EvE X.K cm d))(hs:starEach [l] X.env=(false,eval l X.env)::starEach [] X.env:=by exact E5 rfl):L2.PI X (.Tuple elts x1 tpos) (.Call (.Name "enumerate" p) [l] [] pos) (EvI X.K cm (aV8 d)):=by
 intro pins s σ H R I h
 obtain⟨ρ,A,σp,J,A',rl,rs,ev,k⟩:=h
 obtain⟨x,A1,e1,ev1⟩:=B0 ev
 refine PyProof.Rows.Call_ (U1 I hg hm PyProof.Rows.boot_enumerate (PyProof.Rows.callWith_type1 (thn ((r_cons hl r_nil hs) pos pins s σ H (λvs H1=>∃a xs,vs=[.ref a]/\SqL X.K H1 a xs/\R (Ite X.K a) H1) I ⟨ρ,A,σp,[x],A1,rl,rs,by show bnd (d σp) _ A=_;rw [bnd_ok e1];rfl,λρ1 H1 vs1 x1 rl1 rv1=>?_⟩) λus s1 ⟨vs,H1,I1,r1,q1⟩=>?_) hs rfl))
 ·cases x with
  | ref n=>
    obtain⟨m,A2,e2,ev2⟩:=B0 ev1
    cases rv1 with
    | cons hv hr=>
      cases hr
      obtain⟨rfl,a,xs,rfl,hq,r⟩:=K1 rl1 hv e2
      cases ev2
      cases hv with
      | ref hn=>exact⟨a,xs,rfl,hq,k ρ1 H1 _ x1 rl1 ⟨a,hn,rfl⟩⟩
  | _=>cases ev1
 ·obtain⟨a,xs,rfl,hq,q⟩:=q1
  obtain⟨u,rfl,rx⟩:=Y4 r1
  cases rx
  obtain⟨its,rv,pl,hz⟩:=I1.list hq
  refine call_enumerate_list pl.isList λh' he hit hsz kp=>?_
  refine wpAny_pyIter_enum he ?_
  have I2:L2.Inv X pins σ H1 { s1 with heap:=h' }:=I1.kept (t':=s1.toks) kp
  refine⟨s1.heap.objs.size+1,[s1.heap.objs.size+1,s1.heap.objs.size],_,_,H1,rfl,I2,aO3 a _ _ (Nat.succ_ne_self _),⟨⟨_,he⟩,hit⟩,λb hb=>?_,q⟩
  have hb2:s1.heap.objs.size<=b:=by
   rcases List.mem_cons.mp hb with rfl | hb
   ·exact Nat.le_succ _
   ·have:b=s1.heap.objs.size:=by simpa using hb
    exact Nat.le_of_eq this.symm
  exact I1.fpOk hb2 (I1.hok.fresh hb2)
end
structure Def(P:Program)(w:World)(K:PySem.W.Frag)(mg:Str->Option Value)(base:Heap)(cm:Nat->Addr)(x:Str)(k:Nat)(ps:List Str)(f:Fun)(n:Nat):Prop where
 ex:∃(fa:Addr) (fd:FuncData),FnOk P w K mg base CX0 k fa fd ps (SpF K cm f n)/\mg x=some (.ref fa)/\PySem.W.keepIn K (.ref fa)=true/\L2.Binds K fd ps []
 len:∀vs A v A',f vs A=.ok v A'->vs.length=n
structure P5(P:Program)(w:World)(K:PySem.W.Frag)(mg:Str->Option Value)(base:Heap)(cm:Nat->Addr)(c:Nat)(m:Str)(k:Nat)(ps:List Str)(f:Fun)(n:Nat):Prop where
 ex:∃(fa:Addr) (fd:FuncData),FnOk P w K mg base CX0 k fa fd ps (SpF K cm f n)/\aN2 K (cm c) m fa/\L2.Binds K fd ps []
 len:∀vs A v A',f vs A=.ok v A'->vs.length=n
structure aO4(P:Program)(w:World)(K:PySem.W.Frag)(mg:Str->Option Value)(base:Heap)(cm:Nat->Addr)(c:Nat)(x:Str)(k:Nat)(ps:List Str)(f:Fun)(n:Nat):Prop where
 ex:∃(fa:Addr) (fd:FuncData),FnOk P w K mg base CX0 k fa fd ps (SpF K cm f n)/\L2.Mk K (cm c) fa/\mg x=some (.ref (cm c))/\L2.Binds K fd ps []
 len:∀vs A v A',f vs A=.ok v A'->vs.length=n/\v=.non
section
variable{X:Cx}{cm:Nat->Addr}
theorem r_callD{f:Fun}{n k k':Nat}{ps:List Str}{x:Str}{e:Expr}{es:List Expr}{ds:AD}{p pos:Pos}(D:Def X.prog X.w X.K X.mg X.base cm x k ps f n)(hk:k<=k')(hr:Room k' X.A)(hg:Gl X x)
 (ha:PA X (e::es) (EvA X.K cm ds)) (hdb:(x == ("__debug__" : Str))=false:=by decide) (he:starEach (e::es) X.env=(false,eval e X.env)::starEach es X.env:=by exact E5 rfl) (hpl:(backTo pos (starEach es X.env)).any (·.1)=false:=by rfl) :
 PE X (.Call (.Name x p) (e::es) [] pos) (EvE X.K cm (eCall f ds)):=by
 obtain⟨fa,fd,F,hm,hkp,hb⟩:=D.ex
 exact bl7 F D.len (hr.mono hk) hg hm hkp hb ha hdb he hpl
theorem r_methD{c:Nat}{f:Fun}{n k k':Nat}{ps:List Str}{m:Str}{o e:Expr}{es:List Expr}{d:ED}{ds:AD}{apos pos:Pos}{pl:Sem Bool}(D:P5 X.prog X.w X.K X.mg X.base cm c m k ps f n)(hk:k<=k')(hr:Room k' X.A)(hc:Cls X.K (cm c))(ho:PE X o (EvE X.K cm d))(ha:PA X (e::es) (EvA X.K cm ds))(hnm:∀i,i<19->fnm i≠m)
 (hst:starEach (e::es) X.env=(false,eval e X.env)::starEach es X.env:=by exact E5 rfl) (hpl:(backTo pos (starEach es X.env)).any (·.1)=false:=by rfl)
 (ht:eval (.Call (.Attribute o m apos) (e::es) [] pos) X.env=(do
  let ov ←eval o X.env
  standAt apos.atName
  let (f,first) ←holding [ov] (getMethod ov m pl)
  callWith pos f first (backTo pos (starEach (e::es) X.env)) (backToKw pos (keywordEach [] X.env))):=by rfl) :
 PE X (.Call (.Attribute o m apos) (e::es) [] pos) (EvE X.K cm (J5 c f d ds)):=by
 obtain⟨fa,fd,F,hm,hb⟩:=D.ex
 exact bl8 (pl:=pl) ho hc hm F D.len hnm (hr.mono hk) hb ha hst hpl ht
theorem ae7{c:Nat}{f:Fun}{n k k':Nat}{ps:List Str}{x:Str}{e:Expr}{es:List Expr}{ds:AD}{p pos:Pos}(D:aO4 X.prog X.w X.K X.mg X.base cm c x k ps f n)(hk:k+1<=k')(hr:Room k' X.A)
 (hg:Gl X x) (ha:PA X (e::es) (EvA X.K cm ds)) (hdb:(x == ("__debug__" : Str))=false:=by decide) (he:starEach (e::es) X.env=(false,eval e X.env)::starEach es X.env:=by exact E5 rfl) (hpl:(backTo pos (starEach es X.env)).any (·.1)=false:=by rfl) (h7:c<7:=by decide) :
 PE X (.Call (.Name x p) (e::es) [] pos) (EvE X.K cm (ad0 c f ds)):=by
 obtain⟨fa,fd,F,hM,hm,hb⟩:=D.ex
 exact bl9 h7 hM F D.len (hr.mono hk) hg hm hb ha hdb he hpl
theorem aX4{x:Str}{i:Int}{pos:Pos}(hg:Gl X x)(hm:∃t,X.mg x=some (.int i t))(hd:(x == ("__debug__" : Str))=false:=by decide):PE X (.Name x pos) (EvE X.K cm (eK (.int i))):=by
 obtain⟨t,hm⟩:=hm
 exact r_k (aH3 hg hm (show L2.RelV (.int i) (.int i t) from ⟨t,rfl⟩) hd) λ_ _=>.int i
end
structure K4(K:PySem.W.Frag)(mg:Str->Option Value)(cm:Nat->Addr):Prop where
 kit:Kit K
 cls:∀c,c<7->Cls K (cm c)
 na:∀c i,i<19->c<7->NoAttr K (cm c) (fnm i)
 b_len:mg "len" = none
 b_range:mg "range" = none
 b_list:mg "list" = none
 b_sorted:mg "sorted" = none
 b_isinstance:mg "isinstance" = none
 b_int:mg "int" = none
 b_bool:mg "bool" = none
 b_tuple:mg "tuple" = none
 b_enumerate:mg "enumerate" = none
 b_reversed:mg "reversed" = none
 b_max:mg "max" = none
 b_min:mg "min" = none
 b_all:mg "all" = none
 b_any:mg "any" = none
 b_set:mg "set" = none
 b_zip:mg "zip" = none
 b_dict:mg "dict" = none
section
variable{prog:Program}{w:World}{A:Around}{R:Result->Shared->Prop}{s:Shared}
abbrev aJ1(ifs:List Expr)(env:Env):Sem Bool:=forIn ifs true λc r=>if r=true then do let ok ←isTrue c env (eval c env);pure (ForInStep.yield ok) else pure (ForInStep.yield r)
theorem aO5{elt target iter:Expr}{ifs:List Expr}{scope:Scope}{pos:Pos}{it acc:Value}{env:Env}(I:Nat->Shared->Prop)
 (turn:∀n s,I n s->wpAny (model prog w) A (pyNext it) (λr s₁=>match r with
  | none=>R (.ok .next) s₁
  | some v=>wpAny (model prog w) A (letOwnedTupleGo target it v) (λ_ s₀=>wpAny (model prog w) A (assign target env v) (λ_ s₂=>
   wpAny (model prog w) A (aJ1 ifs env) (λok s₃=>
    if ok=true then wpAny (model prog w) A (eval elt env) (λx s₄=>
     wpAny (model prog w) A (call (.builtin "list.append") [acc,x]) (λ_ s₅=>∃m,m<n/\I m s₅) (λ_ _=>False) s₄) (λ_ _=>False) s₃
    else ∃m,m<n/\I m s₃) (λ_ _=>False) s₂) (λ_ _=>False) s₀) (λ_ _=>False) s₁) (λ_ _=>False) s)
 (n:Nat) (h:I n s):codeAny (model prog w) A (.compLoop (.ListComp elt [⟨target,iter,ifs,0⟩] scope pos) 0 it acc env) R s:=by
 have fe:∀{E':Value->Shared->Prop} {e:Value} {s':Shared},False->E' e s':=λh=>h.elim
 refine codeAny_loop rfl I (λn s hI=>?_) n h
 show wpAny _ A ((compTurn (.ListComp elt [⟨target,iter,ifs,0⟩] scope pos) 0 it acc env).onRaise (λx=>do noteFrame x env;theTreesLotGoes x)) _ _ s
 refine wpAny_noted ?_
 rw [compTurn_list]
 refine wpAny_bind (wpAny_standAt (wpAny_bind (wpAny_mono (turn n s hI) (λr s₁ h₁=>?_) λ_ _ h'=>h'.elim)))
 cases r with
 | none=>exact wpAny_pure h₁
 | some v=>
   refine wpAny_bind (wpAny_mono h₁ (λ_ s₀ h₀=>?_) λ_ _ h'=>h'.elim)
   refine wpAny_bind (wpAny_mono h₀ (λ_ s₂ h₂=>wpAny_bind (wpAny_mono h₂ (λok s₃ h₃=>?_) λ_ _ h'=>h'.elim)) λ_ _ h'=>h'.elim)
   cases ok with
   | false=>exact wpAny_pure ⟨rfl,h₃⟩
   | true=>
     exact wpAny_bind (wpAny_bind (wpAny_mono h₃ (λx s₄ h₄=>wpAny_bind (wpAny_mono h₄ (λ_ s₅ h₅=>wpAny_pure (wpAny_pure ⟨rfl,h₅⟩)) λ_ _ h'=>h'.elim)) λ_ _ h'=>h'.elim))
end
def blk(X:Cx)(N:List Str)(scope:Scope)(cl:List (Str×Addr))(C:Addr)(s₀:Shared)(H₀:Hp)(fp:List Addr):Cx where
 prog:=X.prog
 w:=X.w
 K:=X.K
 mg:=X.mg
 base:=X.base
 A:=X.A
 N:=N
 s₀:=s₀
 H₀:=H₀
 env:=compEnvC scope cl C X.env
 outer:=X.stack
 stack:=X.stack
 ex:=fp
 fn:=λ_=>false
 calm:=X.calm
 pn:=[]
 xe:=λ_ _=>False
inductive FreeOk (X:Cx) (scope:Scope) (cl:List (Str×Addr)):List Str->List (Option Nat)->Prop where
 | nil:FreeOk X scope cl [] []
 | own {x:Str} {N:List Str} {js:List (Option Nat)} (h:FreeOk X scope cl N js):FreeOk X scope cl (x::N) (none::js)
 | free {x:Str} {j:Nat} {N:List Str} {js:List (Option Nat)} (h1:X.N[j]?=some x) (h2:X.env.kindOf x=some .cell\/X.env.kindOf x=some .free) (h3:Vis X.env.scope x) (h4:cl.lookup x=X.env.cells.lookup x) (h5:(relabel scope X.env).names.lookup x=some .cell\/(relabel scope X.env).names.lookup x=some .free) (h:FreeOk X scope cl N js):FreeOk X scope cl (x::N) (some j::js)
theorem FreeOk.len{X:Cx}{scope:Scope}{cl:List (Str×Addr)}:∀{N:List Str} {js:List (Option Nat)},FreeOk X scope cl N js->js.length=N.length
 | _,_,.nil=>rfl
 | _,_,.own h=>by simp [h.len]
 | _,_,.free _ _ _ _ _ h=>by simp [h.len]
theorem FreeOk.get{X:Cx}{scope:Scope}{cl:List (Str×Addr)}:∀{N:List Str} {js:List (Option Nat)} {i j:Nat} {x:Str},FreeOk X scope cl N js->N[i]?=some x->js[i]?=some (some j)->X.N[j]?=some x/\(X.env.kindOf x=some .cell\/X.env.kindOf x=some .free)/\Vis X.env.scope x/\cl.lookup x=X.env.cells.lookup x/\((relabel scope X.env).names.lookup x=some .cell\/(relabel scope X.env).names.lookup x=some .free)
 | _,_,_,_,_,.nil,h,_=>by simp at h
 | _,_,0,_,_,.own _,_,h=>by simp at h
 | _,_,i+1,_,_,.own h,h1,h2=>FreeOk.get (i:=i) h (by simpa using h1) (by simpa using h2)
 | _,_,0,_,_,.free a b c d e _,h1,h2=>by simp at h1 h2;subst h1;subst h2;exact⟨a,b,c,d,e⟩
 | _,_,i+1,_,_,.free _ _ _ _ _ h,h1,h2=>FreeOk.get (i:=i) h (by simpa using h1) (by simpa using h2)
theorem aJ2{α:Type}{js:List (Option Nat)}{σ:List (Option α)}{i:Nat}{v:α}(h:(bst js σ)[i]?=some (some v)):∃j,js[i]?=some (some j)/\σ[j]?=some (some v):=by
 unfold bst at h
 rw [List.getElem?_map] at h
 rcases e:js[i]? with _ | (_ | j)
 ·rw [e] at h;cases h
 ·rw [e] at h;cases h
 ·rw [e] at h
  refine⟨j,rfl,?_⟩
  have h':σ.getD j none=some v:=Option.some.inj h
  rw [List.getD_eq_getElem?_getD] at h'
  rcases e2:σ[j]? with _ | o
  ·rw [e2] at h';cases h'
  ·rw [e2] at h';exact congrArg some h'
theorem RSt.bst{ρ:List Addr}{H:Hp}{σp:PSt}{σ:L2.St}(h:RSt ρ H σp σ)(js:List (Option Nat)):RSt ρ H (Ws.bst js σp) (Ws.bst js σ):=by
 refine⟨by simp [Ws.bst],λi p hp=>?_⟩
 obtain⟨j,h1,h2⟩:=aJ2 hp
 obtain⟨v,h3,h4⟩:=h.get j p h2
 refine⟨v,?_,h4⟩
 unfold Ws.bst
 rw [List.getElem?_map,h1]
 show some (σ.getD j none)=_
 rw [List.getD_eq_getElem?_getD,h3];rfl
structure aX5(X:Cx)(scope:Scope)(cl:List (Str×Addr)):Prop where
 kind:scope.kind=.function
 clos:closureFor scope X.env=pure cl
 nocell:∀y∈scope.names,y.2≠.cell
 names:∀y∈scope.names,y.2=.local->scope.names.lookup y.1=some .local
 sub:∀p∈cl,X.env.cells.lookup p.1=some p.2
 has:∀y∈scope.names,y.2=.free->(cl.lookup y.1).isSome=true
theorem ay6{X:Cx}{scope:Scope}{cl:List (Str×Addr)}(S:aX5 X scope cl){x:Str}(h:(relabel scope X.env).names.lookup x=some .cell\/(relabel scope X.env).names.lookup x=some .free):∃c,cl.lookup x=some c:=by
 have key:∀k,(x,k)∈(relabel scope X.env).names->k=.cell\/k=.free->∃c,cl.lookup x=some c:=λk hm hk=>by
  unfold relabel at hm
  obtain⟨⟨n,k'⟩,hy,e⟩:=List.mem_map.mp hm
  dsimp only at e
  have hfree:n=x/\k'=.free:=by
   split at e
   ·rename_i hc
    cases e
    simp only [Bool.and_eq_true,beq_iff_eq] at hc
    exact⟨rfl,hc.1.1⟩
   ·cases e
    rcases hk with rfl | rfl
    ·exact absurd rfl (S.nocell _ hy)
    ·exact⟨rfl,rfl⟩
  obtain⟨rfl,rfl⟩:=hfree
  exact Option.isSome_iff_exists.mp (S.has _ hy rfl)
 rcases h with h | h
 ·exact key _ (PySem.mem_of_lookup h) (.inl rfl)
 ·exact key _ (PySem.mem_of_lookup h) (.inr rfl)
section
variable{X:Cx}{cm:Nat->Addr}{pins:List (Addr×Obj)}{σ:L2.St}{H:Hp}{s:Shared}
theorem aO6{N:List Str}{js:List (Option Nat)}{scope:Scope}{cl:List (Str×Addr)}{C:Addr}{fp:List Addr}{h':Heap}{t':Nat}{m:Str->Option Value}(S:aX5 X scope cl)(Fr:FreeOk X scope cl N js)(I:L2.Inv X pins σ H s)(hf:∀b∈fp,t8 X pins H b)(hfl:∀b∈fp,b<s.heap.objs.size)
 (hC:s.heap.objs.size<=C) (kp:∀b u,s.heap.get? b=some u->h'.get? b=some u) (hns:h'.Ns C m):L2.Inv (blk X N scope cl C s H fp) [] (Ws.bst js σ) H { s with heap:=h',toks:=t' }:=by
 have I1:L2.Inv X pins σ H { s with heap:=h',toks:=t' }:=I.kept kp
 have sub:∀x c,cl.lookup x=some c->X.env.cells.lookup x=some c:=λx c e=>S.sub (x,c) (PySem.mem_of_lookup e)
 refine⟨⟨I.ok.mod,S.kind,I.ok.glob,I.ok.blt,hC,λx y c h1 h2=>I.ok.inj x y c (sub x c h1) (sub y c h2),λx hx=>ay6 S hx,λx c h=>(nomatch h),I.ok.hd,I.ok.frames,.inl rfl,λb hb=>⟨Nat.ne_of_lt (Nat.lt_of_lt_of_le (hfl b hb) hC),λx c e=>(hf b hb).2.2.2.2.1 x c (sub x c e)⟩,
  I.bs,Nat.le_trans I.ok.bsz I.sz,λb o e hb=>?_,λb hb hz=>?_,I.stack,I.stkFree⟩,rfl,I.bare,Un.kept kp,⟨m,hns,λi x v h1 h2 h3=>?_⟩,λx c e=>I1.cell x c (sub x c e),I.hok.fresh hC,λx c e=>I.freeC x c (sub x c e),λp hp=>absurd (show p∈([]:List (Addr×Obj)) from hp) (by simp),I1.hok,by simp [Ws.bst,Fr.len,blk]⟩
 ·rcases (hf b hb).2.2.2.1 with z | z
  ·exact I.ok.noex b o e z
  ·exact absurd (Nat.lt_of_lt_of_le (Heap.lt_size e) (Nat.le_trans I.ok.bsz z)) (Nat.lt_irrefl _)
 ·rcases List.mem_cons.mp (I.stkSub b hz) with z | z
  ·exact (hf b hb).2.1 z
  ·exact (hf b hb).2.2.1 z
 ·obtain⟨j,j1,j2⟩:=aJ2 h2
  obtain⟨a1,a2,a3,a4,a5⟩:=Fr.get h1 j1
  obtain⟨m0,_,hl⟩:=I1.loc
  obtain⟨u,ru,lk⟩:=hl j x v a1 j2 a3
  refine⟨u,ru,?_⟩
  rcases lk with ⟨q,_⟩ | ⟨_,c,e1,e2⟩
  ·rcases a2 with a2 | a2 <;> (rw [a2] at q;cases q)
  ·exact .inr ⟨a5,c,a4.trans e1,e2⟩
theorem bs7{D:Addr}{o:HO}{fp:List Addr}(I:L2.Inv X pins σ H s)(hD:t8 X pins H D)(new:ObjOk X.prog X.w (upd H D o) s.heap D o):L2.Inv X pins σ (upd H D o) s:=by
 have hn:=hD.1
 have ne:∀b u,H b=some u->b≠D:=λb u e z=>by rw [z,hn] at e;cases e
 obtain⟨hp,g,d,tk,os⟩:=s
 refine I.step (g':=g) (d':=d) (t':=tk) (h':=hp) (ch:=[D]) (λb hb=>?_) (λb u _ _ _ e _=>e) (λb u _ _ _ e _=>⟨u.slots,e⟩) (λb u hc e n=>by rw [E4 (λz=>hc (by simp [z]))];exact n) (λb u _ e=>⟨u,e⟩)
  (λb xs e=>by rw [E4 (ne b _ e)];exact e) (λb u xs e=>by rw [E4 (ne b _ e)];exact e) (λb ps e=>⟨#[],by rw [E4 (ne b _ e),e];simp⟩) (λm hm=>hm) (λb u e=>?_) I.bare
 ·have e:b=D:=by simpa using hb
  subst e
  exact⟨hD.2.2.2.1,hD.2.1,hD.2.2.2.2.1,hD.2.2.2.2.2⟩
 ·by_cases hb:b=D
  ·subst hb;rw [D8] at e;cases e;exact new
  ·rw [E4 hb] at e
   exact (I.hok b u e).stay (λc v _ q=>q) (λc q=>by rw [E4 (ne c _ q)];exact q) λc xs q=>by rw [E4 (ne c _ q)];exact q
end
section
variable{X:Cx}{cm:Nat->Addr}
def PTs(X:Cx)(ifs:List Expr)(t:TT):Prop:=
 ∀(pins:List (Addr×Obj)) (s:Shared) (σ:L2.St) (H:Hp) (Q:Bool->Hp->Prop),L2.Inv X pins σ H s->t σ H Q->wpAny (model X.prog X.w) X.A (aJ1 ifs X.env) (TP X pins σ Q) X.xe s
theorem N9:PTs X [] (EvT X.K cm Q4):=λpins s σ H Q I hq=>by
 obtain ⟨ρ,A,σp,b,A',rl,rs,ev,k⟩:=hq
 cases ev
 exact wpAny_tests_nil ⟨H,I,k ρ H (Ext.refl _ _) rl⟩
theorem j8{c:Expr}{t:TD}(h:PT X c (EvT X.K cm t)):PTs X [c] (EvT X.K cm t):=λpins s σ H Q I q=>wpAny_tests_one (h pins s σ H Q I q)
theorem ap8{elt tg iter:Expr}{ifs:List Expr}{scope:Scope}{pos:Pos}{cl:List (Str×Addr)}{N:List Str}{js:List (Option Nat)}{g:GD}{t:TD}{e:ED}{pins:List (Addr×Obj)}{σ:L2.St}{H:Hp}{s:Shared}
 {it:Addr} {fp:List Addr} {tn:Nat->Heap->Prop} {j:L2.It} {J:It} {ρ:List Addr} {A A':PHp} {σp:PSt} {n:Nat} {ys:List PV} {RR:Value->Addr->Result->Shared->Prop} {E:Value->Shared->Prop}
 (hc:X.calm=true) (S:aX5 X scope cl) (Fr:FreeOk X scope cl N js)
 (hg:∀C s0 H0 fp,L2.PG (blk X N scope cl C s0 H0 fp) tg (EvG X.K cm g)) (ht:∀C s0 H0 fp,PTs (blk X N scope cl C s0 H0 fp) ifs (EvT X.K cm t)) (he:∀C s0 H0 fp,PE (blk X N scope cl C s0 H0 fp) elt (EvE X.K cm e))
 (I:L2.Inv X pins σ H s) (T:aC5 X.prog X.w X.K tg j fp it tn) (st:tn 0 s.heap) (hf:∀b∈fp,t8 X pins H b) (rj:RIt X.K ρ H J j) (rl:Rel X.K cm ρ A H) (rs:RSt ρ H σp σ)
 (ev:d7 J g t e (n+1) 0 (Ws.bst js σp) A=.ok ys A') (hy:ys.length<=LIM)
 (hRR:∀D C s' m,s'.heap.Ns C m->C≠X.env.locals->(∀h'',Heap.SameBut C s'.heap h''->∃ρ' H',Ext ρ H ρ' H'/\Rel X.K cm ρ' (A'++[.lst ys]) H'/\ρ'[A'.length]?=some D/\L2.Inv X pins σ H' { s' with heap:=h'' }/\t8 X pins H' C)->RR (.ref D) C (.ok .next) s') :
 wpAny (model X.prog X.w) X.A (newList []) (λacc s₃=>wpAny (model X.prog X.w) X.A (newFunctionEnv scope X.env.globals cl [] X.env.qual none .none (some X.env)) (λcenv s₄=>
  codeAny (model X.prog X.w) X.A (.compStart (.ListComp elt [⟨tg,iter,ifs,0⟩] scope pos) 0 (.ref it) acc { cenv with scope:=relabel scope X.env }) (RR acc cenv.locals) s₄) E s₃) E s:=by
 refine wpAny_newObj_type (wpAny_newFunctionEnv S.nocell (by intro y hy;simp at hy) (λh₁ hns₁ hsb₁=>?_) S.kind)
 dsimp only at hns₁ hsb₁ ⊢
 generalize hH2:s.heap.push { cls:=.type "list",dict:=none,data:=.seq ([]:List Value).toArray }=H2 at hns₁ hsb₁ ⊢
 have hCz:H2.objs.size=s.heap.objs.size+1:=by rw [←hH2,Heap.size_push]
 have hfl:∀b∈fp,b<s.heap.objs.size:=λb hb=>by
  obtain⟨o,ho,_⟩:=T.obj 0 _ st b hb
  exact Heap.lt_size ho
 have hDC:s.heap.objs.size≠H2.objs.size:=by rw [hCz];exact Nat.ne_of_lt (Nat.lt_succ_self _)
 have hCle:s.heap.objs.size<=H2.objs.size:=by rw [hCz];exact Nat.le_succ _
 have old:∀b o,s.heap.get? b=some o->h₁.get? b=some o:=λb o q=>hsb₁.extBut b o (by rw [hCz];exact Nat.ne_of_lt (Nat.lt_succ_of_lt (Heap.lt_size q))) (Heap.get?_push_of_some _ (hH2 ▸ Heap.get?_push_of_some _ q))
 have hacc:h₁.PlainList s.heap.objs.size #[]:=⟨_,hsb₁.extBut _ _ hDC (Heap.get?_push_of_some _ (hH2 ▸ Heap.get?_push_size _ rfl))⟩
 generalize hDe:s.heap.objs.size=D at *
 generalize hCe:H2.objs.size=C at *
 let Y:=blk X N scope cl C s H fp
 have hDfp:∀b∈fp,b≠D:=λb hb=>Nat.ne_of_lt (hfl b hb)
 have lt_of:∀b o,s.heap.get? b=some o->b<D:=λb o q=>by rw [←hDe];exact Heap.lt_size q
 have nD:D∉frs X.stack:=λz=>by
  obtain⟨_,o,ho,_⟩:=I.stack.mem z
  exact Nat.lt_irrefl _ (lt_of _ _ ho)
 have cellD:∀x c,X.env.cells.lookup x=some c->c<D:=λx c q=>by
  obtain⟨v,o,ho,_⟩:=I.cell x c q
  exact lt_of _ _ ho
 have subc:∀x c,cl.lookup x=some c->X.env.cells.lookup x=some c:=λx c q=>S.sub (x,c) (PySem.mem_of_lookup q)
 have fpY:∀(ps:List (Addr×Obj)) (H':Hp),(∀p∈ps,∀b∈fp,p.1≠b)->(∀b∈fp,H' b=none)->∀b∈fp,t8 Y ps H' b:=λps H' hps hn b hb=>
  ⟨hn b hb,Nat.ne_of_lt (Nat.lt_of_lt_of_le (hfl b hb) hCle),λhz=>(List.mem_cons.mp (I.stkSub b hz)).elim (hf b hb).2.1 (hf b hb).2.2.1,.inl hb,λx c q=>(hf b hb).2.2.2.2.1 x c (subc x c q),λp hp=>hps p (by simpa [Y,blk] using hp) b hb⟩
 have I0:L2.Inv Y [] (Ws.bst js σ) H { s with heap:=h₁,toks:=s.toks+([]:List (Str×Value)).length }:=aO6 S Fr I hf (λb hb=>by rw [hDe];exact hfl b hb) (by rw [hDe];exact hCle) old hns₁
 have st1:tn 0 h₁:=T.keep 0 _ _ st λb hb o q=>old b o q
 have loop:∀s₃:Shared,s₃={ s with heap:=h₁,toks:=s.toks+([]:List (Str×Value)).length }->
  codeAny (model X.prog X.w) X.A (.compLoop (.ListComp elt [⟨tg,iter,ifs,0⟩] scope pos) 0 (.ref it) (.ref D) (compEnvC scope cl C X.env)) (RR (.ref D) C) s₃:=by
  rintro s₃ rfl
  refine aO5 (λm s'=>∃i σ' H' ρ' B σp' rest accp accv its,L2.Inv Y [] σ' H' s'/\tn i s'.heap/\(∀b∈fp,H' b=none)/\Ext ρ H ρ' H'/\Rel X.K cm ρ' B H'/\RSt ρ' H' σp' σ'/\d7 J g t e (m+1) i σp' B=.ok rest A'/\
   s'.heap.PlainList D (List.toArray its)/\H' D=none/\Vals accv its/\RVs ρ' H' accp accv/\accp++rest=ys) ?_ n ⟨0,_,H,ρ,A,Ws.bst js σp,ys,[],[],[],I0,st1,λb hb=>(hf b hb).1,Ext.refl _ _,rl,rs.bst js,ev,hacc,by rw [←hDe];exact I.hok.fresh (Nat.le_refl _),.nil,.nil,rfl⟩
  rintro m s' ⟨i,σ',H',ρ',B,σp',rest,accp,accv,its,I1,st',fn',x1,rl1,rs1,ev1,pl,hDn,va,ra,hys⟩
  obtain⟨nD0,hDo⟩:=id pl
  have dD:∀v,({ cls:=.type "list",data:=.seq its.toArray nD0 }:Obj).data≠.cell v:=λv z=>nomatch z
  have I2:L2.Inv Y [(D,{ cls:=.type "list",data:=.seq its.toArray nD0 })] σ' H' s':=I1.pins_of λp hp=>by
   have e:p=(D,{ cls:=.type "list",data:=.seq its.toArray nD0 }):=by simpa using hp
   subst e
   exact⟨hDo,hDn,hDC,nD,dD⟩
  have f2:=fpY [(D,{ cls:=.type "list",data:=.seq its.toArray nD0 })] H' (λp hp b hb=>by
   have e:p=(D,{ cls:=.type "list",data:=.seq its.toArray nD0 }):=by simpa using hp
   subst e
   exact (hDfp b hb).symm) fn'
  rw [Y6] at ev1
  obtain⟨x,B1,e1,ev2⟩:=B0 ev1
  obtain⟨rfl,hit⟩:=aI7 rl1 (rj.mono x1) e1
  cases x with
  | none=>
    cases ev2
    rw [List.append_nil] at hys
    subst hys
    refine thn (T.done Y rfl rfl rfl hc i _ s' σ' H' (λ_ _=>False) I2 f2 st' hit) λr s1 ⟨hr,I3⟩=>?_
    subst hr
    have hD3:=I3.pin (D,{ cls:=.type "list",data:=.seq its.toArray nD0 }) (by simp)
    obtain⟨mC,hnC,_⟩:=id I3.loc
    refine hRR D C s1 mC hnC (λz=>?_) λh2 sb=>?_
    ·have:=I.lt
     rw [←z,hDe] at this
     exact absurd (Nat.lt_of_lt_of_le this hCle) (Nat.lt_irrefl _)
    ·have ch:∀b∈fp,(b∈X.ex\/X.s₀.heap.objs.size<=b)/\b≠X.env.locals/\(∀x c,X.env.cells.lookup x=some c->c≠b)/\∀p∈X.pn++pins,p.1≠b:=λb hb=>⟨(hf b hb).2.2.2.1,(hf b hb).2.1,(hf b hb).2.2.2.2.1,(hf b hb).2.2.2.2.2⟩
     have IX:L2.Inv X pins σ H' s1:=I.call' I3.os I3.base I3.hok I3.bare ch
     have fpn:∀(H'':Hp) b,D<=b->H'' b=none->t8 X pins H'' b:=λH'' b hb hn=>by
      rw [←hDe] at hb
      exact I.fpOk (H':=H'') hb hn
     have IX2:L2.Inv X pins σ H' { s1 with heap:=h2 }:=IX.turned (t':=s1.toks) (λb o hb q=>(sb.2 b hb).trans q) I3.free (fpn H' C hCle I3.free).2.1 (fpn H' C hCle I3.free).2.2.2.1 (fpn H' C hCle I3.free).2.2.2.2.1 (fpn H' C hCle I3.free).2.2.2.2.2
     have hlen:accv.length<=sizeLine:=by rw [←ra.length];exact X2 hy
     have IX3:L2.Inv X pins σ (upd H' D (.lst accv)) { s1 with heap:=h2 }:=bs7 (fp:=fp) IX2 (fpn H' D (Nat.le_refl _) hDn) ⟨hlen,its,nD0,va,(sb.2 D hDC).trans hD3.1⟩
     have ex:Ext ρ' H' (ρ'++[D]) (upd H' D (.lst accv)):=Ext.new hDn
     refine⟨ρ'++[D],upd H' D (.lst accv),x1.trans ex,rl1.alloc hDn ⟨accv,D8,ra.mono ex⟩ rfl,by rw [←rl1.len];simp,IX3,fpn _ C hCle ?_⟩
     rw [E4 (Ne.symm hDC)];exact I3.free
  | some v=>
    refine thn (T.item Y rfl rfl rfl hc i _ s' σ' H' (λ_ _=>False) I2 f2 st' hit.1) λr s1 ⟨u,hr,h4⟩=>?_
    subst hr
    refine thn h4 λ_ s2 ⟨xv,H3,I3,ru,hyl,st3,fn3⟩=>?_
    obtain⟨x2,rl3,rv3⟩:=hit.2 xv H3 hyl
    have f3:=fpY [(D,{ cls:=.type "list",data:=.seq its.toArray nD0 })] H3 (λp hp b hb=>by
     have e:p=(D,{ cls:=.type "list",data:=.seq its.toArray nD0 }):=by simpa using hp
     subst e
     exact (hDfp b hb).symm) fn3
    have I4:=I3.pinned f3 (T.obj _ _ st3)
    obtain⟨σ4,B4,e4,ev3⟩:=B0 ev2
    obtain⟨b5,B5,e5,ev4⟩:=B0 ev3
    refine thn (hg C s H fp _ s2 σ' H3 xv u (λσ5 H5=>∃ρ5,Ext ρ' H3 ρ5 H5/\Rel X.K cm ρ5 B4 H5/\RSt ρ5 H5 σ4 σ5) I4 ru ⟨ρ',B1,σp',v,σ4,B4,rl3,rs1.mono x2,rv3,e4,λρ5 H5 σ5 x5 rl5 rs5=>⟨ρ5,x5,rl5,rs5⟩⟩) λ_ s5 ⟨σ5,H5,I5,ρ5,x5,rl5,rs5⟩=>?_
    refine thn (ht C s H fp _ s5 σ5 H5 (λb H6=>b=b5/\∃ρ6,Ext ρ5 H5 ρ6 H6/\Rel X.K cm ρ6 B5 H6) I5 ⟨ρ5,B4,σ4,b5,B5,rl5,rs5,e5,λρ6 H6 x6 rl6=>⟨rfl,ρ6,x6,rl6⟩⟩) λok s6 ⟨H6,I6,hok,ρ6,x6,rl6⟩=>?_
    subst hok
    have x16:Ext ρ' H' ρ6 H6:=(x2.trans x5).trans x6
    have unpin:∀{σ7:L2.St} {H7:Hp} {s7:Shared},L2.Inv Y ([(D,{ cls:=.type "list",data:=.seq its.toArray nD0 })]++af1 fp s2.heap) σ7 H7 s7->(s7.heap.get? D=some { cls:=.type "list",data:=.seq its.toArray nD0 }/\H7 D=none)/\(∀b∈fp,H7 b=none)/\(∀b∈fp,∀o,s2.heap.get? b=some o->s7.heap.get? b=some o):=λ{σ7 H7 s7} I7=>by
     have p1:=I7.pin (D,{ cls:=.type "list",data:=.seq its.toArray nD0 }) (List.mem_append_right _ (List.mem_append_left _ (by simp)))
     refine⟨⟨p1.1,p1.2.1⟩,λb hb=>?_,λb hb o q=>?_⟩
     ·obtain⟨o,q,_⟩:=T.obj _ _ st3 b hb
      exact (I7.pin (b,o) (List.mem_append_right _ (List.mem_append_right _ (d3 hb q)))).2.1
     ·exact (I7.pin (b,o) (List.mem_append_right _ (List.mem_append_right _ (d3 hb q)))).1
    have bare0:∀{ps:List (Addr×Obj)} {σ7:L2.St} {H7:Hp} {s7:Shared},L2.Inv Y ps σ7 H7 s7->L2.Inv Y [] σ7 H7 s7:=λI7=>I7.pins_of λp hp=>absurd hp (by simp)
    cases ok with
    | false=>
      rw [if_neg (by simp)]
      rw [if_neg (by simp)] at ev4
      cases m with
      | zero=>rw [ad2] at ev4;cases ev4
      | succ m=>
        obtain⟨⟨u1,u2⟩,u3,u4⟩:=unpin I6
        exact⟨m,Nat.lt_succ_self _,i+1,σ5,H6,ρ6,B5,σ4,rest,accp,accv,its,bare0 I6,T.keep _ _ _ st3 u4,u3,x1.trans x16,rl6,rs5.mono x6,ev4,⟨nD0,u1⟩,u2,va,ra.mono x16,hys⟩
    | true=>
      rw [if_pos rfl]
      rw [if_pos rfl] at ev4
      obtain⟨y,B7,e7,ev5⟩:=B0 ev4
      obtain⟨more,B8,e8,ev6⟩:=B0 ev5
      cases ev6
      refine thn (he C s H fp _ s6 σ5 H6 (λyv H7=>∃ρ7,Ext ρ6 H6 ρ7 H7/\Rel X.K cm ρ7 B7 H7/\RV ρ7 H7 y yv) I6 ⟨ρ6,B5,σ4,y,B7,rl6,rs5.mono x6,e7,λρ7 H7 yv x7 rl7 rv7=>⟨ρ7,x7,rl7,rv7⟩⟩) λyu s7 ⟨yv,H7,I7,ry,ρ7,x7,rl7,rv7⟩=>?_
      obtain⟨⟨u1,u2⟩,u3,u4⟩:=unpin I7
      have hlen:its.length<=sizeLine:=by
       rw [←va.length,←ra.length]
       refine X2 (Nat.le_trans ?_ hy)
       rw [←hys,List.length_append];exact Nat.le_add_right _ _
      refine wpAny_list_append_plain (items:=its.toArray) ⟨nD0,u1⟩ (λh8 pl8 sb8=>?_) (by rw [List.size_toArray];exact hlen)
      have I8:L2.Inv Y [] σ5 H7 { s7 with heap:=h8 }:=(bare0 I7).turned (t':=s7.toks) (λb o hb q=>(sb8.2 b hb).trans q) u2 hDC (.inr (by show s.heap.objs.size<=D;rw [hDe];exact Nat.le_refl _)) (λx c q=>Nat.ne_of_lt (cellD x c (subc x c q))) (λp hp=>absurd (show p∈([]:List (Addr×Obj)) from hp) (by simp))
      cases m with
      | zero=>rw [ad2] at e8;cases e8
      | succ m=>
        have x17:=x16.trans x7
        refine⟨m,Nat.lt_succ_self _,i+1,σ5,H7,ρ7,B7,σ4,more,accp++[y],accv++[yv],its++[yu],I8,T.keep _ _ _ st3 λb hb o q=>(sb8.2 b (hDfp b hb)).trans (u4 b hb o q),u3,x1.trans x17,rl7,(rs5.mono x6).mono x7,e8,by simpa using pl8,u2,va.append (.cons ry .nil),(ra.mono x17).append (.cons rv7 .nil),by rw [←hys];simp⟩
 exact codeAny_compStart_list (loop _ rfl) (T.self X.A 0 _ _ _ st1 (loop _ rfl))
theorem M0{elt tg iter:Expr}{ifs:List Expr}{scope:Scope}{pos:Pos}{cl:List (Str×Addr)}{N:List Str}(js:List (Option Nat)){it:ID}{g:GD}{t:TD}{e:ED}(hc:X.calm=true)(S:aX5 X scope cl)(Fr:FreeOk X scope cl N js)(hi:L2.PI X tg iter (EvI X.K cm it))
 (hg:∀C s0 H0 fp,L2.PG (blk X N scope cl C s0 H0 fp) tg (EvG X.K cm g)) (ht:∀C s0 H0 fp,PTs (blk X N scope cl C s0 H0 fp) ifs (EvT X.K cm t)) (he:∀C s0 H0 fp,PE (blk X N scope cl C s0 H0 fp) elt (EvE X.K cm e))
 (hs:∀x,foldedSetIterable iter X.env x=pure x:=by intro _;rfl):PE X (.ListComp elt [⟨tg,iter,ifs,0⟩] scope pos) (EvE X.K cm (K5 it (Ws.bst js) g t e)):=by
 intro pins s σ H Q I ⟨ρ,A,σp,v,A',rl,rs,ev,k⟩
 obtain⟨J,A1,e1,ev1⟩:=B0 ev
 obtain⟨n,A2,e2,ev2⟩:=B0 ev1
 obtain rfl:=ab3 e2
 obtain⟨ys,A3,e3,ev3⟩:=B0 ev2
 obtain⟨c,ev4⟩:=C8 ev3
 cases ev4
 rw [eval_ListComp]
 refine wpAny_comprehension_free (use:=none) rfl hs S.clos S.kind S.names (wpAny_mono (hi pins s σ H (λj H1=>∃ρ1,Ext ρ H ρ1 H1/\Rel X.K cm ρ1 A2 H1/\RIt X.K ρ1 H1 J j) I ⟨ρ,A,σp,J,A2,rl,rs,e1,λρ1 H1 j x1 rl1 rj=>⟨ρ1,x1,rl1,rj⟩⟩) (λxv s1 h1=>wpAny_mono h1 (λitv s2 h2=>?_) λ_ _ z=>z) λ_ _ z=>z)
 obtain⟨itA,fp,tn,j,H1,rfl,I1,T,st,hf,ρ1,x1,rl1,rj⟩:=h2
 refine ap8 (RR:=λacc C=>compPost (model X.prog X.w) X.A X.xe none (EP X pins σ Q) acc C) hc S Fr hg ht he I1 T st hf rj rl1 (rs.mono x1) e3 c λD C s' m hn hCL hfin=>⟨m,hn,λh'' sb=>?_⟩
 obtain⟨ρ2,H2,x2,rl2,hD,I2,_⟩:=hfin h'' sb
 exact⟨.ref D,H2,I2,rfl,k ρ2 H2 _ (x1.trans x2) rl2 (.ref hD)⟩
theorem ai2{elt tg iter:Expr}{ifs:List Expr}{scope:Scope}{pos spos py:Pos}{y:Str}{i:Nat}{cl:List (Str×Addr)}{N:List Str}(js:List (Option Nat)){it:ID}{g:GD}{t:TD}{e:ED}(hc:X.calm=true)(S:aX5 X scope cl)(Fr:FreeOk X scope cl N js)(hi:L2.PI X tg iter (EvI X.K cm it))
 (hg:∀C s0 H0 fp,L2.PG (blk X N scope cl C s0 H0 fp) tg (EvG X.K cm g)) (ht:∀C s0 H0 fp,PTs (blk X N scope cl C s0 H0 fp) ifs (EvT X.K cm t)) (he:∀C s0 H0 fp,PE (blk X N scope cl C s0 H0 fp) elt (EvE X.K cm e))
 (hN:X.N.Nodup) (hiy:X.N[i]?=some y) (hy:L2.Loc X.env.scope y)
 (hsw:swapsWith (.ListComp elt [⟨tg,iter,ifs,0⟩] scope pos) (some (.Name y py)) spos.line X.env=pure true:=by rfl)
 (hfn:X.fn y=true\/X.env.scope.names.lookup y=some .local:=by first | exact .inl rfl | exact .inr rfl)
 (hs:∀x,foldedSetIterable iter X.env x=pure x:=by intro _;rfl):PS X (.Assign [.Name y py] (.ListComp elt [⟨tg,iter,ifs,0⟩] scope pos) spos) (EvS X.K cm (N4 (K5 it (Ws.bst js) g t e) (gName i))):=by
 intro pins s σ H Dn I ⟨ρ,A,σp,fl,A',rl,rs,ev,k⟩
 obtain⟨v,A0,e0,ev0⟩:=B0 ev
 obtain⟨σ1,A9,e9,ev9⟩:=B0 ev0
 cases e9
 cases ev9
 obtain⟨J,A1,e1,ev1⟩:=B0 e0
 obtain⟨n,A2,e2,ev2⟩:=B0 ev1
 obtain rfl:=ab3 e2
 obtain⟨ys,A3,e3,ev3⟩:=B0 ev2
 obtain⟨c,ev4⟩:=C8 ev3
 cases ev4
 rw [exec_Assign_Name_used _ _ _ _ hsw]
 refine wpAny_bind (wpAny_standAt (wpAny_bind ?_))
 show wpAny _ X.A (do let _ ←comprehension (.ListComp elt [⟨tg,iter,ifs,0⟩] scope pos) scope X.env _ (newList []) false (eval iter X.env) (some (assign (.Name y py) X.env))) _ _ s
 refine wpAny_bind (wpAny_mono (wpAny_comprehension_free (use:=some (assign (.Name y py) X.env)) (Q:=λ_ s'=>SP X pins Dn .next s') rfl hs S.clos S.kind S.names (wpAny_mono (hi pins s σ H (λj H1=>∃ρ1,Ext ρ H ρ1 H1/\Rel X.K cm ρ1 A2 H1/\RIt X.K ρ1 H1 J j) I ⟨ρ,A,σp,J,A2,rl,rs,e1,λρ1 H1 j x1 rl1 rj=>⟨ρ1,x1,rl1,rj⟩⟩) (λxv s1 h1=>wpAny_mono h1 (λitv s2 h2=>?_) λ_ _ z=>z) λ_ _ z=>z)) (λ_ s' hq=>wpAny_pure (wpAny_pure hq)) λ_ _ z=>z)
 obtain⟨itA,fp,tn,j,H1,rfl,I1,T,st,hf,ρ1,x1,rl1,rj⟩:=h2
 refine ap8 (RR:=λacc C=>compPost (model X.prog X.w) X.A X.xe (some (assign (.Name y py) X.env)) (λ_ s'=>SP X pins Dn .next s') acc C) hc S Fr hg ht he I1 T st hf rj rl1 (rs.mono x1) e3 c λD C s' m hn hCL hfin=>?_
 show wpAny _ X.A (assign (.Name y py) X.env (.ref D)) _ _ _
 obtain⟨ρ2,H2,x2,rl2,hD,I2,fC⟩:=hfin s'.heap (.refl ..)
 obtain⟨oC,es,ep,hoC,hdC,rC⟩:=id hn
 have I3:L2.Inv X (pins++[(C,oC)]) σ H2 s':=L2.Inv.pins_of (I:=I2) λp hp=>by
  rcases List.mem_append.mp hp with hp | hp
  ·exact I2.pin p (List.mem_append_right _ hp)
  ·have e:p=(C,oC):=by simpa using hp
   subst e
   exact⟨hoC,fC.1,fC.2.1,fC.2.2.1,λv z=>by rw [hdC] at z;cases z⟩
 refine wpAny_assign_Name (ae9 I3 hN hiy hy (show L2.RelV (.ref D) (.ref D) from rfl) (λs3 I4=>?_) hfn)
 have pC:=I4.pin (C,oC) (by simp)
 refine⟨m,⟨oC,es,ep,pC.1,hdC,rC⟩,λh4 sb=>?_⟩
 have I5:L2.Inv X pins (σ.set i (some (.ref D))) H2 s3:=I4.pins_of λp hp=>I4.pin p (List.mem_append_right _ (List.mem_append_left _ hp))
 have I6:L2.Inv X pins (σ.set i (some (.ref D))) H2 { s3 with heap:=h4 }:=I5.turned (t':=s3.toks) (λb o hb q=>(sb.2 b hb).trans q) fC.1 fC.2.1 fC.2.2.2.1 fC.2.2.2.2.1 fC.2.2.2.2.2
 exact⟨σ.set i (some (.ref D)),H2,I6,k ρ2 H2 (x1.trans x2) rl2 _ (((rs.mono x1).mono x2).set i (.ref hD))⟩
end
theorem fa_nil{α:Type}{P:α->Prop}:∀x∈([]:List α),P x:=λ_ h=>nomatch h
theorem fa_cons{α:Type}{P:α->Prop}{a:α}{l:List α}(h:P a)(r:∀x∈l,P x):∀x∈a::l,P x:=λx hx=>(List.mem_cons.mp hx).elim (λe=>e ▸ h) (r x)
end Ws
namespace Ws
open PySem PySem.W PyProof.Rows L2
def wpk{α:Type}(n:Nat)(lt:Nat->Nat->Bool):KasT α->(α->Prop)->Prop
 | .ret a,Q=>Q a
 | .ask i j k,Q=>i<n/\j<n/\wpk n lt (k (lt i j)) Q
theorem b6{α β:Type}{n:Nat}{lt:Nat->Nat->Bool}{f:α->KasT β}{Q:β->Prop}:∀{t:KasT α},wpk n lt t (λa=>wpk n lt (f a) Q)->wpk n lt (t.bind f) Q
 | .ret _,h=>h
 | .ask _ _ k,⟨h1,h2,h3⟩=>⟨h1,h2,b6 (t:=k _) h3⟩
theorem aJ3{α:Type}{n:Nat}{lt:Nat->Nat->Bool}{cmp:Nat->Nat->(Bool->Shared->Prop)->Shared->Prop}{G:α->Shared->Prop}{s:Shared}(hc:∀i j C,i<n->j<n->C (lt i j) s->cmp i j C s):∀{t:KasT α} {Q:α->Prop},wpk n lt t Q->(∀a,Q a->G a s)->t.kasWp cmp G s
 | .ret a,Q,h,hq=>hq a h
 | .ask i j k,Q,⟨h1,h2,h3⟩,hq=>hc i j _ h1 h2 (aJ3 hc (t:=k _) h3 hq)
section
variable{n:Nat}{α:Type}{key:Nat->α}{lt:Nat->Nat->Bool}
structure Ord(key:Nat->α)(lt:Nat->Nat->Bool):Prop where
 asym:∀a b,lt a b=true->lt b a=false
 tr:∀a b c,lt b a=false->lt c b=false->lt c a=false
 tot:∀a b,lt a b=false->lt b a=false->key a=key b
 cong:∀a b c d,key a=key b->key c=key d->lt a c=lt b d
structure Pm(n:Nat)(p:Array Nat):Prop where
 size:p.size=n
 perm:p.Perm (List.toArray (List.range n))
theorem Pm.bd{p:Array Nat}(h:Pm n p)(hn:0<n)(i:Nat):p.getD i 0<n:=by
 by_cases hi:i<p.size
 ·have e:p.getD i 0=p[i]:=by simp [Array.getD,hi]
  rw [e]
  have hm:p[i]∈p.toList:=by simp
  have:=(Array.perm_iff_toList_perm.mp h.perm).mem_iff.mp hm
  simpa using this
 ·have e:p.getD i 0=0:=by simp [Array.getD,hi]
  rw [e];exact hn
theorem w6{p q:Array Nat}{i j:Nat}(h:p[i]?=q[j]?):p.getD i 0=q.getD j 0:=by
 rw [Array.getD_eq_getD_getElem?,Array.getD_eq_getD_getElem?,h]
theorem Pm.rev{p:Array Nat}(h:Pm n p)(i j:Nat):Pm n (kas_rev p i j):=⟨by unfold kas_rev;rw [mirror_size];exact h.size,(mirror_perm _ _ _ _).trans h.perm⟩
theorem aF2{p:Array Nat}{i j:Nat}(hj:j<=p.size)(k:Nat):(kas_rev p i j).getD k 0=if i<=k/\k<j then p.getD (i+j - 1 - k) 0 else p.getD k 0:=by
 have e:=getElem?_mirror_all (xs:=p) (i:=i) hj k
 unfold kas_rev
 by_cases h:i<=k/\k<j
 ·rw [if_pos h] at e ⊢;exact w6 e
 ·rw [if_neg h] at e ⊢;exact w6 e
theorem Pm.bub{p:Array Nat}(h:Pm n p)(i d:Nat):Pm n (bubble p i d):=⟨by rw [bubble_size];exact h.size,(bubble_perm _ _ _).trans h.perm⟩
theorem aX6{p:Array Nat}{src d:Nat}(hs:src<p.size)(hd:d<=src)(k:Nat):(bubble p src d).getD k 0=if k=src - d then p.getD src 0 else if src - d<k/\k<=src then p.getD (k - 1) 0 else p.getD k 0:=by
 have e:=getElem?_bubble hs d hd k
 by_cases h1:k=src - d
 ·rw [if_pos h1] at e ⊢;exact w6 e
 ·rw [if_neg h1] at e ⊢
  by_cases h2:src - d<k/\k<=src
  ·rw [if_pos h2] at e ⊢;exact w6 e
  ·rw [if_neg h2] at e ⊢;exact w6 e
def Inc(lt:Nat->Nat->Bool)(p:Array Nat)(m:Nat):Prop:=∀i j,i<=j->j<m->lt (p.getD j 0) (p.getD i 0)=false
def Dec(lt:Nat->Nat->Bool)(p:Array Nat)(m:Nat):Prop:=∀i j,i<=j->j<m->lt (p.getD i 0) (p.getD j 0)=false
variable(O:Ord key lt)(hn:0<n)
include O hn
theorem Ord.irr(a:Nat):lt a a=false:=by
 cases h:lt a a with
 | false=>rfl
 | true=>have:=O.asym a a h;rw [h] at this;exact this
theorem aX7{p:Array Nat}{m:Nat}(h:Inc lt p m)(h1:m=0\/lt (p.getD m 0) (p.getD (m - 1) 0)=false):Inc lt p (m+1):=λi j hij hj=>by
 by_cases e:j=m
 ·subst e
  by_cases e2:i=j
  ·subst e2;exact O.irr hn _
  ·rcases h1 with h1 | h1
   ·omega
   ·exact O.tr _ _ _ (h i (j - 1) (by omega) (by omega)) h1
 ·exact h i j hij (by omega)
theorem j9{p:Array Nat}{m:Nat}(h:Dec lt p m)(h1:m=0\/lt (p.getD (m - 1) 0) (p.getD m 0)=false):Dec lt p (m+1):=λi j hij hj=>by
 by_cases e:j=m
 ·subst e
  by_cases e2:i=j
  ·subst e2;exact O.irr hn _
  ·rcases h1 with h1 | h1
   ·omega
   ·exact O.tr _ _ _ h1 (h i (j - 1) (by omega) (by omega))
 ·exact h i j hij (by omega)
theorem aX8{p:Array Nat}(hp:Pm n p){Q:Nat->Prop}:∀f m,1<=m->Inc lt p m->(∀m',m<=m'->m'<=m+f->Inc lt p m'->(m'<m+f->lt (p.getD m' 0) (p.getD (m' - 1) 0)=true)->Q m')->wpk n lt (kas_asc p f m) Q
 | 0,m,_,hi,h=>h m (Nat.le_refl _) (Nat.le_refl _) hi λz=>by omega
 | f+1,m,h1,hi,h=>by
   refine⟨hp.bd hn m,hp.bd hn (m - 1),?_⟩
   cases hc:lt (p.getD m 0) (p.getD (m - 1) 0) with
   | true=>exact h m (Nat.le_refl _) (by omega) hi λ_=>hc
   | false=>
     simp only [Bool.false_eq_true,if_false]
     exact aX8 hp f (m+1) (by omega) (aX7 O hn hi (.inr hc)) λm' a b c d=>h m' (by omega) (by omega) c λz=>d (by omega)
theorem ai3{p:Array Nat}{i j:Nat}(hj:j<=p.size)(he:∀k,i<=k->k<j->key (p.getD k 0)=key (p.getD (j - 1) 0))(k:Nat):key ((kas_rev p i j).getD k 0)=key (p.getD k 0):=by
 rw [aF2 hj]
 by_cases h:i<=k/\k<j
 ·rw [if_pos h,he (i+j - 1 - k) (by omega) (by omega),he k h.1 h.2]
 ·rw [if_neg h]
theorem ai4{p q:Array Nat}{m:Nat}(h:∀k,key (p.getD k 0)=key (q.getD k 0))(hd:Dec lt q m):Dec lt p m:=λi j hij hj=>by rw [O.cong _ _ _ _ (h i) (h j)];exact hd i j hij hj
def Eqs(key:Nat->α)(p:Array Nat)(m q:Nat):Prop:=q+1<=m/\∀k,m - (q+1)<=k->k<m->key (p.getD k 0)=key (p.getD (m - 1) 0)
omit O hn in
theorem bm1{p:Array Nat}{m:Nat}(h:1<=m):Eqs key p m 0:=⟨h,λk h1 h2=>by rw [show k=m - 1 by omega]⟩
theorem au4{Q:Array Nat×Nat×Nat->Prop}:∀f (p:Array Nat) m q,Pm n p->m+f<=n->Dec lt p m->Eqs key p m q->(∀p' m' q',Pm n p'->m<=m'->m'<=m+f->Dec lt p' m'->Eqs key p' m' q'->Q (p',m',q'))->wpk n lt (kas_desc f p m q) Q
 | 0,p,m,q,hp,hmf,hd,he,h=>h p m q hp (Nat.le_refl _) (Nat.le_refl _) hd he
 | f+1,p,m,q,hp,hmf,hd,he,h=>by
   refine⟨hp.bd hn m,hp.bd hn (m - 1),?_⟩
   have h1:=he.1
   cases hc:lt (p.getD m 0) (p.getD (m - 1) 0) with
   | true=>
     simp only [if_true]
     by_cases hq:q > 0
     ·rw [if_pos hq]
      have hs:=ai3 O hn (p:=p) (i:=m - (q+1)) (j:=m) (by rw [hp.size];omega) he.2
      refine au4 f _ (m+1) 0 (hp.rev _ _) (by omega) ?_ (bm1 (by omega)) λp' m' q' a b c d e=>h p' m' q' a (by omega) (by omega) d e
      exact ai4 O hn hs (j9 O hn hd (.inr (O.asym _ _ hc)))
     ·rw [if_neg hq]
      exact au4 f p (m+1) 0 hp (by omega) (j9 O hn hd (.inr (O.asym _ _ hc))) (bm1 (by omega)) λp' m' q' a b c d e=>h p' m' q' a (by omega) (by omega) d e
   | false=>
     simp only [Bool.false_eq_true,if_false]
     refine⟨hp.bd hn (m - 1),hp.bd hn m,?_⟩
     cases hc2:lt (p.getD (m - 1) 0) (p.getD m 0) with
     | true=>exact h p m q hp (Nat.le_refl _) (by omega) hd he
     | false=>
       simp only [Bool.false_eq_true,if_false]
       refine au4 f p (m+1) (q+1) hp (by omega) (j9 O hn hd (.inr hc2)) ⟨by omega,λk k1 k2=>?_⟩ λp' m' q' a b c d e=>h p' m' q' a (by omega) (by omega) d e
       rw [Nat.add_sub_cancel]
       by_cases e:k=m
       ·rw [e]
       ·rw [he.2 k (by omega) (by omega)];exact O.tot _ _ hc2 hc
theorem aX9{p:Array Nat}{m:Nat}(hp:Pm n p)(h1:1<=m)(hmn:m<=n)(hd:Dec lt p m){Q:Nat×Array Nat->Prop}(h:∀m' p',Pm n p'->1<=m'->m'<=n->Inc lt p' m'->Q (m',p')):wpk n lt (kas_tail3 m n p) Q:=by
 refine b6 ?_
 have hi:Inc lt (kas_rev p 0 m) m:=λi j hij hj=>by
  rw [aF2 (by rw [hp.size];exact hmn),aF2 (by rw [hp.size];exact hmn),if_pos ⟨by omega,hj⟩,if_pos ⟨by omega,by omega⟩]
  exact hd _ _ (by omega) (by omega)
 exact aX8 O hn (hp.rev 0 m) (n - m) m h1 hi λm' a b c _=>h m' _ (hp.rev 0 m) (by omega) (by omega) c
theorem ai5{p:Array Nat}{m:Nat}(hp:Pm n p)(h1:1<=m)(hmn:m<n)(hd:Dec lt p (m+1)){Q:Nat×Array Nat->Prop}(h:∀m' p',Pm n p'->1<=m'->m'<=n->Inc lt p' m'->Q (m',p')):wpk n lt (kas_descPart m n p) Q:=by
 refine b6 (au4 O hn (n - (m+1)) p (m+1) 0 hp (by omega) hd (bm1 (by omega)) λp' m' q' a b c d e=>?_)
 have e1:=e.1
 dsimp only
 by_cases hq:q' > 0
 ·rw [if_pos hq]
  have hs:=ai3 O hn (p:=p') (i:=m' - (q'+1)) (j:=m') (by rw [a.size];omega) e.2
  exact aX9 O hn (a.rev _ _) (by omega) (by omega) (ai4 O hn hs d) h
 ·rw [if_neg hq]
  exact aX9 O hn a (by omega) (by omega) d h
theorem a84{p:Array Nat}(hp:Pm n p)(h2:2<=n){Q:Nat×Array Nat->Prop}(h:∀m' p',Pm n p'->1<=m'->m'<=n->Inc lt p' m'->Q (m',p')):wpk n lt (kas_count n p) Q:=by
 refine b6 (aX8 O hn hp (n - 1) 1 (Nat.le_refl _) (λi j hij hj=>by rw [show i=j by omega];exact O.irr hn _) λm a b c d=>?_)
 by_cases hm:(m == n)=true
 ·rw [if_pos hm];exact h m p hp a (by omega) c
 ·rw [if_neg hm]
  have hmn:m<n:=by have:m≠n:=λz=>hm (by simp [z]);omega
  have hstop:=d (by omega)
  by_cases h1:m > 1
  ·rw [if_pos h1]
   refine⟨hp.bd hn 0,hp.bd hn (m - 1),?_⟩
   cases hc:lt (p.getD 0 0) (p.getD (m - 1) 0) with
   | true=>exact h m p hp a (by omega) c
   | false=>
     simp only [Bool.false_eq_true,if_false]
     have eq1:∀k,0<=k->k<m->key (p.getD k 0)=key (p.getD (m - 1) 0):=λk _ hk=>by
      refine O.tot _ _ ?_ (c k (m - 1) (by omega) (by omega))
      exact O.tr _ _ _ hc (c 0 k (by omega) hk)
     have hs:=ai3 O hn (p:=p) (i:=0) (j:=m) (by rw [hp.size];omega) eq1
     refine ai5 O hn (hp.rev 0 m) a hmn (ai4 O hn hs (j9 O hn (λi j hij hj=>?_) (.inr (O.asym _ _ hstop)))) h
     rw [O.cong _ _ _ _ (eq1 i (by omega) (by omega)) (eq1 j (by omega) hj)];exact O.irr hn _
  ·rw [if_neg h1]
   have:m=1:=by omega
   subst this
   refine ai5 O hn hp a hmn (j9 O hn (λi j hij hj=>by rw [show i=j by omega];exact O.irr hn _) (.inr (O.asym _ _ hstop))) h
theorem au5{p:Array Nat}(hp:Pm n p){k:Nat}(hi:Inc lt p k){Q:Nat->Prop}:∀f l r,l<=r->r<=k->r - l<=f->(∀i,i<l->lt (p.getD k 0) (p.getD i 0)=false)->(∀i,r<=i->i<k->lt (p.getD k 0) (p.getD i 0)=true)->
 (∀l',l'<=k->(∀i,i<l'->lt (p.getD k 0) (p.getD i 0)=false)->(∀i,l'<=i->i<k->lt (p.getD k 0) (p.getD i 0)=true)->Q l')->wpk n lt (kas_place p k f l r) Q
 | 0,l,r,hlr,hrk,hf,h1,h2,h=>h l (by omega) h1 λi a b=>h2 i (by omega) b
 | f+1,l,r,hlr,hrk,hf,h1,h2,h=>by
   unfold kas_place
   by_cases hc:l≥r
   ·rw [if_pos hc];exact h l (by omega) h1 λi a b=>h2 i (by omega) b
   ·rw [if_neg hc]
    refine⟨hp.bd hn k,hp.bd hn _,?_⟩
    cases hm:lt (p.getD k 0) (p.getD ((l+r) / 2) 0) with
    | true=>
      simp only [if_true]
      refine au5 hp hi f l ((l+r) / 2) (by omega) (by omega) (by omega) h1 (λi a b=>?_) h
      cases e:lt (p.getD k 0) (p.getD i 0) with
      | true=>rfl
      | false=>
        have:=O.tr _ _ _ (hi ((l+r) / 2) i a b) e
        rw [hm] at this;exact this.symm
    | false=>
      simp only [Bool.false_eq_true,if_false]
      refine au5 hp hi f ((l+r) / 2+1) r (by omega) hrk (by omega) (λi a=>?_) h2 h
      exact O.tr _ _ _ (hi i ((l+r) / 2) (by omega) (by omega)) hm
theorem bf5{Q:Array Nat->Prop}:∀f (p:Array Nat) k,Pm n p->k+f=n->Inc lt p k->(∀p',Pm n p'->Inc lt p' n->Q p')->wpk n lt (kas_bin f p k) Q
 | 0,p,k,hp,hk,hi,h=>h p hp (by rw [←hk];exact hi)
 | f+1,p,k,hp,hk,hi,h=>by
   refine b6 (au5 O hn hp hi k 0 k (by omega) (by omega) (by omega) (λi a=>by omega) (λi a b=>by omega) λl hl h1 h2=>?_)
   refine bf5 f _ (k+1) (hp.bub _ _) (by omega) (λi j hij hj=>?_) h
   have hsz:k<p.size:=by rw [hp.size];omega
   have hkl:k - (k - l)=l:=by omega
   rw [aX6 hsz (by omega),aX6 hsz (by omega),hkl]
   by_cases hj1:j=l
   ·rw [if_pos hj1]
    by_cases hi1:i=l
    ·rw [if_pos hi1];exact O.irr hn _
    ·rw [if_neg hi1,if_neg (by omega)];exact h1 i (by omega)
   ·rw [if_neg hj1]
    by_cases hj2:l<j/\j<=k
    ·rw [if_pos hj2]
     by_cases hi1:i=l
     ·rw [if_pos hi1];exact O.asym _ _ (h2 (j - 1) (by omega) (by omega))
     ·rw [if_neg hi1]
      by_cases hi2:l<i/\i<=k
      ·rw [if_pos hi2];exact hi (i - 1) (j - 1) (by omega) (by omega)
      ·rw [if_neg hi2];exact hi i (j - 1) (by omega) (by omega)
    ·rw [if_neg hj2]
     have hjl:j<l:=by omega
     rw [if_neg (by omega),if_neg (by omega)]
     exact hi i j hij (by omega)
theorem bm2(h2:2<=n){Q:Array Nat->Prop}(h:∀p',Pm n p'->Inc lt p' n->Q p'):wpk n lt (kas_sort n) Q:=by
 refine b6 (a84 O hn (p:=List.toArray (List.range n)) ⟨by simp,.refl _⟩ h2 λm p a b c d=>?_)
 dsimp only
 by_cases hm:m<n
 ·rw [if_pos hm,Nat.max_eq_left b]
  exact bf5 O hn (n - m) p m a (by omega) d h
 ·rw [if_neg hm]
  have:m=n:=by omega
  subst this
  exact h p a d
end
def an5(fin:Bool):List Int->List Int->Bool
 | x::xs,y::ys=>if x=y then an5 fin xs ys else decide (x<y)
 | _,_=>fin
theorem aJ4:∀xs ys:List Int,an5 (decide (xs.length<ys.length)) xs ys=E6 xs ys
 | [],[]=>rfl
 | [],_::_=>by simp [an5,E6]
 | _::_,[]=>by simp [an5,E6]
 | x::xs,y::ys=>by
   simp only [an5,E6,List.length_cons,Nat.add_lt_add_iff_right]
   rw [aJ4 xs ys]
section
variable{prog:Program}{w:World}{A:Around}{E:Value->Shared->Prop}{s:Shared}
theorem ad6{fin:Bool}{Q:Bool->Shared->Prop}:∀{vs us:List Value} {ns ms:List Int} (i:Nat),IntsAre vs ns->IntsAre us ms->Q (an5 fin ns ms) s->KatLex prog w A true fin Q (vs.zip us) i s
 | _,_,_,_,i,.nil,_,h=>by simpa [an5] using kat_nil h
 | _,_,_,_,i,.cons _ _ _,.nil,h=>by simpa [an5] using kat_nil h
 | _,_,_,_,i,.cons a t hv,.cons c u hw,h=>by
   rw [List.zip_cons_cons]
   refine kat_cons (wpAny_eqBool_int ?_)
   by_cases e:a=c
   ·subst e
    simp only [an5,if_true] at h
    rw [beq_self_eq_true]
    exact kat_yes (ad6 (i+1) hv hw h)
   ·rw [beq_eq_false_iff_ne.mpr e]
    simp only [an5,e,if_false] at h
    refine kat_no ?_
    cases hb:(true&&i == 0) with
    | true=>exact oneLt_int h
    | false=>exact kat_one _ _ (lt_int h)
def w8(h:Heap)(v:Value)(t:List Int):Prop:=∃a o its n,v=.ref a/\h.get? a=some o/\o.cls=.type "tuple"/\o.data=.seq its n/\IntsAre its.toList t/\t≠[]
theorem ai6{h:Heap}:∀{vs:List Value} {ts:List (List Int)} {i:Nat},Paired (w8 h) vs ts->i<vs.length->w8 h (vs.getD i .none) (ts.getD i [])
 | _,_,_,.nil,hi=>by simp at hi
 | _,_,0,.cons r _,_=>r
 | _,_,i+1,.cons _ t,hi=>by
   have:=ai6 (i:=i) t (by simpa using hi)
   simpa using this
theorem ay7{h:Heap}:∀{vs:List Value} {ts:List (List Int)},Paired (w8 h) vs ts->∃fs,KatTups h vs fs/\fs.length=vs.length/\∀f∈fs,∃i t,f=Value.int i t
 | _,_,.nil=>⟨[],KatTups.nil,rfl,by simp⟩
 | _,_,.cons r t=>by
   obtain⟨a,o,its,n,rfl,ho,hc,hd,hi,hne⟩:=r
   obtain⟨fs,k,hl,hf⟩:=ay7 t
   cases hh:its.toList with
   | nil=>rw [hh] at hi;cases hi;exact absurd rfl hne
   | cons v r=>
     rw [hh] at hi
     cases hi with
     | cons i tk hr=>
       refine⟨.int i tk::fs,KatTups.cons ho hc hd (by rw [←Array.getElem?_toList,hh];rfl) k,by simp [hl],λf hm=>?_⟩
       rcases List.mem_cons.mp hm with rfl | hm
       ·exact⟨_,_,rfl⟩
       ·exact hf f hm
theorem a85(ts:List (List Int)):Ord (λi=>ts.getD i []) (λi j=>E6 (ts.getD i []) (ts.getD j [])):=
 ⟨λ_ _ h=>ag3 _ _ h,λ_ _ _ h h'=>aE1 _ _ _ h h',λ_ _ h h'=>at5 _ _ h h',λ_ _ _ _ h h'=>congr (congrArg E6 h) h'⟩
def Y9(ts:List (List Int))(n:Nat)(p:List Nat):Prop:=p.Perm (List.range n)/\(p.map λi=>ts.getD i []).Pairwise (λx y=>E6 y x=false)
theorem ai7{a:Addr}{vs:List Value}{ts:List (List Int)}{n:Nat}{P:PySem.Fin->Shared->Prop}(ho:s.heap.get? a=some (seqObj "list" vs.toArray n))(ht:Paired (w8 s.heap) vs ts)(h64:vs.length<64)
 (h:∀p,Y9 ts vs.length p->P (.done (.ret .none)) { s with heap:=sortedHeap s.heap a vs (List.toArray (p.map λi=>vs.getD i Value.none)) }) :
 wpAny (model prog w) A (Builtin.«list.sort» ⟨[.ref a],[]⟩) P E s:=by
 rw [list_sort_plain]
 have ha:a<s.heap.objs.size:=Heap.lt_size ho
 refine wpAny_bind (listItems_at ho rfl ?_)
 refine wpAny_bind (listUpdate_at ho rfl ?_)
 obtain⟨e1,ho1⟩:∃e1,(s.heap.update a (Obj.mapSeq λ_=>#[])).get? a=some (seqObj "list" #[] e1):=⟨_,get?_update_seq ho (λ_=>#[])⟩
 refine wpAny_bind (seqEpoch_at ho1 rfl ?_)
 refine wpAny_bind (wpAny_newTuple ?_)
 refine wpAny_bind (wpAny_newList ?_)
 refine wpAny_holding ?_
 have ho6:(((s.heap.update a (Obj.mapSeq λ_=>#[])).push (seqObj "tuple" vs.toArray 0)).push (seqObj "list" #[] 0)).get? a=some (seqObj "list" #[] e1):=by
  rw [Heap.get?_push_ne _ _ _ (by rw [size_push',Heap.size_update];exact Nat.ne_of_lt (Nat.lt_succ_of_lt ha)),Heap.get?_push_ne _ _ _ (by rw [Heap.size_update];exact Nat.ne_of_lt ha)]
  exact ho1
 show wpAny (model prog w) A _ P E { s with heap:=((s.heap.update a (Obj.mapSeq λ_=>#[])).push (seqObj "tuple" vs.toArray 0)).push (seqObj "list" #[] 0) }
 dsimp only
 have hsz:vs.toArray.size=vs.length:=by simp
 have tst:∀v t,w8 s.heap v t->w8 (((s.heap.update a (Obj.mapSeq λ_=>#[])).push (seqObj "tuple" vs.toArray 0)).push (seqObj "list" #[] 0)) v t:=λv t hq=>by
  obtain ⟨b,o,its,k,e,q,c,d,r⟩:=hq
  have hb:b≠a:=by
   rintro rfl
   rw [ho] at q;cases q
   exact absurd (Value.type.inj (show Value.type "list" = Value.type "tuple" from c)) (by decide)
  exact⟨b,o,its,k,e,Heap.get?_push_of_some _ (Heap.get?_push_of_some _ (by rw [Heap.get?_update_ne _ _ _ _ hb];exact q)),c,d,r⟩
 have ht6:Paired (w8 (((s.heap.update a (Obj.mapSeq λ_=>#[])).push (seqObj "tuple" vs.toArray 0)).push (seqObj "list" #[] 0))) vs ts:=L2.Paired.mapP ht tst
 by_cases h2:vs.toArray.size<2
 ·rw [if_pos h2,if_pos h2]
  refine wpAny_bind (wpAny_pure ?_)
  rw [StateT.run_pure]
  refine wpAny_bind (wpAny_pure ?_)
  dsimp only
  refine wpAny_bind (seqEpoch_at ho6 rfl ?_)
  refine wpAny_bind (listUpdate_at ho6 rfl ?_ (hsz2:=by rw [Array.size_map];show (pairsOf vs).size<=_;rw [pairsOf_size,sizeLine_eq];omega))
  simp only [bne_self_eq_false,Bool.false_eq_true,if_false]
  have hp:Y9 ts vs.length (List.range vs.length):=by
   refine⟨.refl _,?_⟩
   rw [hsz] at h2
   match hl:vs.length,h2 with
   | 0,_=>simp
   | 1,_=>simp [List.range_succ]
  have hout:(arrOf (SortSt.mk' general' (vs.toArray.zip vs.toArray) #[] 7 none)).map (·.2)=List.toArray ((List.range vs.length).map λi=>vs.getD i Value.none):=by
   apply Array.toList_inj.mp
   show ((vs.toArray.zip vs.toArray).map (·.2)).toList=_
   apply List.ext_getElem
   ·simp
   ·intro i h1 h2
    have hi:i<vs.length:=by simpa using h1
    simp [hi]
  have:=h _ hp
  rw [←hout] at this
  exact wpAny_pure this
 ·rw [if_neg h2,if_neg h2]
  have hl2:2<=vs.length:=by omega
  obtain⟨fs,hk,hfl,hfi⟩:=ay7 ht6
  refine wpAny_bind (kat_kind (T:=.type "int") hk (by omega) (λv hv=>by
   obtain⟨i,t,rfl⟩:=hfi v hv
   exact Looks.of_pure rfl) (by rfl) ?_)
  have ev:(kas_sort vs.length).kasWp (kas_ask prog w A (tuples' (Value.type "int" != Value.type "tuple")) vs) (λp s'=>Y9 ts vs.length p.toList/\s'={ s with heap:=((s.heap.update a (Obj.mapSeq λ_=>#[])).push (seqObj "tuple" vs.toArray 0)).push (seqObj "list" #[] 0) }) { s with heap:=((s.heap.update a (Obj.mapSeq λ_=>#[])).push (seqObj "tuple" vs.toArray 0)).push (seqObj "list" #[] 0) }:=by
   refine aJ3 (n:=vs.length) (lt:=λi j=>E6 (ts.getD i []) (ts.getD j [])) (λi j C hi hj hC=>?_) (bm2 (a85 ts) (by omega) hl2 (Q:=λp=>Y9 ts vs.length p.toList) λp hp hinc=>?_) λp hp=>⟨hp,rfl⟩
   ·obtain⟨b,o,its,k,e,q,c,d,r,_⟩:=ai6 ht6 hi
    obtain⟨b',o',its',k',e',q',c',d',r',_⟩:=ai6 ht6 hj
    unfold kas_ask
    rw [e,e']
    refine kat_lt (b:=true) q d q' d' (ad6 0 r r' ?_)
    have z1:its.size=(ts.getD i []).length:=by rw [←r.length];simp
    have z2:its'.size=(ts.getD j []).length:=by rw [←r'.length];simp
    rw [z1,z2,aJ4];exact hC
   ·refine⟨by simpa using Array.perm_iff_toList_perm.mp hp.perm,?_⟩
    rw [List.pairwise_map,List.pairwise_iff_getElem]
    intro i j hi hj hij
    have:=hinc i j (by omega) (by rw [←hp.size];simpa using hj)
    have hi':i<p.size:=by simpa using hi
    have hj':j<p.size:=by simpa using hj
    simpa [Array.getD,hi',hj'] using this
  refine wpAny_bind (wpAny_mono (kat_run (Q:=λst' s'=>∃p:Array Nat,p.size=vs.length/\arrOf st'=p.map (kas_item (vs.toArray.zip vs.toArray))/\failedOf st'=none/\Y9 ts vs.length p.toList/\s'={ s with heap:=((s.heap.update a (Obj.mapSeq λ_=>#[])).push (seqObj "tuple" vs.toArray 0)).push (seqObj "list" #[] 0) })
   rfl hl2 h64 (λp' st' s' a1 a2 a3 a4=>⟨p',a1,a2,a3,a4.1,a4.2⟩) ev) ?_ λ_ _ e=>e)
  rintro⟨⟨⟩,st'⟩ s' ⟨p,hp,har,hf,hres,rfl⟩
  dsimp only
  have hout:=kat_snds rfl har
  have hsz3:(List.toArray (p.toList.map λi=>vs.getD i Value.none)).size=vs.length:=by rw [List.size_toArray,List.length_map,Array.length_toList,hp]
  refine wpAny_bind (seqEpoch_at ho6 rfl ?_)
  rw [hout]
  refine wpAny_bind (listUpdate_at ho6 rfl ?_ (hsz2:=by rw [hsz3,sizeLine_eq];omega))
  rw [hf]
  simp only [bne_self_eq_false,Bool.false_eq_true,if_false]
  exact wpAny_pure (h p.toList hres)
theorem ay8{l:Addr}{vs:List Value}{ts:List (List Int)}{Q:Value->Shared->Prop}(hl:s.heap.IsList l vs.toArray)(ht:Paired (w8 s.heap) vs ts)(h64:vs.length<64)
 (h:∀p,Y9 ts vs.length p->Q (.ref (s.heap.objs.size+1)) { s with heap:=sortedAll s.heap vs (List.toArray (p.map λi=>vs.getD i Value.none)) }) :
 wpAny (model prog w) A (call (.builtin "sorted") [.ref l]) Q E s:=by
 refine Calls.call_function_entry kind_sorted plain_sorted entry_sorted (args_sorted1 _) ?_
 unfold Builtin.«sorted»
 refine wpAny_bind (m:=checkCount "sorted" 1 1 _) (wpAny_pure ?_)
 refine wpAny_bind (collect_list hl ?_)
 refine wpAny_bind (wpAny_newList ?_)
 have hsz:((s.heap.push (seqObj "list" #[] 0)).update s.heap.objs.size (Obj.mapSeq (·++vs.toArray))).objs.size=s.heap.objs.size+1:=by
  rw [Heap.size_update,size_push']
 have hoL:(((s.heap.push (seqObj "list" #[] 0)).update s.heap.objs.size (Obj.mapSeq (·++vs.toArray))).push (seqObj "list" vs.toArray 0)).get? (s.heap.objs.size+1)=some (seqObj "list" vs.toArray 0):=by
  rw [←hsz];exact Heap.get?_push_size _ rfl
 show wpAny _ _ _ _ _ { s with heap:=((s.heap.push (seqObj "list" #[] 0)).update s.heap.objs.size (Obj.mapSeq (·++vs.toArray))).push (seqObj "list" vs.toArray 0) }
 rw [hsz]
 have keep:∀b o,s.heap.get? b=some o->(((s.heap.push (seqObj "list" #[] 0)).update s.heap.objs.size (Obj.mapSeq (·++vs.toArray))).push (seqObj "list" vs.toArray 0)).get? b=some o:=λb o q=>by
  have hlt:b<s.heap.objs.size:=Heap.lt_size q
  rw [Heap.get?_push_ne _ _ _ (by rw [hsz];exact Nat.ne_of_lt (Nat.lt_succ_of_lt hlt)),Heap.get?_update_ne _ _ _ _ (Nat.ne_of_lt hlt),Heap.get?_push_ne _ _ _ (Nat.ne_of_lt hlt)]
  exact q
 refine wpAny_bind (wpAny_holding (wpAny_call_entry slot_list_sort ⟨_,hoL,rfl⟩ entry_list_sort (ai7 hoL (L2.Paired.mapP ht λv t ⟨b,o,its,k,e,q,r⟩=>⟨b,o,its,k,e,keep b o q,r⟩) h64 λp hp=>⟨_,rfl,?_⟩) (args_list_sort _)))
 exact wpAny_pure ⟨_,rfl,h p hp⟩
end
section
variable{X:Cx}{cm:Nat->Addr}
def bm3(K:PySem.W.Frag):List V->Hp->VK->Prop:=λvs H Q=>∃a ns,vs=[.ref a]/\SqL K H a (ns.map V.int)/\ns.length<64/\∀l,H l=none->Q (.ref l) (upd H l (.lst ((G1 ltI ns).map V.int)))
theorem call_sortI:CallR X (.builtin "sorted") (bm3 X.K):=by
 intro pins s σ H xs us Q I r h
 obtain⟨a,ns,rfl,hq,h64,q⟩:=h
 obtain⟨u,rfl,rx⟩:=Y4 r
 cases rx
 obtain⟨its,ri,pl,hz⟩:=I.list hq
 have hI:IntsAre its ns:=P6 ri
 have hl:its.length=ns.length:=hI.length
 refine sorted_ints pl.isList hI (by omega) λout ns' h1 h2 h3=>?_
 have e:ns'=G1 ltI ns:=aa6 (h2.trans (M6 _ _).symm) h3 (at4 ns)
 subst e
 obtain⟨c,hat⟩:=sortedAll_at s.heap its out
 have hlen:(G1 ltI ns).length=ns.length:=(M6 _ _).length_eq
 refine⟨.ref (s.heap.objs.size+1),_,I.laid (t':=s.toks) (a:=s.heap.objs.size+1) (o:=.lst ((G1 ltI ns).map V.int)) (λb o e=>sortedAll_old e) (Nat.le_succ _) ?_,rfl,q _ (I.hok.fresh (Nat.le_succ _))⟩
 refine⟨by rw [List.length_map,hlen,sizeLine_eq];omega,out.toList,c,m7 h1,?_⟩
 rw [Array.toArray_toList];exact hat
def TupV(H:Hp)(x:V)(t:List Int):Prop:=∃b,x=.ref b/\H b=some (.tup (t.map V.int))/\t≠[]
def bm4(K:PySem.W.Frag):List V->Hp->VK->Prop:=λvs H Q=>∃a xs ts,vs=[.ref a]/\SqL K H a xs/\Paired (TupV H) xs ts/\xs.length<64/\∀l p,Y9 ts xs.length p->H l=none->Q (.ref l) (upd H l (.lst (p.map λi=>xs.getD i .non)))
theorem aJ5{pins:List (Addr×Obj)}{σ:L2.St}{H:Hp}{s:Shared}(I:L2.Inv X pins σ H s):∀{xs:List V} {its:List Value} {ts:List (List Int)},Vals xs its->Paired (TupV H) xs ts->Paired (w8 s.heap) its ts
 | _,_,_,.nil,.nil=>.nil
 | _,_,_,.cons r t,.cons h k=>by
   refine .cons ?_ (aJ5 I t k)
   obtain⟨b,rfl,hb,hne⟩:=h
   cases r
   obtain⟨_,vals,rv,ob,ho,hc,n,hd⟩:=I.hok b _ hb
   exact⟨b,ob,vals.toArray,n,rfl,ho,hc,hd,by simpa using P6 rv,hne⟩
theorem ap9{xs:List V}{its:List Value}(r:Vals xs its):∀p:List Nat,(∀i∈p,i<xs.length)->Vals (p.map λi=>xs.getD i .non) (p.map λi=>its.getD i .none)
 | [],_=>.nil
 | i::p,h=>by
   have hi:=h i List.mem_cons_self
   obtain⟨u,hu,ru⟩:=r.get (i:=i) (x:=xs[i]) (by simp [hi])
   refine .cons ?_ (ap9 r p λj hj=>h j (List.mem_cons_of_mem _ hj))
   have e1:xs.getD i .non=xs[i]:=by simp [hi]
   have e2:its.getD i .none=u:=by rw [List.getD_eq_getElem?_getD,hu];rfl
   show L2.RelV (xs.getD i .non) (its.getD i .none)
   rw [e1,e2];exact ru
theorem aF3:CallR X (.builtin "sorted") (bm4 X.K):=by
 intro pins s σ H xs us Q I r h
 obtain⟨a,ys,ts,rfl,hq,ht,h64,q⟩:=h
 obtain⟨u,rfl,rx⟩:=Y4 r
 cases rx
 obtain⟨its,ri,pl,hz⟩:=I.list hq
 have hl:ys.length=its.length:=ri.length
 refine ay8 pl.isList (aJ5 I ri ht) (by omega) λp hp=>?_
 have hp':Y9 ts ys.length p:=by rw [hl];exact hp
 obtain⟨c,hat⟩:=sortedAll_at s.heap its (List.toArray (p.map λi=>its.getD i Value.none))
 have hpl:p.length=ys.length:=by rw [hp'.1.length_eq];simp
 refine⟨.ref (s.heap.objs.size+1),_,I.laid (t':=s.toks) (a:=s.heap.objs.size+1) (o:=.lst (p.map λi=>ys.getD i .non)) (λb o e=>sortedAll_old e) (Nat.le_succ _) ?_,rfl,q _ p hp' (I.hok.fresh (Nat.le_succ _))⟩
 refine⟨by rw [List.length_map,hpl,sizeLine_eq];omega,p.map λi=>its.getD i Value.none,c,ap9 ri p λi hi=>?_,hat⟩
 have:=hp'.1.mem_iff.mp hi
 simpa using this
theorem O0:∀{l:List PV} {ns:List Int},J6 l=some ns->l=ns.map .int
 | [],ns,h=>by simp [J6] at h;subst h;rfl
 | x::r,ns,h=>by
   cases x with
   | int i=>
     simp only [J6,Option.map_eq_some_iff] at h
     obtain⟨m,h1,rfl⟩:=h
     rw [O0 h1];rfl
   | _=>simp [J6] at h
theorem ai8:∀{l:List PV} {ts:List (List Int)},W6 l=some ts->l=ts.map (λt=>PV.tup (t.map .int))/\∀t∈ts,t≠[]
 | [],ts,h=>by simp [W6] at h;subst h;simp
 | x::r,ts,h=>by
   cases x with
   | tup m=>
     cases m with
     | nil=>simp [W6] at h
     | cons y ys=>
       unfold W6 at h
       rcases e1:J6 (y::ys) with _ | z
       ·rw [e1] at h;cases h
       ·rcases e2:W6 r with _ | zs
        ·rw [e1,e2] at h;cases h
        ·rw [e1,e2] at h
         cases h
         obtain⟨a,b⟩:=ai8 e2
         have e3:=O0 e1
         refine⟨by rw [a,e3];rfl,λt ht=>?_⟩
         rcases List.mem_cons.mp ht with rfl | ht
         ·rintro rfl;simp at e3
         ·exact b t ht
   | _=>simp [W6] at h
theorem RVs.ints_inv{ρ:List Addr}{H:Hp}:∀{ns:List Int} {xs:List V},RVs ρ H (ns.map .int) xs->xs=ns.map V.int
 | [],_,h=>by cases h;rfl
 | i::ns,_,h=>by cases h with | cons h r=>cases h;rw [RVs.ints_inv r];rfl
theorem aJ6{ρ:List Addr}{H:Hp}:∀{ts:List (List Int)} {xs:List V},RVs ρ H (ts.map λt=>PV.tup (t.map .int)) xs->(∀t∈ts,t≠[])->Paired (TupV H) xs ts
 | [],_,h,_=>by cases h;exact .nil
 | t::ts,_,h,hne=>by
   cases h with
   | cons h r=>
     cases h with
     | tup ha rt=>
       rw [RVs.ints_inv rt] at ha
       exact .cons ⟨_,rfl,ha,hne t List.mem_cons_self⟩ (aJ6 r λu hu=>hne u (List.mem_cons_of_mem _ hu))
theorem ay9{ρ:List Addr}{H:Hp}{l:List PV}{xs:List V}(r:RVs ρ H l xs):∀p:List Nat,(∀i∈p,i<l.length)->RVs ρ H (p.map λi=>l.getD i .non) (p.map λi=>xs.getD i .non)
 | [],_=>.nil
 | i::p,h=>by
   have hi:=h i List.mem_cons_self
   obtain⟨u,hu,ru⟩:=r.get (i:=i) (x:=l[i]) (by simp [hi])
   refine .cons ?_ (ay9 r p λj hj=>h j (List.mem_cons_of_mem _ hj))
   have e1:l.getD i .non=l[i]:=by simp [hi]
   have e2:xs.getD i .non=u:=by rw [List.getD_eq_getElem?_getD,hu];rfl
   show RV ρ H (l.getD i .non) (xs.getD i .non)
   rw [e1,e2];exact ru
theorem aO7{α:Type}(ts:List α)(d:α){p:List Nat}(hp:p.Perm (List.range ts.length)):(p.map λi=>ts.getD i d).Perm ts:=by
 refine (hp.map _).trans ?_
 have:(List.range ts.length).map (λi=>ts.getD i d)=ts:=by
  apply List.ext_getElem
  ·simp
  ·intro i h1 h2;simp [h2]
 rw [this]
theorem az0{e:Expr}{d:ED}{p pos:Pos}(hr:X.A.units+64<cLine)(he:PE X e (EvE X.K cm d))(hg:Gl X "sorted")(hm:X.mg "sorted" = none)(hs:starEach [e] X.env=(false,eval e X.env)::starEach [] X.env:=by exact E5 rfl):PE X (.Call (.Name "sorted" p) [e] [] pos) (EvE X.K cm (ae5 d)):=
 E3 (S4 (call_sortI.or aF3) hg hm PyProof.Rows.boot_sorted (r_cons he r_nil hs) (he:=hs)) λσ H Q h=>Z5 (f:=λx=>match x with | .ref n=>bnd (D3 n) λl=>bnd (d6 l) λm=>alloc (.lst m) | _=>stuck) (λ_=>rfl) (λρ A H x z A' v Q rl rx ev k=>by
  cases x with
  | ref n=>
    obtain⟨l,A1,e1,ev1⟩:=B0 ev
    obtain⟨rfl,a,xs,rfl,hq,r⟩:=K1 rl rx e1
    obtain⟨m,A2,e2,ev2⟩:=B0 ev1
    obtain⟨h64,e3⟩:=C8 e2
    rcases hi:J6 l with _ | ns
    ·rcases ht:W6 l with _ | ts
     ·rw [hi,ht] at e3;cases e3
     ·rw [hi,ht] at e3
      cases e3
      cases ev2
      obtain⟨rfl,hne⟩:=ai8 ht
      have hl:xs.length=ts.length:=by rw [←r.length];simp
      refine .inr ⟨a,xs,ts,rfl,hq,aJ6 r hne,by rw [←r.length];exact h64,λD p hp hD=>?_⟩
      rw [hl] at hp
      have es:(p.map λi=>ts.getD i [])=G1 E6 ts:=ap3 (lt:=E6) at5 ((aO7 ts [] hp.1).trans (M6 _ _).symm) hp.2 (aE2 ts)
      have hlt:∀i∈p,i<ts.length:=λi hi=>by simpa using hp.1.mem_iff.mp hi
      have ep:(G1 E6 ts).map (λt=>PV.tup (t.map .int))=p.map λi=>(ts.map λt=>PV.tup (t.map .int)).getD i .non:=by
       rw [←es,List.map_map]
       refine List.map_congr_left λi hi=>?_
       have:=hlt i hi
       simp [this]
      have ex:Ext ρ H (ρ++[D]) (upd H D (.lst (p.map λi=>xs.getD i .non))):=Ext.new hD
      refine k (ρ++[D]) _ _ ex (rl.alloc hD ⟨_,D8,?_⟩ rfl) (.ref (by rw [←rl.len];simp))
      rw [ep]
      exact (ay9 r p λi hi=>by rw [List.length_map];exact hlt i hi).mono ex
    ·rw [hi] at e3
     cases e3
     cases ev2
     have hl:=O0 hi
     subst hl
     have hx:=RVs.ints_inv r
     subst hx
     refine .inl ⟨a,ns,rfl,hq,by simpa using h64,λD hD=>?_⟩
     have ex:Ext ρ H (ρ++[D]) (upd H D (.lst ((G1 ltI ns).map V.int))):=Ext.new hD
     exact k (ρ++[D]) _ _ ex (rl.alloc hD ⟨_,D8,RVs.ints _⟩ rfl) (.ref (by rw [←rl.len];simp))
  | _=>cases ev) h
end
end Ws
namespace Ws
open PySem L2
theorem a86(K:PySem.W.Frag):Kit K:=⟨λa b ha hb=>by
 simp only [List.mem_cons,List.not_mem_nil,or_false] at ha hb
 rcases ha with rfl | rfl | rfl | rfl | rfl | rfl <;> rcases hb with rfl | rfl | rfl | rfl <;> with_unfolding_all rfl⟩
def t3(s:SD):Prop:=∀σ A v A',s σ A≠.ok (.rt v) A'
theorem L8{a b:SD}(ha:t3 a)(hb:t3 b):t3 (D7 a b):=λσ A v A' h=>by
 obtain⟨o,A1,e1,e2⟩:=B0 h
 cases o with
 | nx σ1=>exact hb _ _ _ _ e2
 | rt u=>exact ha _ _ _ _ e1
 | bk σ1=>cases e2
 | ct σ1=>cases e2
theorem au6{t:TD}{a b:SD}(ha:t3 a)(hb:t3 b):t3 (sIf t a b):=λσ A v A' h=>by
 obtain⟨c,A1,e1,e2⟩:=B0 h
 cases c with
 | true=>rw [if_pos rfl] at e2;exact ha _ _ _ _ e2
 | false=>rw [if_neg (by simp)] at e2;exact hb _ _ _ _ e2
theorem w9:t3 sPass:=λσ A v A' h=>by cases h
theorem n4:t3 sNever:=λσ A v A' h=>by cases h
theorem aJ7{e:ED}{g:GD}:t3 (N4 e g):=λσ A v A' h=>by
 obtain⟨x,A1,e1,e2⟩:=B0 h
 obtain⟨y,A2,e3,e4⟩:=B0 e2
 cases e4
theorem O1{a e:ED}{f:Nat}:t3 (sFld a f e):=λσ A v A' h=>by
 obtain⟨x,A1,e1,e2⟩:=B0 h
 obtain⟨y,A2,e3,e4⟩:=B0 e2
 cases y with
 | ref n=>
   obtain⟨o,A3,e5,e6⟩:=B0 e4
   obtain⟨_,e7⟩:=C8 e6
   cases e7
 | _=>cases e4
theorem au7{n p:Nat}{s:SD}(hs:t3 s){vs:List PV}{A A':PHp}{v:PV}(h:fn n p s vs A=.ok v A'):v=.non:=by
 obtain⟨_,h1⟩:=C8 h
 obtain⟨o,A1,e1,e2⟩:=B0 h1
 cases o with
 | nx σ1=>cases e2;rfl
 | rt u=>exact absurd e1 (hs _ _ _ _)
 | bk σ1=>cases e2
 | ct σ1=>cases e2
def aY0(K:PySem.W.Frag):Sp:=λvs H Q _=>∃(a:Addr) (ns:List Int),vs=[.ref a]/\SqL K H a (ns.map V.int)/\ns.length<=63/\bj9 H/\∀H',Q (.bl true) H'
theorem bm5{K:PySem.W.Frag}{cm:Nat->Addr}{f:Fun}(h:∀ns:List Int,∃A',f [.ref 0] [.ro (ns.map .int)]=.ok (.bl true) A')(vs:List V)(H:Hp)(Q:VK)(E:L2.XK)(q:aY0 K vs H Q E):SpF K cm f 1 vs H Q E:=by
 obtain⟨a,ns,rfl,hS,_,hO,k⟩:=q
 obtain⟨A',e⟩:=h ns
 have fz:Fz K H a (ns.map V.int):=by
  rcases hS with (hS | hS) | hS
  ·rcases hO a with z | ⟨o,xs,z⟩ <;> (rw [hS] at z;cases z)
  ·exact .inl hS
  ·exact .inr hS
 refine⟨[a],[.ro (ns.map .int)],[.ref 0],.bl true,A',⟨rfl,λn o b h1 h2=>?_,λm n b o p h1 h2 h3 h4 m1 m2=>?_⟩,.cons (.ref rfl) .nil,rfl,e,λρ' H' v' _ _ rv=>by cases rv;exact k H'⟩
 ·cases n with
  | zero=>simp at h1 h2;subst h1;subst h2;exact⟨_,fz,RVs.ints ns⟩
  | succ n=>simp at h1
 ·cases m with
  | zero=>cases n with
    | zero=>rfl
    | succ n=>simp at h4
  | succ m=>simp at h3
end Ws
namespace Ws
open PySem PySem.W
def a87(ok:Thread->Bool)(stp:SharedT->Thread->Option (SharedT×Thread))(n:Nat):SharedT->Thread->Option SharedT:=
 @Nat.rec (λ_=>SharedT->Thread->Option SharedT) (λ_ _=>none)
  (λ_ ih s t=>@Bool.rec (λ_=>Option SharedT) (@Bool.rec (λ_=>Option SharedT) none (@Option.rec _ (λ_=>Option SharedT) none (λr=>ih r.1 r.2) (stp s t)) (ok t)) (some s) (through t)) n
theorem a88{tb:String->Option Builtin}{p:Program}{w:World}{m:Nat}{an:Option Value}:∀(n:Nat) (S:SharedT) (t:Thread) (R:SharedT),
 a87 (stepOk m an) (stepT (denote tb) p w) n S t=some R->topRun tb p w m an n S.abs t=some R.abs:=by
 intro n
 induction n with
 | zero=>intro S t R h;cases h
 | succ n ih=>
   intro S t R h
   unfold topRun
   have h':@Bool.rec (λ_=>Option SharedT) (@Bool.rec (λ_=>Option SharedT) none (@Option.rec _ (λ_=>Option SharedT) none (λr=>a87 (stepOk m an) (stepT (denote tb) p w) n r.1 r.2) (stepT (denote tb) p w S t)) (stepOk m an t)) (some S) (through t)=some R:=h
   cases a:through t with
   | true=>rw [a] at h';cases h';rfl
   | false=>
     rw [a] at h'
     cases b:stepOk m an t with
     | false=>rw [b] at h';cases h'
     | true=>
       rw [b] at h'
       cases c:stepT (denote tb) p w S t with
       | none=>rw [c] at h';cases h'
       | some r=>
         rw [c] at h'
         obtain⟨S1,t1⟩:=r
         show (match step (denote tb) p w S.abs t with | .go s' t'=>topRun tb p w m an n s' t' | .halt _ _=>none)=_
         rw [stepT_spec c]
         exact ih S1 t1 R h'
def aY1:List Obj->Nat->BT->BT
 | [],_,t=>t
 | o::r,n,t=>aY1 r (n+1) (t.ins n o)
def aY2(w:World)(os:OsState):SharedT:=⟨aY1 (boot_heap w.params).objs.toList 0 .nil,11,(boot_heap w.params).life,#[],boot_drawn,boot_toks,os⟩
theorem aY3(w:World)(os:OsState):(aY2 w os).abs=⟨boot_heap w.params,#[],boot_drawn,boot_toks,os⟩:=by kernel_rfl
theorem a89(P:Params):((boot_heap P).isNs mainGlobals,(boot_heap P).objs.size,(boot_heap P).nsMap mainGlobals "__annotations__")=(true,11,some (.ref 6)):=by kernel_rfl
def az1(h:Heap):Frag:=(List.range h.objs.size).filterMap λa=>(h.get? a).map λo=>(a,o)
def az2(S:SharedT):Frag:=(List.range S.n).filterMap λa=>(alive ((S.tree.get a).getD default)).map λo=>(a,o)
theorem ab5{h:Heap}:∀(l:List Nat) {a:Addr} {o:Obj},(l.filterMap λa=>(h.get? a).map λo=>(a,o)).lookup a=some o->h.get? a=some o
 | [],_,_,e=>by cases e
 | b::l,a,o,e=>by
   rw [List.filterMap_cons] at e
   cases q:h.get? b with
   | none=>rw [q] at e;exact ab5 l e
   | some x=>
     rw [q] at e
     change ((b,x)::_).lookup a=some o at e
     rw [List.lookup_cons] at e
     by_cases z:(a == b)=true
     ·rw [z] at e;cases e;rw [beq_iff_eq.mp z];exact q
     ·have z':(a == b)=false:=by simpa using z
      rw [z'] at e;exact ab5 l e
theorem a90(h:Heap):(az1 h).In h:=λa o e=>ab5 _ e
theorem aY4(S:SharedT):az1 S.abs.heap=az2 S:=by
 have hs:S.abs.heap.objs.size=S.n:=absHeap_size ..
 unfold az1 az2
 rw [hs]
 have key:∀l:List Nat,(∀a∈l,a<S.n)->(l.filterMap λa=>(S.abs.heap.get? a).map λo=>(a,o))=l.filterMap λa=>(alive ((S.tree.get a).getD default)).map λo=>(a,o):=by
  intro l
  induction l with
  | nil=>intro _;rfl
  | cons a l ih=>
    intro h
    have ha:S.abs.heap.get? a=alive ((S.tree.get a).getD default):=by
     show (absHeap S.tree S.n S.life).get? a=_
     unfold Heap.get?
     rw [absHeap_at,if_pos (h a (.head _))]
     cases (S.tree.get a).getD default with
     | mk c d dt sl=>cases dt <;> rfl
    rw [List.filterMap_cons,List.filterMap_cons,ha,ih λb hb=>h b (.tail _ hb)]
 exact key _ λa ha=>List.mem_range.mp ha
def Kw(p:Program)(N:Nat)(w:World):Frag:=match openEnds treeTable p w N with
 | some s=>az1 s.heap
 | none=>[]
def lk{α:Type}(sn:Program->List Str->List Str->(Shared->Bool)->Bool->Shared->α)(p q:Program)(loose:List Str)(Xt:Shared->Bool)(w:World)(s:Shared):Bool×α:=
 (staticsOk (importedModules p.main.body) (boot_heap w.params) s.heap&&namesBound p s.heap&&gensDone s&&laidKept (boot_heap w.params) s.heap,sn q loose (importedModules p.main.body) Xt true s)
theorem a91{p p':Program}{q:Program->Program}{loose:List Str}{Xt:Program->Shared->Bool}{N:Nat}{β:Type}{ob:Frag->β}{va:Program->β}
 {ok:Nat->Option Value->Thread->Bool} {st:(Code->Sem Fin)->Program->World->SharedT->Thread->Option (SharedT×Thread)} {dn:(String->Option Builtin)->Code->Sem Fin} {tb:String->Option Builtin}
 {sn:Program->List Str->List Str->(Shared->Bool)->Bool->Shared->_}
 (hp:p=p') (hok:stepOk=ok) (hst:stepT=st) (hdn:denote=dn) (htb:treeTable=tb) (hsn:openSeen=sn)
 (op:∀w:World,(fencedOpening treeTable p w N).map (λs=>(s.heap,s.gens,s.drawn,s.toks))=some (boot_heap w.params,#[],boot_drawn,boot_toks))
 (ck:∀(w:World) (os:OsState),(a87 (ok 11 (some (.ref 6))) (st (dn tb) p' w) N (aY2 w os) (topStub p')).map (λS=>(lk sn p' (q p') loose (Xt p') w S.abs,ob (az2 S)))=some ((true,openGood (q p') loose),va p')) :
 LeftO p (q p) loose (Xt p) (λs=>az1 s.heap) (Kw p N) N/\∀w,ob (Kw p N w)=va p:=by
 subst hp hok hst hdn htb hsn
 have key:∀w,∃s,openEnds treeTable p w N=some s/\openSeen (q p) loose (importedModules p.main.body) (Xt p) true s=openGood (q p) loose/\ob (az1 s.heap)=va p:=by
  intro w
  obtain⟨⟨h,gs,d,k,os⟩,e,e'⟩:=Option.map_eq_some_iff.mp (op w)
  simp only [Prod.mk.injEq] at e'
  obtain⟨rfl,rfl,rfl,rfl⟩:=e'
  obtain⟨S,r,c⟩:=Option.map_eq_some_iff.mp (ck w os)
  simp only [lk,Prod.mk.injEq] at c
  obtain⟨⟨c1,c2⟩,c3⟩:=c
  have r1:=a88 N _ _ _ r
  rw [aY3] at r1
  have b:=a89 w.params
  simp only [Prod.mk.injEq] at b
  obtain⟨b1,b2,b3⟩:=b
  refine⟨S.abs,?_,c2,by rw [aY4];exact c3⟩
  unfold openEnds
  rw [e]
  show topFrom treeTable p w N _=_
  unfold topFrom
  dsimp only
  rw [b1,b2,b3,r1]
  show (match staticsOk (importedModules p.main.body) (boot_heap w.params) S.abs.heap&&namesBound p S.abs.heap&&gensDone S.abs&&laidKept (boot_heap w.params) S.abs.heap with | true=>some S.abs | false=>none)=_
  rw [c1]
 refine⟨λw=>?_,λw=>?_⟩
 ·obtain⟨s,e,c2,_⟩:=key w
  rw [e]
  show some _=some _
  unfold Kw
  rw [e]
  exact congrArg some (Prod.ext c2 rfl)
 ·obtain⟨s,e,_,c3⟩:=key w
  unfold Kw
  rw [e]
  exact c3
def bs8:Stmt->Pos
 | .FunctionDef _ _ _ _ _ _ _ _ _ p=>p
 | _=>⟨0,0,0,0⟩
theorem aY5{l:OpenLaw}{q:Program}{loose:List Str}{N:Nat}{d:DefRec}
 (left:LeftO l.row.prog q loose (λs=>xlAt q [] s&&recOk (RowW.records l.row.toRowW) s) (λs=>az1 s.heap) (Kw l.row.prog N) N)
 (hdef:defOf q l.row.name=some (d,[])) (hp:l.row.prog.theDef l.row.name=some (d.params,d.body,d.scope)) (hk:kwWritten? d.params.kwonlyargs d.params.kw_defaults=some [])
 (hwr:(!l.row.writes||l.row.records.isEmpty)=true) (k1:l.row.wellSaid=true) (ok:(chainsOk q&&opensWell l.row.prog&&(frees l.row.toRowW&&l.row.within.isEmpty))=true) (hb:l.row.prog.bare) (hw:l.row.toRowW.promised)
 (call:WalkO q loose (XL q []) (λw h=>(Kw l.row.prog N w).In h) l.row.toRowW d [] λf vs=>PySem.call f vs):l.row.Holds:=
 holds_open left (λw s e=>by rw [←e];exact a90 _) (λw h h' x k=>x.keeps k) (λs e=>xl_of s (Bool.and_eq_true_iff.mp e).1) XL.keeps hdef hp hk (λs e=>recFacts_of (Bool.and_eq_true_iff.mp e).2) hwr k1 ok hb hw call
theorem p1{α β:Type}{a a':α}{b b':β}(h:(a,b)=(a',b')):a=a':=(Prod.mk.inj h).1
end Ws
namespace Ws
open PySem L2
theorem aO8{l:PySem.W.OpenLaw}{q:Program}{loose:List Str}{XP:(Str->Option Value)->Heap->Prop}{YP:World->Heap->Prop}{d:DefRec}{K:World->PySem.W.Frag}{k:Nat}{x:Str}(hn:l.most=some 63)(hdf:d.params.defaults=[])(hr:Room k PySem.callerA)
 (hY:∀(w:World) (h:Heap),YP w h->(K w).In h)
 (F:∀(w:World) (mg:Str->Option Value) (fa:Addr) (h:Heap),(K w).In h->h.Ns mainGlobals mg->mg d.name=some (.ref fa)->
  ∃fd:FuncData,(∀(s:Shared) (u:Value),BindsTo s fd ⟨[u],[]⟩ [(x,u)])/\∀base:Heap,(K w).In base->base.Ns mainGlobals mg->FnOk l.prog w (K w) mg base CX0 k fa fd [x] (aY0 (K w))) :
 PySem.W.WalkO q loose XP YP l.row.toRowW d [] (λf vs=>PySem.call f vs):=by
 refine Att.ax3 hn hdf λw s₀ s₁ mg mb fa o pm cd doc a vs ns G Y ho hd hcd hmg hobj hints hlen hg=>?_
 obtain⟨fd,hb,hF⟩:=F w mg fa _ (hY w _ Y) G.T.g hmg
 exact aV0 (hY w _ Y) G.T.g G.T.b G.T.builtins G.T.nolimit hg hobj hints (Nat.le_trans hlen (by decide)) hr hF hb (λH hO hS=>⟨a,ns,rfl,hS,hlen,hO,λ_=>rfl⟩) λH e s' z=>z
end Ws
open PySem PySem.Spec PyProof.Rows
namespace Ws
end Ws
namespace Ws
open PySem L2
section
variable{ρ:List Addr}{H:Hp}{K:PySem.W.Frag}{A:PHp}{n:Nat}{v:V}
theorem Pairs.cons_inv{κ κ':Type}{f:κ->κ'}{p:κ×PV}{r:List (κ×PV)}{kv:List (κ'×V)}(h:Pairs f ρ H (p::r) kv):∃u kv',kv=(f p.1,u)::kv'/\RV ρ H p.2 u/\Pairs f ρ H r kv':=by
 obtain⟨k,v⟩:=h
 cases kv with
 | nil=>cases k
 | cons q t=>
   obtain⟨g,u⟩:=q
   simp only [List.map_cons,List.cons.injEq] at k
   cases v with
   | cons hv hr=>exact⟨u,t,by rw [←k.1],hv,k.2,hr⟩
theorem Pairs.nil_inv{κ κ':Type}{f:κ->κ'}{kv:List (κ'×V)}(h:Pairs f ρ H [] kv):kv=[]:=by
 obtain⟨k,v⟩:=h
 cases kv with
 | nil=>rfl
 | cons q t=>cases k
theorem Pairs.cons'{κ κ':Type}{f:κ->κ'}{p:κ×PV}{u:V}{r:List (κ×PV)}{kv:List (κ'×V)}(h:RV ρ H p.2 u)(t:Pairs f ρ H r kv):Pairs f ρ H (p::r) ((f p.1,u)::kv):=
 ⟨by rw [List.map_cons,List.map_cons,t.keys],.cons h t.vals⟩
end
end Ws
namespace Ws
open PySem PySem.W PyProof.Rows L2
section
variable{X:Cx}{cm:Nat->Addr}
theorem y0{M:Model}{A:Around}{E:Value->Shared->Prop}{s:Shared}{e:Expr}{env:Env}{pos:Pos}{Q:List Value->Shared->Prop}(hs:starEach [e] env=(false,eval e env)::starEach [] env)(h:wpAny M A (eval e env) (λu s1=>Q [u] s1) E s):wpAny M A (spliced (backTo pos (starEach [e] env))) Q E s:=by
 rw [hs]
 exact Calls.spliced_cons (thn h λu s1 q=>Calls.spliced_nil q)
theorem bm6{σ:L2.St}{H:Hp}{Q:List V->Hp->Prop}(h:EvA X.K cm aNil σ H Q):tNil σ H Q:=by
 obtain⟨ρ,A,σp,vs,A',rl,rs,ev,k⟩:=h
 cases ev
 exact k ρ H [] (Ext.refl _ _) rl .nil
theorem k0{c:Nat}{f:Fun}{n k k':Nat}{ps:List Str}{m:Str}{o:Expr}{d:ED}{apos pos:Pos}{pl:Sem Bool}(D:P5 X.prog X.w X.K X.mg X.base cm c m k ps f n)(hk:k<=k')(hr:Room k' X.A)(hc:Cls X.K (cm c))(ho:PE X o (EvE X.K cm d))(hnm:∀i,i<19->fnm i≠m)
 (ht:eval (.Call (.Attribute o m apos) [] [] pos) X.env=(do
  let ov ←eval o X.env
  standAt apos.atName
  let (f,first) ←holding [ov] (getMethod ov m pl)
  callWith pos f first (backTo pos (starEach [] X.env)) (backToKw pos (keywordEach [] X.env))):=by rfl) :
 PE X (.Call (.Attribute o m apos) [] [] pos) (EvE X.K cm (J5 c f d aNil)):=by
 obtain⟨fa,fd,F,hm,hb⟩:=D.ex
 refine E3 (aU5 (pl:=pl) ho hc hm F (hr.mono hk) hb (dvs:=[]) .nil aH9 ht) λσ H Q h=>?_
 obtain⟨ρ,A,σp,v,A',rl,rs,ev,k⟩:=aI6 (n:=n) D.len hnm h
 exact⟨ρ,A,σp,v,A',rl,rs,ev,λρ1 H1 v1 x1 rl1 rv1=>by
  obtain⟨a,dx,fs,h1,h2,h3,h4⟩:=k ρ1 H1 v1 x1 rl1 rv1
  exact⟨a,dx,fs,h1,h2,h3,bm6 h4⟩⟩
end
structure FunD(K:PySem.W.Frag)(x qual:Str)(st:Stmt)(f:Addr)(fd:FuncData)(items:Array Value):Prop where
 ex:∃(T:Addr) (oc:Value) (od:Option Addr) (kV doc pm:Value) (an:Option Addr) (cdv ct:Value) (osl:Array (Option Value)) (tc:Value) (td:Option Addr) (tn:Nat) (ts:Array (Option Value)),
  fd=PySem.W.fnOf x qual (C5 st) (C4 st) (C0 st) (.ref T) kV doc pm an cdv ct/\K.lookup f=some ⟨oc,od,.func fd,osl⟩/\PySem.W.codeIn K cdv qual=true/\K.lookup T=some ⟨tc,td,.seq items tn,ts⟩
 kp:PySem.W.keepIn K (.ref f)=true
section
variable{P:Program}{w:World}{K:PySem.W.Frag}{mg:Str->Option Value}{base:Heap}{cm:Nat->Addr}
theorem FunD.binds{x qual:Str}{st:Stmt}{f:Addr}{fd:FuncData}{items:Array Value}{ps:List Str}{ds:List Value}(F:FunD K x qual st f fd items)(n:Nat)(hn:n+ds.length=ps.length)
 (h:∀(T:Addr) (kV doc pm:Value) (an:Option Addr) (cdv ct:Value) (us:List Value),us.length=n->∃k,bindArgs (PySem.W.fnOf x qual (C5 st) (C4 st) (C0 st) (.ref T) kV doc pm an cdv ct) ⟨us,[]⟩=(seqItems? (.ref T)>>=k)/\k (some items)=pure (ps.zip (us++ds))):L2.Binds K fd ps ds:=by
 obtain⟨T,oc,od,kV,doc,pm,an,cdv,ct,osl,tc,td,tn,ts,rfl,lk,hcd,lt⟩:=F.ex
 intro s us X hl
 obtain⟨k,h1,h2⟩:=h T kV doc pm an cdv ct us (by rw [List.length_append] at hl;omega)
 exact binds_K X rfl lt rfl h1 h2
theorem a92{x qual:Str}{st:Stmt}{f T:Addr}{items:Array Value}{oc:Value}{od an:Option Addr}{osl:Array (Option Value)}{kV doc pm cdv ct:Value}{tc:Value}{td:Option Addr}{tn:Nat}{ts:Array (Option Value)}
 (l:K.lookup f=some ⟨oc,od,.func (PySem.W.fnOf x qual (C5 st) (C4 st) (C0 st) (.ref T) kV doc pm an cdv ct),osl⟩) (c:PySem.W.codeIn K cdv qual=true) (k:PySem.W.keepIn K (.ref f)=true) (lt:K.lookup T=some ⟨tc,td,.seq items tn,ts⟩) :
 FunD K x qual st f (PySem.W.fnOf x qual (C5 st) (C4 st) (C0 st) (.ref T) kV doc pm an cdv ct) items:=⟨⟨T,oc,od,kV,doc,pm,an,cdv,ct,osl,tc,td,tn,ts,rfl,l,c,lt⟩,k⟩
theorem bm7{x qual:Str}{st:Stmt}{f:Addr}{fd:FuncData}{items:Array Value}{N ps:List Str}{k:Nat}{s:SD}(F:FunD K x qual st f fd items)(S:C7 N ps (C0 st))
 (hbody:∀(cdv:Value) (A:Around) (outer:List Env) (s0:Shared) (H:Hp) (E:L2.XK),Room k (A.deeper (PyProof.Rows.envOfC qual (C0 st) s0.heap.objs.size f cdv))->
  PSs (an3 CX0 P w K mg base N qual (C0 st) f cdv A outer s0 H E).nox (C4 st) (EvS K cm s)) :
 FnOk P w K mg base CX0 (k+1) f fd ps (SpF K cm (fn N.length ps.length s) ps.length):=by
 obtain⟨T,oc,od,kV,doc,pm,an,cdv,ct,osl,tc,td,tn,ts,rfl,lk,hcd,lt⟩:=F.ex
 refine be3 lk hcd S (λvs H Q E ⟨ρ,A,qs,v,A',rl,rv,hl,_,_⟩=>by rw [←rv.length];exact hl) λA outer s0 H vs Q E hr h=>⟨_,(hbody cdv A outer s0 H E hr).nox,?_⟩
 obtain⟨ρ,B,qs,v,B',rl,rv,hl,ev,k⟩:=h
 obtain⟨_,ev1⟩:=C8 ev
 obtain⟨o,B1,e1,ev2⟩:=B0 ev1
 refine⟨ρ,B,Ws.start N.length qs,o,B1,rl,RSt.start0 rv,e1,λρ1 H1 x1 rl1=>?_⟩
 cases o with
 | nx σ1=>cases ev2;exact λσ' _=>k ρ1 H1 _ x1 rl1 .non
 | rt u=>cases ev2;exact λv' rv'=>k ρ1 H1 v' x1 rl1 rv'
 | bk σ1=>cases ev2
 | ct σ1=>cases ev2
end
section
variable{X:Cx}{cm:Nat->Addr}
theorem au8:∀{bs:List Bool} {us:List Value},Vals (bs.map V.bl) us->∀(i:Nat) (v:Value),us[i]?=some v->∃b,bs[i]?=some b/\v=.bool b
 | [],_,.nil,i,v,h=>by simp at h
 | b::bs,_,.cons r t,0,v,h=>by
   cases r
   simp at h;subst h
   exact⟨b,rfl,rfl⟩
 | b::bs,_,.cons r t,i+1,v,h=>au8 t i v (by simpa using h)
theorem aO9(bs:List Bool):((List.range bs.length).all λi=>(bs[i]?).getD true)=bs.all id:=by
 induction bs with
 | nil=>rfl
 | cons b r ih=>
   rw [List.length_cons,List.range_succ_eq_map,List.all_cons,List.all_map,List.all_cons,←ih]
   rfl
def bw8(K:PySem.W.Frag):List V->Hp->VK->Prop:=λvs H Q=>∃(a:Addr) (bs:List Bool),vs=[.ref a]/\SqL K H a (bs.map V.bl)/\Q (.bl (bs.all id)) H
theorem aP0(hcalm:X.calm=true):CallR X (.builtin "all") (bw8 X.K):=by
 intro pins s σ H xs us Q I r h
 obtain⟨a,bs,rfl,hq,q⟩:=h
 obtain⟨u,rfl,rx⟩:=Y4 r
 cases rx
 obtain⟨its,ri,pl,hz⟩:=I.list hq
 have hil:=pl.isList
 have hal:a<s.heap.objs.size:=by
  obtain⟨_,e,_⟩:=hil
  exact Heap.lt_size e
 have hlen:its.length=bs.length:=by
  have:=ri.length
  simpa using this.symm
 refine call_all_walk (wpAny_pyIter_list hil ⟨s.heap.objs.size,[s.heap.objs.size,a],[s.heap.objs.size],its.toArray.size,_,_,λi=>(bs[i]?).getD true,rfl,
  Walks.list (A:=X.A.in1) (I.ok.hd hcalm) _ a (Nat.ne_of_lt hal) its.toArray,⟨⟨_,Heap.get?_push_size _ rfl,rfl,rfl⟩,hil.push _⟩,?_,?_⟩)
 ·intro i v s2 Q2 E2 hP hQ2
  obtain⟨b,e1,rfl⟩:=au8 ri i v (by simpa using hP)
  have hQ3:Q2 ((bs[i]?).getD true) s2:=hQ2
  rw [e1] at hQ3
  exact wpAny_truthy_bool hQ3
 ·intro h2 tk hk
  have e1:its.toArray.size=bs.length:=by rw [List.size_toArray];exact hlen
  rw [e1,aO9]
  exact⟨.bl _,H,I.kept (t':=tk) (λb o e=>hk b o (λhm=>by rw [List.mem_singleton.mp hm] at e;exact absurd (Heap.lt_size e) (Nat.lt_irrefl _)) (Heap.get?_push_of_some _ e)),rfl,q⟩
theorem ab6:∀{l:List PV} {bs:List Bool},a9 l=some bs->l=bs.map .bl
 | [],bs,h=>by simp [a9] at h;subst h;rfl
 | x::r,bs,h=>by
   cases x with
   | bl b=>
     simp only [a9,Option.map_eq_some_iff] at h
     obtain⟨m,h1,rfl⟩:=h
     rw [ab6 h1];rfl
   | _=>simp [a9] at h
theorem au9:∀{ρ:List Addr} {H:Hp} {bs:List Bool} {xs:List V},RVs ρ H (bs.map PV.bl) xs->xs=bs.map V.bl
 | _,_,[],_,.nil=>rfl
 | _,_,b::bs,_,.cons h t=>by cases h;rw [au9 t];rfl
theorem aq0{e:Expr}{d:ED}{p pos:Pos}(hcalm:X.calm=true)(he:PE X e (EvE X.K cm d))(hg:Gl X "all")(hm:X.mg "all" = none)(hs:starEach [e] X.env=(false,eval e X.env)::starEach [] X.env:=by exact E5 rfl):PE X (.Call (.Name "all" p) [e] [] pos) (EvE X.K cm (ay1 d)):=
 E3 (S4 (aP0 hcalm) hg hm (by rfl) (r_cons he r_nil hs) (he:=hs)) λσ H Q h=>Z5 (f:=λx=>match x with | .ref n=>bnd (D3 n) λl=>(match a9 l with | some bs=>ret (.bl (bs.all id)) | none=>stuck) | _=>stuck) (λ_=>rfl) (λρ A H x z A' v Q rl rx ev k=>by
  cases x with
  | ref n=>
    obtain⟨l,A1,e1,ev1⟩:=B0 ev
    obtain⟨rfl,a,xs,rfl,hq,hv⟩:=K1 rl rx e1
    cases hb:a9 l with
    | none=>rw [hb] at ev1;cases ev1
    | some bs=>
      rw [hb] at ev1
      cases ev1
      rw [ab6 hb] at hv
      exact⟨a,bs,rfl,by rw [←au9 hv];exact hq,k ρ H _ (Ext.refl _ _) rl (.bl _)⟩
  | _=>cases ev) h
end
def o1(val:Nat->Int)(j n:Nat):List Int:=(List.range (n - j)).map λi=>val (j+i)
theorem aY6(val:Nat->Int)(n:Nat):o1 val n n=[]:=by simp [o1]
theorem aP1(val:Nat->Int){j n:Nat}(h:j<n):o1 val j n=val j::o1 val (j+1) n:=by
 unfold o1
 rw [show n - j=(n - (j+1))+1 by omega,List.range_succ_eq_map,List.map_cons,List.map_map]
 have e:((λi=>val (j+i)) ∘ Nat.succ)=λi=>val (j+1+i):=by
  funext i
  show val (j+(i+1))=val (j+1+i)
  congr 1;omega
 rw [e,Nat.add_zero]
section
variable{prog:Program}{w:World}{A:Around}{R:Result->Shared->Prop}{I:Addr}{fp wr:List Addr}{n:Nat}{P:Nat->Value->Prop}{St:Nat->Heap->Prop}{kw:List (Str×Value)}
theorem n5:(toString "max"++toString ".loop" : String)="max.loop":=by decide
theorem aJ8(W:Walks prog w A.in1 I fp wr n P St)(val:Nat->Int)(hv:∀i v,P i v->∃t,v=.int (val i) t)(S:Addr)(hS:S∉fp) :
 ∀(k j:Nat) (s:Shared) (m:Int) (t:Tok) (c:Nat),n - j=k->j<=n->St j s.heap->
 s.heap.get? S=some { cls:=.type "list",dict:=none,data:=.seq #[.int m t,.int m t] c,slots:=#[] }->
 (∀t' h' tk,(∀b o,b∉wr->b≠S->s.heap.get? b=some o->h'.get? b=some o)->R (.ok (.ret (.int (V2 m (o1 val j n)) t'))) { s with heap:=h',toks:=tk })->
 codeAny (model prog w) A (.builtin "max.loop" ⟨[.ref I,.none,.ref S],kw⟩) R s:=by
 have hw:S∉wr:=λz=>hS (W.sub _ z)
 intro k
 induction k with
 | zero=>
   intro j s m t c hk hj st gS done
   obtain rfl:j=n:=by omega
   refine (codeAny_builtin F.entry_max_loop ?_)
   rw [Around.under_plainId F.plain_max_loop _]
   refine (wpAny_bind (m:=seqItems? (.ref S)) (wpAny_seqItems gS rfl ?_))
   refine (wpAny_bind (wpAny_tryCatch (W.done s _ _ st λh1 tk1 k1=>?_)))
   have g1:=k1 S _ hw gS
   refine (wpAny_bind (m:=updateSeq S (λ_=>#[])) (wpAny_updateSeq g1 rfl (wpAny_bind (wpAny_letGo (wpAny_pure ?_)))))
   have d:=done t (h1.update S (Obj.mapSeq λ_=>#[])) tk1 λb o hb hbS e=>(Heap.get?_update_other _ _ (λz=>hbS z.symm)).trans (k1 b o hb e)
   rw [aY6] at d
   exact d
 | succ k ih=>
   intro j s m t c hk hj st gS done
   have hlt:j<n:=by omega
   refine (codeAny_builtin F.entry_max_loop ?_)
   rw [Around.under_plainId F.plain_max_loop _]
   refine (wpAny_bind (m:=seqItems? (.ref S)) (wpAny_seqItems gS rfl ?_))
   refine (wpAny_bind (wpAny_tryCatch (W.item j s _ _ hlt st λv h1 tk1 hP st1 k1=>?_)))
   have g1:=k1 S _ hw gS
   obtain⟨t1,rfl⟩:=hv j v hP
   refine (wpAny_bind (m:=(tryCatch (holding [.int (val j) t1,.int (val j) t1] (richCompare .Gt (.int (val j) t1) (.int m t)>>=_)) _)) (wpAny_tryCatch (wpAny_holding (wpAny_bind ?_))))
   refine CmpOf.ints_gt (P:=λi v=>i=0/\v=.int (val j) t1\/i=1/\v=.int m t) (λi=>if i=0 then val j else m) (λi v h=>?_) 0 1 _ _ _ _ _ (.inl ⟨rfl,rfl⟩) (.inr ⟨rfl,rfl⟩) ?_
   ·rcases h with ⟨rfl,rfl⟩ | ⟨rfl,rfl⟩
    ·exact⟨_,rfl⟩
    ·exact⟨_,rfl⟩
   ·refine (wpAny_bind (wpAny_holding (wpAny_truthy_bool ?_)))
    refine (wpAny_bind (wpAny_letGo (wpAny_pure ?_)))
    have hnx:V2 m (o1 val j n)=V2 (if m<val j then val j else m) (o1 val (j+1) n):=by rw [aP1 val hlt];rfl
    show wpAny _ A.in1 (if decide (val j > m)=true then _ else _) _ _ _
    by_cases hb':m<val j
    ·rw [if_pos hb'] at hnx
     rw [if_pos (by simpa using hb')]
     apply wpAny_bind
     refine (wpAny_updateSeq g1 rfl (wpAny_bind (wpAny_letGo ?_)))
     rw [n5]
     refine (wpAny_pure ⟨plainId_quiet F.plain_max_loop _,ih (j+1) _ (val j) t1 _ (by omega) hlt (W.frame _ _ _ st1 λb hbf o e=>?_) (Heap.get?_update_self _ g1 rfl) λt' h2 tk2 k2=>?_⟩)
     ·exact (Heap.get?_update_other _ _ (λz:S=b=>hS (by rw [z];exact hbf))).trans e
     ·have d:=done t' h2 tk2 λb o hbw hbS e=>k2 b o hbw hbS ((Heap.get?_update_other _ _ (λz=>hbS z.symm)).trans (k1 b o hbw e))
      rw [hnx] at d
      exact d
    ·rw [if_neg hb'] at hnx
     rw [if_neg (by simpa using hb')]
     apply wpAny_bind
     refine (wpAny_letGo ?_)
     rw [n5]
     refine (wpAny_pure ⟨plainId_quiet F.plain_max_loop _,ih (j+1) _ m t c (by omega) hlt st1 g1 λt' h2 tk2 k2=>?_⟩)
     have d:=done t' h2 tk2 λb o hbw hbS e=>k2 b o hbw hbS (k1 b o hbw e)
     rw [hnx] at d
     exact d
theorem a93{kw:List (Str×Value)}(W:Walks prog w A.in1 I fp wr n P St)(val:Nat->Int)(hv:∀i v,P i v->∃t,v=.int (val i) t)(S:Addr)(hS:S∉fp){s:Shared}{c:Nat}(st:St 0 s.heap)
 (gS:s.heap.get? S=some { cls:=.type "list",dict:=none,data:=.seq #[] c,slots:=#[] }) (hn:0<n)
 (d1:∀t' h' tk,(∀b o,b∉wr->b≠S->s.heap.get? b=some o->h'.get? b=some o)->R (.ok (.ret (.int (V2 (val 0) (o1 val 1 n)) t'))) { s with heap:=h',toks:=tk }) :
 codeAny (model prog w) A (.builtin "max.loop" ⟨[.ref I,.none,.ref S],kw⟩) R s:=by
 have hw:S∉wr:=λz=>hS (W.sub _ z)
 refine (codeAny_builtin F.entry_max_loop ?_)
 rw [Around.under_plainId F.plain_max_loop _]
 refine (wpAny_bind (m:=seqItems? (.ref S)) (wpAny_seqItems gS rfl ?_))
 refine (wpAny_bind (wpAny_tryCatch (W.item 0 s _ _ (by omega) st λv h1 tk1 hP st1 k1=>?_)))
 have g1:=k1 S _ hw gS
 obtain⟨t1,rfl⟩:=hv 0 v hP
 show wpAny _ A.in1 (updateSeq S (λ_=>#[.int (val 0) t1,.int (val 0) t1])>>=_) _ _ _
 apply wpAny_bind
 refine (wpAny_updateSeq g1 rfl ?_)
 rw [n5]
 refine (wpAny_pure ⟨plainId_quiet F.plain_max_loop _,aJ8 W val hv S hS _ 1 _ (val 0) t1 _ rfl (by omega) (W.frame _ _ _ st1 λb hbf o e=>?_) (Heap.get?_update_self _ g1 rfl) λt' h2 tk2 k2=>?_⟩)
 ·exact (Heap.get?_update_other _ _ (λz:S=b=>hS (by rw [z];exact hbf))).trans e
 ·exact d1 t' h2 tk2 λb o hbw hbS e=>k2 b o hbw hbS ((Heap.get?_update_other _ _ (λz=>hbS z.symm)).trans (k1 b o hbw e))
theorem aY7(W:Walks prog w A.in1 I fp wr n P St)(val:Nat->Int)(hv:∀i v,P i v->∃t,v=.int (val i) t)(S:Addr)(hS:S∉fp){s:Shared}{c:Nat}{d:Value}(st:St 0 s.heap)
 (gS:s.heap.get? S=some { cls:=.type "list",dict:=none,data:=.seq #[] c,slots:=#[] })
 (d0:n=0->∀h' tk,(∀b o,b∉wr->b≠S->s.heap.get? b=some o->h'.get? b=some o)->R (.ok (.ret d)) { s with heap:=h',toks:=tk })
 (d1:0<n->∀t' h' tk,(∀b o,b∉wr->b≠S->s.heap.get? b=some o->h'.get? b=some o)->R (.ok (.ret (.int (V2 (val 0) (o1 val 1 n)) t'))) { s with heap:=h',toks:=tk }) :
 codeAny (model prog w) A (.builtin "max.loop" ⟨[.ref I,.none,.ref S],[("default",d)]⟩) R s:=by
 have hw:S∉wr:=λz=>hS (W.sub _ z)
 refine (codeAny_builtin F.entry_max_loop ?_)
 rw [Around.under_plainId F.plain_max_loop _]
 refine (wpAny_bind (m:=seqItems? (.ref S)) (wpAny_seqItems gS rfl ?_))
 by_cases hn:n=0
 ·subst hn
  refine (wpAny_bind (wpAny_tryCatch (W.done s _ _ st λh1 tk1 k1=>?_)))
  refine (wpAny_bind (wpAny_rule (wpAny_pure ?_)))
  exact d0 rfl h1 tk1 λb o hb _ e=>k1 b o hb e
 ·refine (wpAny_bind (wpAny_tryCatch (W.item 0 s _ _ (by omega) st λv h1 tk1 hP st1 k1=>?_)))
  have g1:=k1 S _ hw gS
  obtain⟨t1,rfl⟩:=hv 0 v hP
  show wpAny _ A.in1 (updateSeq S (λ_=>#[.int (val 0) t1,.int (val 0) t1])>>=_) _ _ _
  apply wpAny_bind
  refine (wpAny_updateSeq g1 rfl ?_)
  rw [n5]
  refine (wpAny_pure ⟨plainId_quiet F.plain_max_loop _,aJ8 W val hv S hS _ 1 _ (val 0) t1 _ rfl (by omega) (W.frame _ _ _ st1 λb hbf o e=>?_) (Heap.get?_update_self _ g1 rfl) λt' h2 tk2 k2=>?_⟩)
  ·exact (Heap.get?_update_other _ _ (λz:S=b=>hS (by rw [z];exact hbf))).trans e
  ·exact d1 (by omega) t' h2 tk2 λb o hbw hbS e=>k2 b o hbw hbS ((Heap.get?_update_other _ _ (λz=>hbS z.symm)).trans (k1 b o hbw e))
end
section
variable{prog:Program}{w:World}{A:Around}{E:Value->Shared->Prop}{s:Shared}{Q:Value->Shared->Prop}
theorem aY8(a d:Value):argsOk "max" ⟨[a],[("default",d)]⟩:=by unfold argsOk;kernel_rfl
theorem ai9{id:String}{b:Builtin}{args:List Value}{kw:List (Str×Value)}(hk:builtinKind id=none)(hp:plainId id=true)(hb:entryFor table id=some b)(ha:argsOk id ⟨args,kw⟩)
 (hc:wpAny (model prog w) A.in1 (b ⟨args,kw⟩) (λfin s'=>match fin with
  | .done f=>(match (Except.ok f:Result) with | .ok (.ret v)=>Q v s' | .ok _=>False | .error e=>E e s')
  | .again c'=>c'.quiet=true/\codeAny (model prog w) A c' (λr s'=>match r with | .ok (.ret v)=>Q v s' | .ok _=>False | .error e=>E e s') s') E s):wpAny (model prog w) A (call (.builtin id) args kw) Q E s:=by
 refine (wpAny_call (codeAny_call_builtin hp hb ?_))
 simp only [checkBuiltinCall,hk]
 cases z:Manifest.signature? id with
 | none=>exact wpAny_pure hc
 | some sig=>
   simp only [argsOk,z] at ha
   show wpAny _ A.in1 (Bind.checkArgs id sig ⟨args,kw⟩) _ _ s
   rw [show Bind.checkArgs id sig ⟨args,kw⟩=pure () from ha];exact wpAny_pure hc
theorem aY9{l:Addr}{its:List Value}{ns:List Int}{d:Value}(hh:A.handled=none)(hl:s.heap.IsList l its.toArray)(hi:IntsAre its ns)
 (h0:ns=[]->∀h' tk,(∀b o,s.heap.get? b=some o->h'.get? b=some o)->Q d { s with heap:=h',toks:=tk })
 (h1:∀i r,ns=i::r->∀t h' tk,(∀b o,s.heap.get? b=some o->h'.get? b=some o)->Q (.int (V2 i r) t) { s with heap:=h',toks:=tk }) :
 wpAny (model prog w) A (call (.builtin "max") [.ref l] [("default",d)]) Q E s:=by
 have hlt:l<s.heap.objs.size:=by
  obtain⟨_,e,_⟩:=hl
  exact Heap.lt_size e
 have hlen:its.toArray.size=ns.length:=by rw [List.size_toArray];exact hi.length
 refine ai9 F.kind_max F.plain_max F.entry_max (aY8 _ _) ?_
 show wpAny _ A.in1 (Builtin.Builtins.bindParams "max" ["key","default"] 0 ⟨[],[("default",d)]⟩>>=_) _ _ s
 refine (wpAny_bind (wpAny_of_eq (show Builtin.Builtins.bindParams "max" ["key","default"] 0 ⟨[],[("default",d)]⟩=pure [none,some d] from rfl) ?_))
 refine (wpAny_bind (wpAny_pure ?_))
 refine (wpAny_bind (wpAny_pyIter_list hl ?_))
 refine (wpAny_bind (wpAny_newObj_type ?_))
 rw [n5]
 have W:=Walks.list (prog:=prog) (w:=w) (A:=A.in1) hh s.heap.objs.size l (Nat.ne_of_lt hlt) its.toArray
 have hget:∀i v,its.toArray[i]?=some v->∃t,v=Value.int (ns.getD i 0) t:=by
  intro i v hv
  rw [List.getElem?_toArray] at hv
  have hil:i<ns.length:=by
   have:=(List.getElem?_eq_some_iff.mp hv).1
   rwa [hi.length] at this
  obtain⟨t,e1⟩:=hi.get i ns[i] (List.getElem?_eq_getElem hil)
  rw [e1] at hv
  exact⟨t,by rw [←Option.some.inj hv];simp [hil]⟩
 have hsz:(s.heap.push { cls:=.type "list_iterator",data:=.fields #[.ref l,.int 0 0] }).objs.size=s.heap.objs.size+1:=Heap.size_push ..
 have old:∀(h2:Heap),(∀b o,b∉[s.heap.objs.size]->b≠(s.heap.push { cls:=.type "list_iterator",data:=.fields #[.ref l,.int 0 0] }).objs.size->((s.heap.push { cls:=.type "list_iterator",data:=.fields #[.ref l,.int 0 0] }).push { cls:=.type "list",data:=.seq #[] 0 }).get? b=some o->h2.get? b=some o)->∀b o,s.heap.get? b=some o->h2.get? b=some o:=by
  intro h2 k2 b o e
  have hb:b<s.heap.objs.size:=Heap.lt_size e
  exact k2 b o (λz=>absurd (List.mem_singleton.mp z) (Nat.ne_of_lt hb)) (by rw [hsz];exact Nat.ne_of_lt (Nat.lt_succ_of_lt hb)) (Heap.get?_push_of_some _ (Heap.get?_push_of_some _ e))
 have hup:∀i r,ns=i::r->V2 (ns.getD 0 0) (o1 (λk=>ns.getD k 0) 1 ns.length)=V2 i r:=by
  rintro i r rfl
  have:o1 (λk=>(i::r).getD k 0) 1 (i::r).length=r:=by
   unfold o1
   refine List.ext_getElem? λk=>?_
   rw [List.getElem?_map]
   simp only [List.length_cons,Nat.add_sub_cancel]
   by_cases hk:k<r.length
   ·rw [List.getElem?_range hk]
    simp [Nat.add_comm 1 k,hk]
   ·simp [hk]
  rw [this];rfl
 have st0:=W.frame 0 _ ((s.heap.push { cls:=.type "list_iterator",data:=.fields #[.ref l,.int 0 0] }).push { cls:=.type "list",data:=.seq #[] 0 }) ⟨⟨_,Heap.get?_push_size _ rfl,rfl,rfl⟩,hl.push _⟩ λb _ o e=>Heap.get?_push_of_some _ e
 refine (wpAny_pure ⟨plainId_quiet F.plain_max_loop _,aY7 (s:={ s with heap:=(s.heap.push { cls:=.type "list_iterator",data:=.fields #[.ref l,.int 0 0] }).push { cls:=.type "list",data:=.seq #[] 0 } }) W (λk=>ns.getD k 0) hget (s.heap.push { cls:=.type "list_iterator",data:=.fields #[.ref l,.int 0 0] }).objs.size ?_ st0 (Heap.get?_push_size _ rfl) ?_ ?_⟩)
 ·rw [hsz]
  intro z
  rcases List.mem_cons.mp z with e | z
  ·exact Nat.succ_ne_self _ e
  ·have e:=List.mem_singleton.mp z
   rw [←e] at hlt
   exact Nat.lt_irrefl _ (Nat.lt_of_succ_lt hlt)
 ·intro hn h2 tk k2
  exact h0 (by rw [hlen] at hn;exact List.length_eq_zero_iff.mp hn) h2 tk (old h2 k2)
 ·intro hn t h2 tk k2
  obtain⟨i,r,hns⟩:∃i r,ns=i::r:=by
   cases ns with
   | nil=>rw [hlen] at hn;exact absurd hn (by simp)
   | cons i r=>exact⟨i,r,rfl⟩
  rw [hlen,hup i r hns]
  exact h1 i r hns t h2 tk (old h2 k2)
end
section
variable{X:Cx}{cm:Nat->Addr}
def bs9(K:PySem.W.Frag)(t tk:TA):TE:=λσ H Q=>t σ H λvs H1=>tk σ H1 λzs H2=>∃(a:Addr) (ns:List Int) (d:V),vs=[.ref a]/\zs=[d]/\SqL K H2 a (ns.map V.int)/\Q (match ns with | []=>d | i::r=>.int (V2 i r)) H2
theorem a94{e f:Expr}{p kpos pos:Pos}{t tk:TA}(hcalm:X.calm=true)(hg:Gl X "max")(hm:X.mg "max" = none)(ha:PA X [e] t)(hkw:PK X [⟨some "default",f,kpos⟩] tk)
 (he:backTo pos (starEach [e] X.env)=(false,eval e X.env)::backTo pos (starEach [] X.env):=by rfl)
 (hpl:(backTo pos (starEach [e] X.env)).any (·.1)=false:=by rfl) (hall:(backToKw pos (keywordEach [⟨some "default",f,kpos⟩] X.env)).all (·.1.isSome)=true:=by rfl)
 (hno:(backToKw pos (keywordEach [⟨some "default",f,kpos⟩] X.env)).any (·.1.isNone)=false:=by rfl)
 (hks:(backToKw pos (keywordEach [⟨some "default",f,kpos⟩] X.env)).filterMap (·.1)=[("default" : Str)]:=by rfl) :
 PE X (.Call (.Name "max" p) [e] [⟨some "default",f,kpos⟩] pos) (bs9 X.K t tk):=by
 intro pins s σ H Q I h
 refine (wpAny_Call_Name_kw (U1 I hg hm (show bootBuiltins "max" = some (.builtin "max") from by rfl) ?_ (by decide) (by decide)))
 refine (callWith_kw (thn (ha pos pins s σ H _ I h) λus s1 ⟨vs,H1,I1,r1,q1⟩=>thn (hkw pos pins s1 σ H1 _ I1 q1) λws s2 ⟨zs,H2,I2,r2,q2⟩=>?_) he hpl hall hno)
 rw [hks]
 obtain⟨a,ns,d,rfl,rfl,hq,q⟩:=q2
 obtain⟨u,rfl,rx⟩:=Y4 r1
 obtain⟨z,rfl,rz⟩:=Y4 r2
 cases rx
 obtain⟨its,ri,pl,hz⟩:=I2.list hq
 refine (aY9 (I2.ok.hd hcalm) pl.isList (P6 ri) (λe0 h' tk2 k2=>?_) (λi r e0 t h' tk2 k2=>?_))
 ·subst e0
  exact⟨d,H2,I2.kept (t':=tk2) k2,rz,q⟩
 ·subst e0
  exact⟨.int (V2 i r),H2,I2.kept (t':=tk2) k2,⟨t,rfl⟩,q⟩
theorem X5:∀{ρ:List Addr} {H:Hp} {ns:List Int} {xs:List V},RVs ρ H (ns.map PV.int) xs->xs=ns.map V.int
 | _,_,[],_,.nil=>rfl
 | _,_,i::ns,_,.cons h t=>by cases h;rw [X5 t];rfl
theorem bm8{e f:Expr}{d d':ED}{p kpos pos:Pos}(hcalm:X.calm=true)(he:PE X e (EvE X.K cm d))(hf:PE X f (EvE X.K cm d'))(hg:Gl X "max")(hm:X.mg "max" = none)(hs:starEach [e] X.env=(false,eval e X.env)::starEach [] X.env:=by exact E5 rfl)
 (h1:backTo pos (starEach [e] X.env)=(false,eval e X.env)::backTo pos (starEach [] X.env):=by rfl)
 (h2:(backTo pos (starEach [e] X.env)).any (·.1)=false:=by rfl) (h3:(backToKw pos (keywordEach [⟨some "default",f,kpos⟩] X.env)).all (·.1.isSome)=true:=by rfl)
 (h4:(backToKw pos (keywordEach [⟨some "default",f,kpos⟩] X.env)).any (·.1.isNone)=false:=by rfl)
 (h5:(backToKw pos (keywordEach [⟨some "default",f,kpos⟩] X.env)).filterMap (·.1)=[("default" : Str)]:=by rfl):PE X (.Call (.Name "max" p) [e] [⟨some "default",f,kpos⟩] pos) (EvE X.K cm (aW0 d d')):=
 E3 (a94 (t:=EvA X.K cm (aCons d aNil)) (tk:=aU3 (EvE X.K cm d') tNil) hcalm hg hm (r_cons he r_nil hs) (a65 hf bj2) h1 h2 h3 h4 h5) λσ H Q hq=>by
  obtain ⟨ρ,A,σp,v,A',rl,rs,ev,k⟩:=hq
  obtain⟨x,A1,e1,ev1⟩:=B0 ev
  obtain⟨y,A2,e2,ev2⟩:=B0 ev1
  refine⟨ρ,A,σp,[x],A1,rl,rs,by show bnd (d σp) _ A=_;rw [bnd_ok e1];rfl,λρ1 H1 vs1 x1 rl1 rv1=>⟨ρ1,A1,σp,y,A2,rl1,rs.mono x1,e2,λρ2 H2 v2 x2 rl2 rv2=>?_⟩⟩
  cases rv1 with
  | cons hv hr=>
    cases hr
    have hv2:=hv.mono x2
    cases x with
    | ref n=>
      obtain⟨l,A3,e3,ev3⟩:=B0 ev2
      obtain⟨rfl,a,xs,rfl,hq,hvs⟩:=K1 rl2 hv2 e3
      cases hi:J6 l with
      | none=>rw [hi] at ev3;cases ev3
      | some ns=>
        rw [hi] at ev3
        rw [O0 hi] at hvs
        refine⟨a,ns,v2,rfl,rfl,by rw [←X5 hvs];exact hq,?_⟩
        cases ns with
        | nil=>cases ev3;exact k ρ2 H2 v2 (x1.trans x2) rl2 rv2
        | cons i r=>cases ev3;exact k ρ2 H2 _ (x1.trans x2) rl2 (.int _)
    | _=>cases ev2
end
section
variable{prog:Program}{w:World}{A:Around}{E:Value->Shared->Prop}{s:Shared}{Q:Value->Shared->Prop}
theorem a95{l:Addr}{its:List Value}{i:Int}{r:List Int}(hh:A.handled=none)(hl:s.heap.IsList l its.toArray)(hi:IntsAre its (i::r))
 (h1:∀t h' tk,(∀b o,s.heap.get? b=some o->h'.get? b=some o)->Q (.int (V2 i r) t) { s with heap:=h',toks:=tk }) :
 wpAny (model prog w) A (call (.builtin "max") [.ref l]) Q E s:=by
 have hlt:l<s.heap.objs.size:=by
  obtain⟨_,e,_⟩:=hl
  exact Heap.lt_size e
 have hlen:its.toArray.size=r.length+1:=by rw [List.size_toArray];exact hi.length
 refine ai9 F.kind_max F.plain_max F.entry_max (F.args_max1 _) ?_
 show wpAny _ A.in1 (Builtin.Builtins.bindParams "max" ["key","default"] 0 ⟨[],[]⟩>>=_) _ _ s
 refine (wpAny_bind (wpAny_of_eq (show Builtin.Builtins.bindParams "max" ["key","default"] 0 ⟨[],[]⟩=pure [none,none] from by rfl) ?_))
 refine (wpAny_bind (wpAny_pure ?_))
 refine (wpAny_bind (wpAny_pyIter_list hl ?_))
 refine (wpAny_bind (wpAny_newObj_type ?_))
 rw [n5]
 have W:=Walks.list (prog:=prog) (w:=w) (A:=A.in1) hh s.heap.objs.size l (Nat.ne_of_lt hlt) its.toArray
 have hget:∀k v,its.toArray[k]?=some v->∃t,v=Value.int ((i::r).getD k 0) t:=by
  intro k v hv
  rw [List.getElem?_toArray] at hv
  have hil:k<(i::r).length:=by
   have:=(List.getElem?_eq_some_iff.mp hv).1
   rwa [hi.length] at this
  obtain⟨t,e1⟩:=hi.get k (i::r)[k] (List.getElem?_eq_getElem hil)
  rw [e1] at hv
  exact⟨t,by rw [←Option.some.inj hv,List.getD_eq_getElem?_getD,List.getElem?_eq_getElem hil];rfl⟩
 have hsz:(s.heap.push { cls:=.type "list_iterator",data:=.fields #[.ref l,.int 0 0] }).objs.size=s.heap.objs.size+1:=Heap.size_push ..
 have hup:V2 ((i::r).getD 0 0) (o1 (λk=>(i::r).getD k 0) 1 (r.length+1))=V2 i r:=by
  have:o1 (λk=>(i::r).getD k 0) 1 (r.length+1)=r:=by
   unfold o1
   refine List.ext_getElem? λk=>?_
   rw [List.getElem?_map]
   simp only [Nat.add_sub_cancel]
   by_cases hk:k<r.length
   ·rw [List.getElem?_range hk]
    simp [Nat.add_comm 1 k,hk]
   ·simp [hk]
  rw [this];rfl
 have st0:=W.frame 0 _ ((s.heap.push { cls:=.type "list_iterator",data:=.fields #[.ref l,.int 0 0] }).push { cls:=.type "list",data:=.seq #[] 0 }) ⟨⟨_,Heap.get?_push_size _ rfl,rfl,rfl⟩,hl.push _⟩ λb _ o e=>Heap.get?_push_of_some _ e
 refine (wpAny_pure ⟨plainId_quiet F.plain_max_loop _,a93 (kw:=[]) (s:={ s with heap:=(s.heap.push { cls:=.type "list_iterator",data:=.fields #[.ref l,.int 0 0] }).push { cls:=.type "list",data:=.seq #[] 0 } }) W (λk=>(i::r).getD k 0) hget (s.heap.push { cls:=.type "list_iterator",data:=.fields #[.ref l,.int 0 0] }).objs.size ?_ st0 (Heap.get?_push_size _ rfl) (by rw [hlen];omega) ?_⟩)
 ·rw [hsz]
  intro z
  rcases List.mem_cons.mp z with e | z
  ·exact Nat.succ_ne_self _ e
  ·have e:=List.mem_singleton.mp z
   rw [←e] at hlt
   exact Nat.lt_irrefl _ (Nat.lt_of_succ_lt hlt)
 ·intro t h2 tk k2
  rw [hlen,hup]
  refine h1 t h2 tk λb o e=>?_
  have hb:b<s.heap.objs.size:=Heap.lt_size e
  exact k2 b o (λz=>absurd (List.mem_singleton.mp z) (Nat.ne_of_lt hb)) (by rw [hsz];exact Nat.ne_of_lt (Nat.lt_succ_of_lt hb)) (Heap.get?_push_of_some _ (Heap.get?_push_of_some _ e))
end
section
variable{X:Cx}{cm:Nat->Addr}
def bw9(K:PySem.W.Frag):List V->Hp->VK->Prop:=λvs H Q=>∃(a:Addr) (i:Int) (r:List Int),vs=[.ref a]/\SqL K H a ((i::r).map V.int)/\Q (.int (V2 i r)) H
theorem aP2(hcalm:X.calm=true):CallR X (.builtin "max") (bw9 X.K):=by
 intro pins s σ H xs us Q I r h
 obtain⟨a,i,is,rfl,hq,q⟩:=h
 obtain⟨u,rfl,rx⟩:=Y4 r
 cases rx
 obtain⟨its,ri,pl,hz⟩:=I.list hq
 exact a95 (I.ok.hd hcalm) pl.isList (P6 ri) λt h' tk k=>⟨.int (V2 i is),H,I.kept (t':=tk) k,⟨t,rfl⟩,q⟩
theorem bt0{e:Expr}{d:ED}{p pos:Pos}(hcalm:X.calm=true)(he:PE X e (EvE X.K cm d))(hg:Gl X "max")(hm:X.mg "max" = none)(hs:starEach [e] X.env=(false,eval e X.env)::starEach [] X.env:=by exact E5 rfl):PE X (.Call (.Name "max" p) [e] [] pos) (EvE X.K cm (bl0 d)):=
 E3 (S4 (aP2 hcalm) hg hm (by rfl) (r_cons he r_nil hs) (he:=hs)) λσ H Q h=>Z5 (f:=λx=>match x with | .ref n=>bnd (D3 n) λl=>(match J6 l with | some (i::r)=>ret (.int (V2 i r)) | _=>stuck) | _=>stuck) (λ_=>rfl) (λρ A H x z A' v Q rl rx ev k=>by
  cases x with
  | ref n=>
    obtain⟨l,A1,e1,ev1⟩:=B0 ev
    obtain⟨rfl,a,xs,rfl,hq,hv⟩:=K1 rl rx e1
    cases hi:J6 l with
    | none=>rw [hi] at ev1;cases ev1
    | some ns=>
      rw [hi] at ev1
      cases ns with
      | nil=>cases ev1
      | cons i r=>
        cases ev1
        rw [O0 hi] at hv
        exact⟨a,i,r,rfl,by rw [←X5 hv];exact hq,k ρ H _ (Ext.refl _ _) rl (.int _)⟩
  | _=>cases ev) h
theorem bf6{i:Int}{j:Nat}{pos pos':Pos}:PE X (.UnaryOp .USub (.Constant (.int i) j pos) pos') (EvE X.K cm (eK (.int (-i)))):=
 E3 (bq3 bi7 aS8) λσ H Q hq=>by
  obtain ⟨ρ,A,σp,v,A',rl,rs,ev,k⟩:=hq
  cases ev
  exact⟨i,rfl,k ρ H _ (Ext.refl _ _) rl (.int _)⟩
def bx0(K:PySem.W.Frag):List V->Hp->VK->Prop:=λvs H Q=>∃(a:Addr) (i:Int) (r:List Int),vs=[.ref a]/\SqL K H a ((i::r).map V.int)/\Q (.int (ag4 i r)) H
theorem aP3(hcalm:X.calm=true):CallR X (.builtin "min") (bx0 X.K):=by
 intro pins s σ H xs us Q I r h
 obtain⟨a,i,is,rfl,hq,q⟩:=h
 obtain⟨u,rfl,rx⟩:=Y4 r
 cases rx
 obtain⟨its,ri,pl,hz⟩:=I.list hq
 have hi:IntsAre its (i::is):=P6 ri
 have hl:=pl.isList
 obtain⟨xs,e⟩:=hi.allInts.items
 have hns:(i::is)=xs.toList.map (·.1):=by rw [←hi.numsOf,←nums_intItems,←e]
 have hsz:0<xs.size:=by
  have h3:=congrArg List.length hns
  simp at h3;omega
 rw [e] at hl
 refine min_intList (I.ok.hd hcalm) hl hsz λv h' tk hv hk=>?_
 obtain⟨t,rfl⟩:=intItems_at hv
 obtain⟨h1,h2⟩:=argBest_lt (numAt xs) (xs.size - 1)
 have m1:numAt xs (argBest (λi j=>decide (numAt xs i<numAt xs j)) (xs.size - 1))=ag4 i is:=by
  have g1:numAt xs (argBest (λi j=>decide (numAt xs i<numAt xs j)) (xs.size - 1))∈i::is:=by
   rw [hns,numAt_eq];exact getD_mem (by rw [List.length_map,Array.length_toList];omega)
  have g2:∀x∈i::is,numAt xs (argBest (λi j=>decide (numAt xs i<numAt xs j)) (xs.size - 1))<=x:=by
   intro x hx
   rw [hns] at hx
   obtain⟨j,hj,rfl⟩:=mem_getD hx
   rw [List.length_map,Array.length_toList] at hj
   rw [←numAt_eq];exact h2 j (by omega)
  have:=(aa7 i is).2 _ g1
  have:=g2 _ (aa7 i is).1
  omega
 rw [m1]
 exact⟨.int (ag4 i is),H,I.kept (t':=tk) hk,⟨t,rfl⟩,q⟩
theorem bt1{e:Expr}{d:ED}{p pos:Pos}(hcalm:X.calm=true)(he:PE X e (EvE X.K cm d))(hg:Gl X "min")(hm:X.mg "min" = none)(hs:starEach [e] X.env=(false,eval e X.env)::starEach [] X.env:=by exact E5 rfl):PE X (.Call (.Name "min" p) [e] [] pos) (EvE X.K cm (br4 d)):=
 E3 (S4 (aP3 hcalm) hg hm (by rfl) (r_cons he r_nil hs) (he:=hs)) λσ H Q h=>Z5 (f:=λx=>match x with | .ref n=>bnd (D3 n) λl=>(match J6 l with | some (i::r)=>ret (.int (ag4 i r)) | _=>stuck) | _=>stuck) (λ_=>rfl) (λρ A H x z A' v Q rl rx ev k=>by
  cases x with
  | ref n=>
    obtain⟨l,A1,e1,ev1⟩:=B0 ev
    obtain⟨rfl,a,xs,rfl,hq,hv⟩:=K1 rl rx e1
    cases hi:J6 l with
    | none=>rw [hi] at ev1;cases ev1
    | some ns=>
      rw [hi] at ev1
      cases ns with
      | nil=>cases ev1
      | cons i r=>
        cases ev1
        rw [O0 hi] at hv
        exact⟨a,i,r,rfl,by rw [←X5 hv];exact hq,k ρ H _ (Ext.refl _ _) rl (.int _)⟩
  | _=>cases ev) h
end
end Ws
namespace Ws
open PySem
end Ws
namespace Ws
open PySem PySem.W PyProof.Rows L2
section
variable{X:Cx}{cm:Nat->Addr}
def a96(K:PySem.W.Frag):List V->Hp->VK->Prop:=λvs H Q=>∃(a:Addr) (xs:List V),vs=[.ref a]/\SqL K H a xs/\∀p,H p=none->Q (.ref p) (upd H p (.tup xs))
theorem az3:CallR X (.type "tuple") (a96 X.K):=by
 intro pins s σ H xs us Q I r h
 obtain⟨a,ys,rfl,hq,q⟩:=h
 obtain⟨u,rfl,rx⟩:=Y4 r
 cases rx
 obtain⟨its,ri,pl,hz⟩:=I.list hq
 have hl:ys.length=its.length:=ri.length
 refine call_tuple_list pl.isList (λh' hk=>?_) (by rw [List.size_toArray,←hl];exact hz)
 have I1:=I.kept (t':=s.toks) hk
 exact⟨.ref h'.objs.size,_,I1.laid (t':=s.toks) (a:=h'.objs.size) (o:=.tup ys) (λb o e=>Heap.get?_push_of_some _ e) (Nat.le_refl _) ⟨hz,its,ri,_,Heap.get?_push_size _ rfl,rfl,_,rfl⟩,rfl,q _ (I1.hok.fresh (Nat.le_refl _))⟩
theorem aq1{e:Expr}{d:ED}{p pos:Pos}(he:PE X e (EvE X.K cm d))(hg:Gl X "tuple")(hm:X.mg "tuple" = none)(hv:bootBuiltins "tuple" = some (.type "tuple"))(hs:starEach [e] X.env=(false,eval e X.env)::starEach [] X.env:=by exact E5 rfl):PE X (.Call (.Name "tuple" p) [e] [] pos) (EvE X.K cm (v6 d)):=
 E3 (m6 az3 hg hm hv (r_cons he r_nil hs) (he:=hs)) λσ H Q h=>Z5 (f:=λx=>match x with | .ref n=>bnd (D3 n) λl=>J4 (l.length<=LIM) (ret (.tup l)) | _=>stuck) (λ_=>rfl) (λρ A H x z A' v Q rl rx ev k=>by
  cases x with
  | ref n=>
    obtain⟨l,A1,e1,ev1⟩:=B0 ev
    obtain⟨rfl,a,xs,rfl,hq,hv⟩:=K1 rl rx e1
    obtain⟨c,ev2⟩:=C8 ev1
    cases ev2
    refine⟨a,xs,rfl,hq,λp hp=>?_⟩
    have ex:Ext ρ H ρ (upd H p (.tup xs)):=Ext.same hp
    exact k ρ _ _ ex (rl.tup hp) (.tup D8 (hv.mono ex))
  | _=>cases ev) h
theorem az4{o e:Expr}{d u:ED}{apos cpos:Pos}(ho:PE X o (EvE X.K cm d))(he:PE X e (EvE X.K cm u))
 (hb:attributeBase o "extend" X.env (eval o X.env)=eval o X.env:=by rfl) (hs:starEach [e] X.env=(false,eval e X.env)::starEach [] X.env:=by exact E5 rfl)
 (hfew:((backTo cpos (starEach [e] X.env)).all (λx=>!x.1)&&(backToKw cpos (keywordEach [] X.env)).all (λx=>x.1.isSome)&&decide ([e].length+([]:List Keyword).length+(if ([]:List Keyword).isEmpty then 0 else 1)<30))=true:=by rfl)
 (hline:(apos.endLine == cpos.line)=true:=by rfl):PE X (.Call (.Attribute o "extend" apos) [e] [] cpos) (EvE X.K cm (ae6 d u)):=
 E3 (be5 PySem.F.plainAttrs_list PySem.F.slot_list_extend PySem.F.type_list_extend aN5 ho (r_cons he r_nil hs) (hbase:=hb) (hfew:=hfew) (hline:=hline) (hs:=hs)) λσ H Q hq=>by
  obtain ⟨ρ,A,σp,v,A',rl,rs,ev,k⟩:=hq
  obtain⟨x,A1,e1,ev1⟩:=B0 ev
  refine⟨ρ,A,σp,x,A1,rl,rs,e1,λρ1 H1 v1 x1 rl1 rv1=>?_⟩
  cases x with
  | ref n=>
    obtain⟨l0,A2,e2,ev2⟩:=B0 ev1
    obtain⟨rfl,hA,a,xs,rfl,hn,hH,r0⟩:=P8 rl1 rv1 e2
    refine⟨.inl ⟨rfl,xs,SqL.of hH⟩,?_⟩
    obtain⟨y,A3,e3,ev3⟩:=B0 ev2
    refine⟨ρ1,_,σp,[y],A3,rl1,rs.mono x1,by show bnd (u σp) _ _=_;rw [bnd_ok e3];rfl,λρ2 H2 vs2 x2 rl2 rv2=>?_⟩
    cases rv2 with
    | cons hv hr=>
      cases hr
      cases y with
      | ref j=>
        obtain⟨l,A4,e4,ev4⟩:=B0 ev3
        obtain⟨rfl,hA2,a2,ys,e5,hn2,hH2,r2⟩:=P8 rl2 (rv1.mono x2) e4
        cases e5
        obtain⟨m,A5,e6,ev5⟩:=B0 ev4
        obtain⟨rfl,hA3,b,zs,rfl,hn3,hH3,r3⟩:=P8 rl2 hv e6
        obtain⟨c,ev6⟩:=C8 ev5
        cases ev6
        refine⟨a,b,ys,zs,rfl,rfl,hH2,hH3,by rw [←r2.length,←r3.length];exact X2 c,?_⟩
        refine k ρ2 _ _ ((x1.trans x2).trans (Ext.put rl2 hn2 hA2 rfl)) (rl2.put hn2 hA2 rfl rfl ⟨_,D8,?_⟩) .non
        exact (r2.mono (Ext.put rl2 hn2 hA2 rfl)).append (r3.mono (Ext.put rl2 hn2 hA2 rfl))
      | _=>cases ev3
  | _=>cases ev1
end
section
variable{prog:Program}{w:World}{A:Around}{E:Value->Shared->Prop}{s:Shared}
theorem aZ0{it t:Addr}{i:Nat}{its:Array Value}{x:Value}{Q:Value->Shared->Prop}(hi:s.heap.IsTupleIter it t i)(ht:s.heap.IsTuple t its)(hx:its[i]?=some x)
 (hQ:∀h',h'.IsTupleIter it t (i+1)->Heap.SameBut it s.heap h'->Q x { s with heap:=h' }):wpAny (model prog w) A (Builtin.SmallTypes.nextOf (.ref it)) Q E s:=by
 obtain⟨o,ho,hc,hd⟩:=id hi
 obtain⟨ot,hot,_,nt,hdt⟩:=ht
 unfold Builtin.SmallTypes.nextOf
 refine wpAny_bind (wpAny_callSpecial?_slot (name:=Str.ofString "__next__") hi.typeIs F.slot_tuple_iterator_next (wpAny_call_entry F.slot_tuple_iterator_next hi.typeIs F.entry_tuple_iterator_next ?_ (F.args_tuple_iterator_next_1 _)))
 show wpAny _ _ (field (.ref it) 0>>=_) _ _ s
 refine wpAny_bind (wpAny_field ho hd (x:=.ref t) rfl ?_)
 show wpAny _ _ (if (Value.ref t == Value.none)=true then _ else _) _ _ s
 rw [if_neg (show ¬((Value.ref t == Value.none)=true) from Bool.false_ne_true)]
 show wpAny _ _ (field (.ref it) 1>>=_) _ _ s
 refine wpAny_bind (wpAny_field ho hd (x:=.int i 0) rfl ?_)
 show wpAny _ _ (seqItems? (.ref t)>>=_) _ _ s
 refine wpAny_bind (wpAny_seqItems hot hdt ?_)
 simp only [Int.toNat_natCast,hx]
 refine wpAny_bind (wpAny_setField ho hd (by simp) (wpAny_pure ⟨x,rfl,wpAny_pure (hQ _ ⟨_,Heap.get?_update_self _ ho (Obj.isFreed_of_fields (Obj.data_mapFields hd _)),(Obj.cls_mapFields ..).trans hc,by rw [Obj.data_mapFields hd];simp [rawInt]⟩ (Heap.SameBut.update ..))⟩))
theorem a97{it t:Addr}{i:Nat}{its:Array Value}{Q:Value->Shared->Prop}(hh:A.handled=none)(hi:s.heap.IsTupleIter it t i)(ht:s.heap.IsTuple t its)(hx:its[i]?=none)
 (hE:∀h' e,Heap.ExtBut it s.heap h'->(∃o,h'.get? e=some o/\o.cls=.type "StopIteration")->E (.ref e) { s with heap:=h' }):wpAny (model prog w) A (Builtin.SmallTypes.nextOf (.ref it)) Q E s:=by
 obtain⟨o,ho,hc,hd⟩:=id hi
 obtain⟨ot,hot,_,nt,hdt⟩:=ht
 unfold Builtin.SmallTypes.nextOf
 refine wpAny_bind (wpAny_callSpecial?_slot (name:=Str.ofString "__next__") hi.typeIs F.slot_tuple_iterator_next (wpAny_call_entry F.slot_tuple_iterator_next hi.typeIs F.entry_tuple_iterator_next ?_ (F.args_tuple_iterator_next_1 _)))
 show wpAny _ _ (field (.ref it) 0>>=_) _ _ s
 refine wpAny_bind (wpAny_field ho hd (x:=.ref t) rfl ?_)
 show wpAny _ _ (if (Value.ref t == Value.none)=true then _ else _) _ _ s
 rw [if_neg (show ¬((Value.ref t == Value.none)=true) from Bool.false_ne_true)]
 show wpAny _ _ (field (.ref it) 1>>=_) _ _ s
 refine wpAny_bind (wpAny_field ho hd (x:=.int i 0) rfl ?_)
 show wpAny _ _ (seqItems? (.ref t)>>=_) _ _ s
 refine wpAny_bind (wpAny_seqItems hot hdt ?_)
 simp only [Int.toNat_natCast,hx]
 refine wpAny_bind (wpAny_rule (wpAny_bind (wpAny_setField ho hd (by simp) ?_)))
 show wpAny _ _ (newExc (.type "StopIteration") []>>=_) _ _ _
 refine wpAny_bind ?_
 simp only [newExc,newTuple]
 refine wpAny_bind (wpAny_newObj_type ?_ (by size_fits))
 refine wpAny_bind (m:=firstArgMember _ _) (wpAny_of_eq (a:=Value.none) (by first | rfl | (simp only [firstArgMember];rfl)) ?_)
 refine wpAny_newObj_type ?_ (by size_fits)
 simp only [raiseNew]
 refine wpAny_bind (wpAny_handled ?_)
 first | rw [show A.in1.handled=none from hh] | rw [hh]
 refine wpAny_bind (wpAny_pure (wpAny_throw ?_))
 exact hE _ _ (((Heap.SameBut.update ..).extBut.push _).push _) ⟨_,Heap.get?_push_size _ rfl,rfl⟩
def IterAt(k:Bool)(h:Heap)(it l:Addr)(i:Nat):Prop:=match k with
 | true=>h.IsTupleIter it l i
 | false=>h.IsListIter it l i
def SeqAt(k:Bool)(h:Heap)(l:Addr)(its:Array Value):Prop:=match k with
 | true=>h.IsTuple l its
 | false=>h.IsList l its
theorem IterAt.at{k:Bool}{h h':Heap}{it l:Addr}{i:Nat}(x:IterAt k h it l i)(e:∀o,h.get? it=some o->h'.get? it=some o):IterAt k h' it l i:=by
 cases k with
 | true=>exact Heap.IsTupleIter.at x e
 | false=>exact Heap.IsListIter.at x e
theorem SeqAt.at{k:Bool}{h h':Heap}{l:Addr}{its:Array Value}(x:SeqAt k h l its)(e:∀o,h.get? l=some o->h'.get? l=some o):SeqAt k h' l its:=by
 cases k with
 | true=>obtain⟨o,h1,h2⟩:=x;exact⟨o,e o h1,h2⟩
 | false=>exact Heap.IsList.at x e
theorem IterAt.obj{k:Bool}{h:Heap}{it l:Addr}{i:Nat}(x:IterAt k h it l i):∃o vs,h.get? it=some o/\o.data=.fields vs:=by
 cases k with
 | true=>obtain⟨o,h1,_,h2⟩:=x;exact⟨o,_,h1,h2⟩
 | false=>obtain⟨o,h1,_,h2⟩:=x;exact⟨o,_,h1,h2⟩
theorem SeqAt.lt{k:Bool}{h:Heap}{l:Addr}{its:Array Value}(x:SeqAt k h l its):l<h.objs.size:=by
 cases k with
 | true=>obtain⟨o,h1,_⟩:=x;exact Heap.lt_size h1
 | false=>obtain⟨o,h1,_⟩:=x;exact Heap.lt_size h1
theorem n6{k:Bool}{it t:Addr}{i:Nat}{its:Array Value}{x:Value}{Q:Value->Shared->Prop}(hi:IterAt k s.heap it t i)(ht:SeqAt k s.heap t its)(hx:its[i]?=some x)
 (hQ:∀h',IterAt k h' it t (i+1)->Heap.SameBut it s.heap h'->Q x { s with heap:=h' }):wpAny (model prog w) A (Builtin.SmallTypes.nextOf (.ref it)) Q E s:=by
 cases k with
 | true=>exact aZ0 hi ht hx hQ
 | false=>exact wpAny_nextOf_list_item hi ht hx hQ
theorem av0{k:Bool}{it t:Addr}{i:Nat}{its:Array Value}{Q:Value->Shared->Prop}(hh:A.handled=none)(hi:IterAt k s.heap it t i)(ht:SeqAt k s.heap t its)(hx:its[i]?=none)
 (hE:∀h' e,Heap.ExtBut it s.heap h'->(∃o,h'.get? e=some o/\o.cls=.type "StopIteration")->E (.ref e) { s with heap:=h' }):wpAny (model prog w) A (Builtin.SmallTypes.nextOf (.ref it)) Q E s:=by
 cases k with
 | true=>exact a97 hh hi ht hx hE
 | false=>exact wpAny_nextOf_list_end hh hi ht hx hE
def az5(k:Bool)(l:Addr):Obj:={ cls:=.type (match k with | true=>"tuple_iterator" | false=>"list_iterator"),data:=.fields #[.ref l,.int 0 0] }
theorem aZ1(k:Bool)(h:Heap)(l:Addr):IterAt k (h.push (az5 k l)) h.objs.size l 0:=by
 cases k with
 | true=>exact⟨_,Heap.get?_push_size _ rfl,rfl,rfl⟩
 | false=>exact⟨_,Heap.get?_push_size _ rfl,rfl,rfl⟩
theorem az6{k:Bool}{l:Addr}{its:Array Value}{Q:Value->Shared->Prop}(hl:SeqAt k s.heap l its)(hQ:Q (.ref s.heap.objs.size) { s with heap:=s.heap.push (az5 k l) }):wpAny (model prog w) A (pyIter (.ref l)) Q E s:=by
 cases k with
 | true=>exact wpAny_pyIter_tuple hl hQ
 | false=>exact wpAny_pyIter_list hl hQ
def aZ2(h:Heap)(z TI TO:Addr):Prop:=∃(f0:Value) (f1:Bool),(f0=.none\/∃T:Addr,f0=rawInt T)/\h.get? z=some { cls:=.type "zip",dict:=none,data:=.fields #[f0,.bool f1,.bool false,.ref TI,.ref TO],slots:=#[] }
abbrev aj0(f0:Value)(f1:Bool)(TI TO:Addr):Obj:={ cls:=.type "zip",dict:=none,data:=.fields #[f0,.bool f1,.bool false,.ref TI,.ref TO],slots:=#[] }
structure ZSt(k1 k2:Bool)(z TI TO i1 i2 l1 l2:Addr)(i:Nat)(h:Heap):Prop where
 zr:aZ2 h z TI TO
 ti:IsPair h TI (.ref i1) (.ref i2)
 to:∃a b,IsPair h TO a b
 j1:IterAt k1 h i1 l1 i
 j2:IterAt k2 h i2 l2 i
abbrev Kp(z TO i1 i2:Addr)(h h':Heap):Prop:=∀c o,c≠z->c≠TO->c≠i1->c≠i2->h.get? c=some o->h'.get? c=some o
structure ZA(z TI TO i1 i2 l1 l2:Addr):Prop where
 TIz:TI≠z
 TOz:TO≠z
 i1z:i1≠z
 i2z:i2≠z
 TITO:TI≠TO
 TIi1:TI≠i1
 TIi2:TI≠i2
 TOi1:TO≠i1
 TOi2:TO≠i2
 i12:i1≠i2
 l1z:l1≠z
 l1TO:l1≠TO
 l1i1:l1≠i1
 l1i2:l1≠i2
 l2z:l2≠z
 l2TO:l2≠TO
 l2i1:l2≠i1
 l2i2:l2≠i2
theorem ZSt.keep{k1 k2:Bool}{z TI TO i1 i2 l1 l2:Addr}{i:Nat}{h h':Heap}(S:ZSt k1 k2 z TI TO i1 i2 l1 l2 i h)(k:∀b∈[z,TI,TO,i1,i2],∀o,h.get? b=some o->h'.get? b=some o):ZSt k1 k2 z TI TO i1 i2 l1 l2 i h':=by
 obtain⟨⟨f0,f1,hf,hz⟩,ti,⟨a,b,to⟩,j1,j2⟩:=S
 exact⟨⟨f0,f1,hf,k z (by simp) _ hz⟩,k TI (by simp) _ ti,⟨a,b,k TO (by simp) _ to⟩,j1.at λo e=>k i1 (by simp) o e,j2.at λo e=>k i2 (by simp) o e⟩
theorem aP4{a:Addr}{Q:Option Obj->Shared->Prop}(h:Q (s.heap.get? a) s):wpAny (model prog w) A (loadIfAlive a) Q E s:=λ_ _ _=>h
theorem az7{z TI TO:Addr}{Q:Bool->Shared->Prop}(hz:aZ2 s.heap z TI TO)(h:∀b h' f0 f1,h'.get? z=some (aj0 f0 f1 TI TO)->(b=false->∃T:Addr,f0=rawInt T)->Heap.SameBut z s.heap h'->Q b { s with heap:=h' }) :
 wpAny (model prog w) A (Builtin.SmallTypes.ownedTupleIsFree (.ref z)) Q E s:=by
 obtain⟨f0,f1,hf,hz⟩:=hz
 unfold Builtin.SmallTypes.ownedTupleIsFree
 rcases hf with rfl | ⟨T,rfl⟩
 ·exact wpAny_bind (wpAny_field hz rfl (x:=.none) rfl (wpAny_pure (h true s.heap _ _ hz (by simp) ⟨rfl,λ_ _=>rfl⟩)))
 ·refine wpAny_bind (wpAny_field hz rfl (x:=rawInt T) rfl ?_)
  refine wpAny_bind (aP4 ?_)
  by_cases hn:(s.heap.get? ((T:Int).toNat)).isNone=true
  ·rw [if_pos hn]
   exact wpAny_pure (h true s.heap _ _ hz (by simp) ⟨rfl,λ_ _=>rfl⟩)
  ·rw [if_neg hn]
   refine wpAny_bind (wpAny_field hz rfl (x:=.bool f1) rfl ?_)
   cases f1 with
   | true=>
     rw [if_neg (by simp)]
     exact wpAny_pure (h false s.heap _ _ hz (λ_=>⟨T,rfl⟩) ⟨rfl,λ_ _=>rfl⟩)
   | false=>
     rw [if_pos (by decide)]
     refine wpAny_bind (wpAny_setField_rec hz (by simp) λh1 hz1 hs1=>wpAny_pure (h false h1 (rawInt T) true hz1 (λ_=>⟨T,rfl⟩) hs1))
theorem bm9{k1 k2:Bool}{z TI TO i1 i2 l1 l2:Addr}{k:Nat}{xs ys:Array Value}{x y:Value}{Q:Value->Shared->Prop}(D:ZA z TI TO i1 i2 l1 l2)(S:ZSt k1 k2 z TI TO i1 i2 l1 l2 k s.heap)
 (hl1:SeqAt k1 s.heap l1 xs) (hl2:SeqAt k2 s.heap l2 ys) (hx:xs[k]?=some x) (hy:ys[k]?=some y)
 (hQ:∀h',ZSt k1 k2 z TI TO i1 i2 l1 l2 (k+1) h'->IsPair h' s.heap.objs.size x y->Kp z TO i1 i2 s.heap h'->Q (.ref s.heap.objs.size) { s with heap:=h' }) :
 wpAny (model prog w) A (Builtin.«zip.__next__» ⟨[.ref z],[]⟩) (λfin s'=>∃v,fin=.done (.ret v)/\Q v s') E s:=by
 obtain⟨hz,hTI,⟨a,b,hTO⟩,h1,h2⟩:=S
 obtain⟨g0,g1,_,hzz⟩:=id hz
 show wpAny _ _ (field (.ref z) 2>>=_) _ _ _
 refine wpAny_bind (wpAny_field hzz rfl (x:=.bool false) rfl ?_)
 show wpAny _ _ (field (.ref z) 3>>=_) _ _ _
 refine wpAny_bind (wpAny_field hzz rfl (x:=.ref TI) rfl ?_)
 refine wpAny_bind (wpAny_seqItems hTI rfl ?_)
 show wpAny _ _ (Builtin.SmallTypes.ownedTupleIsFree (.ref z)>>=_) _ _ _
 refine wpAny_bind (az7 hz λfr h0 f0 f1 hz0 hfr hs0=>?_)
 have hTO0:IsPair h0 TO a b:=hs0.extBut _ _ D.TOz hTO
 have hTI0:IsPair h0 TI (.ref i1) (.ref i2):=hs0.extBut _ _ D.TIz hTI
 have j1:IterAt k1 h0 i1 l1 k:=h1.at λo e=>hs0.extBut _ _ D.i1z e
 have j2:IterAt k2 h0 i2 l2 k:=h2.at λo e=>hs0.extBut _ _ D.i2z e
 have q1:SeqAt k1 h0 l1 xs:=hl1.at λo e=>hs0.extBut _ _ D.l1z e
 have q2:SeqAt k2 h0 l2 ys:=hl2.at λo e=>hs0.extBut _ _ D.l2z e
 cases fr with
 | true=>
   simp only [if_true]
   refine wpAny_bind (wpAny_rule ?_)
   refine wpAny_bind (wpAny_field hz0 rfl (x:=.ref TO) rfl ?_)
   refine wpAny_bind (wpAny_setField_rec hz0 (by simp) λh₁ hz₁ hs₁=>?_)
   replace hz₁:h₁.get? z=some (aj0 .ellipsis f1 TI TO):=hz₁
   refine wpAny_bind ?_
   simp only [List.zipIdx_cons,List.zipIdx_nil,List.forIn_cons,List.forIn_nil]
   refine wpAny_bind (wpAny_bind (wpAny_onRaise ?_))
   show wpAny _ _ (Builtin.SmallTypes.nextOf (.ref i1)>>=_) _ _ _
   refine wpAny_bind (n6 (j1.at λo e=>hs₁.extBut _ _ D.i1z e) (q1.at λo e=>hs₁.extBut _ _ D.l1z e) hx λh₂ h1₂ hs₂=>wpAny_pure ?_)
   have hTO₂:IsPair h₂ TO a b:=hs₂.extBut _ _ D.TOi1 (hs₁.extBut _ _ D.TOz hTO0)
   refine wpAny_bind (wpAny_seqItems hTO₂ rfl ?_)
   refine wpAny_bind (wpAny_updateSeq_pair hTO₂ λh₃ hTO₃ hs₃=>?_)
   replace hTO₃:IsPair h₃ TO x b:=hTO₃
   refine wpAny_bind (wpAny_letGo (wpAny_pure ?_))
   refine wpAny_bind (wpAny_bind (wpAny_onRaise ?_))
   show wpAny _ _ (Builtin.SmallTypes.nextOf (.ref i2)>>=_) _ _ _
   refine wpAny_bind (n6 (j2.at λo e=>hs₃.extBut _ _ D.TOi2.symm (hs₂.extBut _ _ D.i12.symm (hs₁.extBut _ _ D.i2z e))) (q2.at λo e=>hs₃.extBut _ _ D.l2TO (hs₂.extBut _ _ D.l2i1 (hs₁.extBut _ _ D.l2z e))) hy λh₄ h2₄ hs₄=>wpAny_pure ?_)
   have hTO₄:IsPair h₄ TO x b:=hs₄.extBut _ _ D.TOi2 hTO₃
   refine wpAny_bind (wpAny_seqItems hTO₄ rfl ?_)
   refine wpAny_bind (wpAny_updateSeq_pair hTO₄ λh₅ hTO₅ hs₅=>?_)
   replace hTO₅:IsPair h₅ TO x y:=hTO₅
   refine wpAny_bind (wpAny_letGo (wpAny_pure (wpAny_pure ?_)))
   refine wpAny_bind (wpAny_seqItems hTO₅ rfl ?_)
   refine wpAny_bind (wpAny_newTuple ?_)
   have hsz:h₅.objs.size=s.heap.objs.size:=by rw [hs₅.1,hs₄.1,hs₃.1,hs₂.1,hs₁.1,hs0.1]
   have hz₅:h₅.get? z=some (aj0 .ellipsis f1 TI TO):=hs₅.extBut _ _ D.TOz.symm (hs₄.extBut _ _ D.i2z.symm (hs₃.extBut _ _ D.TOz.symm (hs₂.extBut _ _ D.i1z.symm hz₁)))
   have hk₅:Kp z TO i1 i2 s.heap h₅:=λc o c1 c2 c3 c4 e=>
    hs₅.extBut _ _ c2 (hs₄.extBut _ _ c4 (hs₃.extBut _ _ c2 (hs₂.extBut _ _ c3 (hs₁.extBut _ _ c1 (hs0.extBut _ _ c1 e)))))
   have h1₅:IterAt k1 h₅ i1 l1 (k+1):=h1₂.at λo e=>hs₅.extBut _ _ D.TOi1.symm (hs₄.extBut _ _ D.i12 (hs₃.extBut _ _ D.TOi1.symm e))
   have h2₅:IterAt k2 h₅ i2 l2 (k+1):=h2₄.at λo e=>hs₅.extBut _ _ D.TOi2.symm e
   have hzlt:z<h₅.objs.size:=Heap.lt_size hz₅
   show wpAny _ _ (Builtin.SmallTypes.ownedTupleHandOut (.ref z) (.ref h₅.objs.size)>>=_) _ _ _
   refine wpAny_bind ?_
   unfold Builtin.SmallTypes.ownedTupleHandOut
   have hz₆:(h₅.push { cls:=.type "tuple",data:=.seq #[x,y] }).get? z=some (aj0 .ellipsis f1 TI TO):=Heap.get?_push_of_some _ hz₅
   refine wpAny_bind (wpAny_setField_rec hz₆ (by simp) λh₇ hz₇ hs₇=>?_)
   replace hz₇:h₇.get? z=some (aj0 (rawInt h₅.objs.size) f1 TI TO):=hz₇
   refine wpAny_setField_rec hz₇ (by simp) λh₈ hz₈ hs₈=>?_
   replace hz₈:h₈.get? z=some (aj0 (rawInt h₅.objs.size) false TI TO):=hz₈
   have up:∀c o,c≠z->h₅.get? c=some o->h₈.get? c=some o:=λc o c1 e=>hs₈.extBut _ _ c1 (hs₇.extBut _ _ c1 (Heap.get?_push_of_some _ e))
   have hT₈:IsPair h₈ h₅.objs.size x y:=hs₈.extBut _ _ (Nat.ne_of_gt hzlt) (hs₇.extBut _ _ (Nat.ne_of_gt hzlt) (Heap.get?_push_size _ rfl))
   refine wpAny_pure ⟨_,rfl,?_⟩
   show Q (.ref h₅.objs.size) _
   rw [hsz] at hT₈ ⊢
   exact hQ h₈ ⟨⟨_,_,.inr ⟨_,rfl⟩,hz₈⟩,up _ _ D.TIz (hk₅ _ _ D.TIz D.TITO D.TIi1 D.TIi2 hTI),⟨_,_,up _ _ D.TOz hTO₅⟩,h1₅.at λo e=>up _ o D.i1z e,h2₅.at λo e=>up _ o D.i2z e⟩ hT₈ λc o c1 c2 c3 c4 e=>up c o c1 (hk₅ c o c1 c2 c3 c4 e)
 | false=>
   simp only [Bool.false_eq_true,if_false]
   obtain⟨T,hT⟩:=hfr rfl
   refine wpAny_bind ?_
   simp only [Array.forIn_toList.symm,List.forIn_cons,List.forIn_nil]
   refine wpAny_bind (wpAny_bind (wpAny_holding ?_))
   show wpAny _ _ (Builtin.SmallTypes.nextOf (.ref i1)>>=_) _ _ _
   refine wpAny_bind (n6 (s:={ s with heap:=h0 }) j1 q1 hx λh₂ h1₂ hs₂=>wpAny_pure (wpAny_pure ?_))
   refine wpAny_bind (wpAny_bind (wpAny_holding ?_))
   show wpAny _ _ (Builtin.SmallTypes.nextOf (.ref i2)>>=_) _ _ _
   refine wpAny_bind (n6 (s:={ s with heap:=h₂ }) (j2.at λo e=>hs₂.extBut _ _ D.i12.symm e) (q2.at λo e=>hs₂.extBut _ _ D.l2i1 e) hy λh₄ h2₄ hs₄=>wpAny_pure (wpAny_pure (wpAny_pure ?_)))
   refine wpAny_bind (wpAny_newTuple ?_ (by show 2<=sizeLine;decide))
   have hsz:h₄.objs.size=s.heap.objs.size:=by rw [hs₄.1,hs₂.1,hs0.1]
   refine wpAny_pure ⟨_,rfl,?_⟩
   show Q (.ref h₄.objs.size) _
   have hk:Kp z TO i1 i2 s.heap h₄:=λc o c1 c2 c3 c4 e=>hs₄.extBut _ _ c4 (hs₂.extBut _ _ c3 (hs0.extBut _ _ c1 e))
   have hz₄:h₄.get? z=some (aj0 f0 f1 TI TO):=hs₄.extBut _ _ D.i2z.symm (hs₂.extBut _ _ D.i1z.symm hz0)
   have hp:IsPair (h₄.push { cls:=.type "tuple",data:=.seq #[x,y] }) h₄.objs.size x y:=Heap.get?_push_size _ rfl
   rw [hsz] at hp ⊢
   refine hQ _ ⟨⟨_,_,.inr ⟨T,hT⟩,Heap.get?_push_of_some _ hz₄⟩,Heap.get?_push_of_some _ (hk _ _ D.TIz D.TITO D.TIi1 D.TIi2 hTI),⟨a,b,Heap.get?_push_of_some _ (hs₄.extBut _ _ D.TOi2 (hs₂.extBut _ _ D.TOi1 hTO0))⟩,
    h1₂.at λo e=>Heap.get?_push_of_some _ (hs₄.extBut _ _ D.i12 e),h2₄.at λo e=>Heap.get?_push_of_some _ e⟩ hp λc o c1 c2 c3 c4 e=>Heap.get?_push_of_some _ (hk c o c1 c2 c3 c4 e)
theorem a98{k1 k2:Bool}{z TI TO i1 i2 l1 l2:Addr}{k:Nat}{xs ys:Array Value}{Q:Fin->Shared->Prop}(hh:A.handled=none)(D:ZA z TI TO i1 i2 l1 l2)(S:ZSt k1 k2 z TI TO i1 i2 l1 l2 k s.heap)
 (hl1:SeqAt k1 s.heap l1 xs) (hl2:SeqAt k2 s.heap l2 ys) (hend:xs[k]?=none\/ys[k]?=none)
 (hE:∀h' e,Kp z TO i1 i2 s.heap h'->(∃o,h'.get? e=some o/\o.cls=.type "StopIteration")->E (.ref e) { s with heap:=h' }) :
 wpAny (model prog w) A (Builtin.«zip.__next__» ⟨[.ref z],[]⟩) Q E s:=by
 obtain⟨hz,hTI,⟨a,b,hTO⟩,h1,h2⟩:=S
 obtain⟨g0,g1,_,hzz⟩:=id hz
 show wpAny _ _ (field (.ref z) 2>>=_) _ _ _
 refine wpAny_bind (wpAny_field hzz rfl (x:=.bool false) rfl ?_)
 show wpAny _ _ (field (.ref z) 3>>=_) _ _ _
 refine wpAny_bind (wpAny_field hzz rfl (x:=.ref TI) rfl ?_)
 refine wpAny_bind (wpAny_seqItems hTI rfl ?_)
 show wpAny _ _ (Builtin.SmallTypes.ownedTupleIsFree (.ref z)>>=_) _ _ _
 refine wpAny_bind (az7 hz λfr h0 f0 f1 hz0 hfr hs0=>?_)
 have hTO0:IsPair h0 TO a b:=hs0.extBut _ _ D.TOz hTO
 have j1:IterAt k1 h0 i1 l1 k:=h1.at λo e=>hs0.extBut _ _ D.i1z e
 have j2:IterAt k2 h0 i2 l2 k:=h2.at λo e=>hs0.extBut _ _ D.i2z e
 have q1:SeqAt k1 h0 l1 xs:=hl1.at λo e=>hs0.extBut _ _ D.l1z e
 have q2:SeqAt k2 h0 l2 ys:=hl2.at λo e=>hs0.extBut _ _ D.l2z e
 cases fr with
 | true=>
   simp only [if_true]
   refine wpAny_bind (wpAny_rule ?_)
   refine wpAny_bind (wpAny_field hz0 rfl (x:=.ref TO) rfl ?_)
   refine wpAny_bind (wpAny_setField_rec hz0 (by simp) λh₁ hz₁ hs₁=>?_)
   replace hz₁:h₁.get? z=some (aj0 .ellipsis f1 TI TO):=hz₁
   refine wpAny_bind ?_
   simp only [List.zipIdx_cons,List.zipIdx_nil,List.forIn_cons,List.forIn_nil]
   refine wpAny_bind (wpAny_bind (wpAny_onRaise ?_))
   show wpAny _ _ (Builtin.SmallTypes.nextOf (.ref i1)>>=_) _ _ _
   cases hx:xs[k]? with
   | none=>
     refine wpAny_bind (av0 hh (j1.at λo e=>hs₁.extBut _ _ D.i1z e) (q1.at λo e=>hs₁.extBut _ _ D.l1z e) hx λh₂ e hs₂ he=>?_)
     obtain⟨oe,hoe,hce⟩:=he
     have hz₂:h₂.get? z=some (aj0 .ellipsis f1 TI TO):=hs₂ _ _ D.i1z.symm hz₁
     have hez:e≠z:=λx=>by subst x;rw [hz₂] at hoe;cases hoe;simp at hce
     refine wpAny_setField_rec hz₂ (by simp) λh₃ _ hs₃=>hE h₃ e (λc o c1 _ c3 _ x=>hs₃.extBut _ _ c1 (hs₂ _ _ c3 (hs₁.extBut _ _ c1 (hs0.extBut _ _ c1 x)))) ⟨oe,hs₃.extBut _ _ hez hoe,hce⟩
   | some x=>
     have hy:ys[k]?=none:=by rcases hend with h | h;· rw [hx] at h;cases h
                             ·exact h
     refine wpAny_bind (n6 (j1.at λo e=>hs₁.extBut _ _ D.i1z e) (q1.at λo e=>hs₁.extBut _ _ D.l1z e) hx λh₂ h1₂ hs₂=>wpAny_pure ?_)
     have hTO₂:IsPair h₂ TO a b:=hs₂.extBut _ _ D.TOi1 (hs₁.extBut _ _ D.TOz hTO0)
     refine wpAny_bind (wpAny_seqItems hTO₂ rfl ?_)
     refine wpAny_bind (wpAny_updateSeq_pair hTO₂ λh₃ hTO₃ hs₃=>?_)
     refine wpAny_bind (wpAny_letGo (wpAny_pure ?_))
     refine wpAny_bind (wpAny_bind (wpAny_onRaise ?_))
     show wpAny _ _ (Builtin.SmallTypes.nextOf (.ref i2)>>=_) _ _ _
     refine wpAny_bind (av0 hh (j2.at λo e=>hs₃.extBut _ _ D.TOi2.symm (hs₂.extBut _ _ D.i12.symm (hs₁.extBut _ _ D.i2z e))) (q2.at λo e=>hs₃.extBut _ _ D.l2TO (hs₂.extBut _ _ D.l2i1 (hs₁.extBut _ _ D.l2z e))) hy λh₄ e hs₄ he=>?_)
     obtain⟨oe,hoe,hce⟩:=he
     have hz₄:h₄.get? z=some (aj0 .ellipsis f1 TI TO):=hs₄ _ _ D.i2z.symm (hs₃.extBut _ _ D.TOz.symm (hs₂.extBut _ _ D.i1z.symm hz₁))
     have hez:e≠z:=λx=>by subst x;rw [hz₄] at hoe;cases hoe;simp at hce
     refine wpAny_setField_rec hz₄ (by simp) λh₅ _ hs₅=>hE h₅ e (λc o c1 c2 c3 c4 x=>hs₅.extBut _ _ c1 (hs₄ _ _ c4 (hs₃.extBut _ _ c2 (hs₂.extBut _ _ c3 (hs₁.extBut _ _ c1 (hs0.extBut _ _ c1 x)))))) ⟨oe,hs₅.extBut _ _ hez hoe,hce⟩
 | false=>
   simp only [Bool.false_eq_true,if_false]
   refine wpAny_bind ?_
   simp only [Array.forIn_toList.symm,List.forIn_cons,List.forIn_nil]
   refine wpAny_bind (wpAny_bind (wpAny_holding ?_))
   show wpAny _ _ (Builtin.SmallTypes.nextOf (.ref i1)>>=_) _ _ _
   cases hx:xs[k]? with
   | none=>exact wpAny_bind (av0 (s:={ s with heap:=h0 }) hh j1 q1 hx λh₂ e hs₂ he=>hE h₂ e (λc o c1 _ c3 _ x=>hs₂ _ _ c3 (hs0.extBut _ _ c1 x)) he)
   | some x=>
     have hy:ys[k]?=none:=by rcases hend with h | h;· rw [hx] at h;cases h
                             ·exact h
     refine wpAny_bind (n6 (s:={ s with heap:=h0 }) j1 q1 hx λh₂ h1₂ hs₂=>wpAny_pure (wpAny_pure ?_))
     refine wpAny_bind (wpAny_bind (wpAny_holding ?_))
     show wpAny _ _ (Builtin.SmallTypes.nextOf (.ref i2)>>=_) _ _ _
     exact wpAny_bind (av0 (s:={ s with heap:=h₂ }) hh (j2.at λo e=>hs₂.extBut _ _ D.i12.symm e) (q2.at λo e=>hs₂.extBut _ _ D.l2i1 e) hy λh₄ e hs₄ he=>hE h₄ e (λc o c1 _ c3 c4 x=>hs₄ _ _ c4 (hs₂.extBut _ _ c3 (hs0.extBut _ _ c1 x))) he)
theorem aF4{k1 k2:Bool}{z TI TO i1 i2 l1 l2:Addr}{k:Nat}{xs ys:Array Value}{x y:Value}{Q:Option Value->Shared->Prop}(D:ZA z TI TO i1 i2 l1 l2)(S:ZSt k1 k2 z TI TO i1 i2 l1 l2 k s.heap)
 (hl1:SeqAt k1 s.heap l1 xs) (hl2:SeqAt k2 s.heap l2 ys) (hx:xs[k]?=some x) (hy:ys[k]?=some y)
 (hQ:∀h',ZSt k1 k2 z TI TO i1 i2 l1 l2 (k+1) h'->IsPair h' s.heap.objs.size x y->Kp z TO i1 i2 s.heap h'->Q (some (.ref s.heap.objs.size)) { s with heap:=h' }) :
 wpAny (model prog w) A (pyNext (.ref z)) Q E s:=by
 have hT:s.TypeIs (.ref z) "zip":=by obtain⟨_,_,_,h⟩:=S.zr;exact⟨_,h,rfl⟩
 unfold pyNext
 refine wpAny_bind (wpAny_attempt (wpAny_callSpecial?_slot (name:=Str.ofString "__next__") hT F.slot_zip_next (wpAny_call_entry F.slot_zip_next hT F.entry_zip_next (bm9 D S hl1 hl2 hx hy λh' a1 a2 a3=>wpAny_pure (hQ h' a1 a2 a3)) (F.args_zip_next_1 _))))
theorem az8{k1 k2:Bool}{z TI TO i1 i2 l1 l2:Addr}{k:Nat}{xs ys:Array Value}{Q:Option Value->Shared->Prop}(hh:A.handled=none)(D:ZA z TI TO i1 i2 l1 l2)(S:ZSt k1 k2 z TI TO i1 i2 l1 l2 k s.heap)
 (hl1:SeqAt k1 s.heap l1 xs) (hl2:SeqAt k2 s.heap l2 ys) (hend:xs[k]?=none\/ys[k]?=none) (hQ:∀h',Kp z TO i1 i2 s.heap h'->Q none { s with heap:=h' }) :
 wpAny (model prog w) A (pyNext (.ref z)) Q E s:=by
 have hT:s.TypeIs (.ref z) "zip":=by obtain⟨_,_,_,h⟩:=S.zr;exact⟨_,h,rfl⟩
 unfold pyNext
 refine wpAny_bind (wpAny_attempt (wpAny_callSpecial?_slot (name:=Str.ofString "__next__") hT F.slot_zip_next (wpAny_call_entry F.slot_zip_next hT F.entry_zip_next (a98 (A:=_) hh D S hl1 hl2 hend λh' e hk he=>?_) (F.args_zip_next_1 _))))
 obtain⟨o,ho,hc⟩:=he
 exact wpAny_bind (wpAny_isInstance (T:="StopIteration") (b:=true) ⟨o,ho,hc⟩ isSubtype_stop (wpAny_pure (hQ _ hk)))
theorem bn0{k1 k2:Bool}{tg:Expr}{z TI TO i1 i2 l1 l2 T:Addr}{k:Nat}{Q:Unit->Shared->Prop}(ht:∀es p,tg≠.List es p)(D:ZA z TI TO i1 i2 l1 l2)(S:ZSt k1 k2 z TI TO i1 i2 l1 l2 k s.heap)
 (hQ:∀h',ZSt k1 k2 z TI TO i1 i2 l1 l2 k h'->Heap.SameBut z s.heap h'->Q () { s with heap:=h' }) :
 wpAny (model prog w) A (letOwnedTupleGo tg (.ref z) (.ref T)) Q E s:=by
 have q0:Q () s:=hQ s.heap S ⟨rfl,λ_ _=>rfl⟩
 unfold letOwnedTupleGo
 cases tg with
 | Tuple elts x1 pos=>
   obtain⟨⟨f0,f1,hf,hz⟩,hTI,⟨a,b,hTO⟩,h1,h2⟩:=S
   refine wpAny_bind (wpAny_load hz ?_)
   by_cases c:(["enumerate","zip","dict_itemiterator","dict_reverseitemiterator","odict_iterator","itertools.zip_longest","itertools.pairwise"].contains "zip"&&(#[f0,.bool f1,.bool false,.ref TI,.ref TO]:Array Value)[0]? == some (rawInt T))=true
   ·show wpAny _ _ (if _ then _ else _) Q E s
    rw [if_pos c]
    refine wpAny_bind (wpAny_rule ?_)
    show wpAny _ _ (setField (.ref z) 0 .none) Q E s
    refine wpAny_setField_rec hz (by simp) λh' hz' hs'=>hQ h' ⟨⟨.none,f1,.inl rfl,hz'⟩,hs'.extBut _ _ D.TIz hTI,⟨a,b,hs'.extBut _ _ D.TOz hTO⟩,h1.at λo e=>hs'.extBut _ _ D.i1z e,h2.at λo e=>hs'.extBut _ _ D.i2z e⟩ hs'
   ·show wpAny _ _ (if _ then _ else _) Q E s
    rw [if_neg c]
    exact wpAny_pure q0
 | List es p=>exact absurd rfl (ht _ _)
 | _=>exact wpAny_pure q0
theorem aj1{z TI TO:Addr}{Q:Value->Shared->Prop}(hz:aZ2 s.heap z TI TO)(h:Q (.ref z) s):wpAny (model prog w) A (pyIter (.ref z)) Q E s:=by
 have hT:s.TypeIs (.ref z) "zip":=by obtain⟨_,_,_,h⟩:=hz;exact⟨_,h,rfl⟩
 refine wpAny_pyIter_slot hT F.slot_zip_iter (wpAny_call_entry F.slot_zip_iter hT F.entry_zip_iter ?_ (F.args_zip_iter_1 _))
 show wpAny _ _ (PySem.ret (.ref z)) _ _ s
 exact wpAny_pure ⟨_,rfl,"zip",_,hT,F.slot_zip_next.lookup,h⟩
end
section
variable{X:Cx}{cm:Nat->Addr}
theorem ab7{k:Bool}{pins:List (Addr×Obj)}{σ:L2.St}{H:Hp}{s:Shared}{a:Addr}{xs:List V}(I:L2.Inv X pins σ H s)(h:SqK k X.K H a xs):∃its:List Value,Vals xs its/\SeqAt k s.heap a its.toArray:=by
 cases k with
 | true=>obtain⟨its,r,p,_⟩:=I.tuple h;exact⟨its,r,p⟩
 | false=>obtain⟨its,r,p,_⟩:=I.list h;exact⟨its,r,p.isList⟩
theorem aJ9{k:Bool}{pins:List (Addr×Obj)}{σ:L2.St}{H:Hp}{s:Shared}{a:Addr}{xs ys:List V}(I:L2.Inv X pins σ H s)(h:SqK k X.K H a xs)(h':SqK k X.K H a ys):xs=ys:=by
 cases k with
 | true=>exact I.tuple_inj h h'
 | false=>exact I.list_inj h h'
end
theorem aZ3{P:Program}{w:World}{K:PySem.W.Frag}{tg:Expr}(ht:∀es p,tg≠.List es p)(k1 k2:Bool)(a b z TI TO i1 i2:Addr)(D:ZA z TI TO i1 i2 a b) :
 aC5 P w K tg (Itz K k1 k2 a b) [z,TI,TO,i1,i2] z (λi h=>ZSt k1 k2 z TI TO i1 i2 a b i h) where
 mem:=by simp
 obj:=λi h S c hc=>by
  obtain⟨⟨f0,f1,_,hz⟩,ti,⟨x,y,to⟩,j1,j2⟩:=S
  simp only [List.mem_cons,List.not_mem_nil,or_false] at hc
  rcases hc with rfl | rfl | rfl | rfl | rfl
  ·exact⟨_,hz,λv z=>by cases z⟩
  ·exact⟨_,ti,λv z=>by cases z⟩
  ·exact⟨_,to,λv z=>by cases z⟩
  ·obtain⟨o,vs,h1,h2⟩:=j1.obj;exact⟨o,h1,λv z=>by rw [h2] at z;cases z⟩
  ·obtain⟨o,vs,h1,h2⟩:=j2.obj;exact⟨o,h1,λv z=>by rw [h2] at z;cases z⟩
 keep:=λi h h' S k=>S.keep k
 item:=by
  intro X hP hw hK hc i pins s σ H E I hf S hg
  subst hP hw hK
  obtain⟨xs,ys,x,y,hq1,hq2,hx,hy⟩:=hg
  obtain⟨its1,r1,p1⟩:=ab7 I hq1
  obtain⟨its2,r2,p2⟩:=ab7 I hq2
  obtain⟨u,hu,ru⟩:=r1.get hx
  obtain⟨v,hv,rv⟩:=r2.get hy
  refine aF4 D S p1 p2 (x:=u) (y:=v) (by simpa using hu) (by simpa using hv) λh' S' hT hk=>?_
  refine⟨.ref s.heap.objs.size,rfl,bn0 (s:={ s with heap:=h' }) ht D S' λh2 S2 hs2=>?_⟩
  have zlt:z<s.heap.objs.size:=by obtain⟨_,_,_,e⟩:=S.zr;exact Heap.lt_size e
  have I2:L2.Inv X pins σ (upd H s.heap.objs.size (.tup [x,y])) { s with heap:=h2 }:=by
   refine ai1 (s:=s) (t':=s.toks) I hf (λb u hb q=>?_) (Nat.le_refl _) ?_
   ·have n1:b≠z:=λe=>hb (by simp [e])
    exact hs2.extBut _ _ n1 (hk b u n1 (λe=>hb (by simp [e])) (λe=>hb (by simp [e])) (λe=>hb (by simp [e])) q)
   ·exact⟨by show 2<=sizeLine;decide,[u,v],.cons ru (.cons rv .nil),_,hs2.extBut _ _ (Nat.ne_of_gt zlt) hT,rfl,_,rfl⟩
  refine⟨.ref s.heap.objs.size,upd H s.heap.objs.size (.tup [x,y]),I2,rfl,⟨x,y,s.heap.objs.size,λzs hz=>by rw [aJ9 I hz hq1];exact hx,λzs hz=>by rw [aJ9 I hz hq2];exact hy,I.hok.fresh (Nat.le_refl _),rfl,rfl⟩,S2,λb hb=>?_⟩
  rw [E4]
  ·exact (hf b hb).1
  ·intro e
   subst e
   have:∃o,s.heap.get? s.heap.objs.size=some o:=by
    obtain⟨⟨f0,f1,_,hz⟩,ti,⟨x,y,to⟩,j1,j2⟩:=S
    simp only [List.mem_cons,List.not_mem_nil,or_false] at hb
    rcases hb with e | e | e | e | e
    ·rw [e];exact⟨_,hz⟩
    ·rw [e];exact⟨_,ti⟩
    ·rw [e];exact⟨_,to⟩
    ·rw [e];obtain⟨o,vs,h1,h2⟩:=j1.obj;exact⟨o,h1⟩
    ·rw [e];obtain⟨o,vs,h1,h2⟩:=j2.obj;exact⟨o,h1⟩
   obtain⟨o,ho⟩:=this
   exact absurd (Heap.lt_size ho) (Nat.lt_irrefl _)
 done:=by
  intro X hP hw hK hc i pins s σ H E I hf S hg
  subst hP hw hK
  obtain⟨xs,ys,hq1,hq2,hx⟩:=hg
  obtain⟨its1,r1,p1⟩:=ab7 I hq1
  obtain⟨its2,r2,p2⟩:=ab7 I hq2
  have l1:=r1.length
  have l2:=r2.length
  refine az8 (I.ok.hd hc) D S p1 p2 ?_ λh' hk=>⟨rfl,ap7 (t':=s.toks) I hf λb u hb q=>hk b u (λe=>hb (by simp [e])) (λe=>hb (by simp [e])) (λe=>hb (by simp [e])) (λe=>hb (by simp [e])) q⟩
  rcases hx with hx | hx
  ·left;rw [Array.getElem?_eq_none];simp;omega
  ·right;rw [Array.getElem?_eq_none];simp;omega
 self:=λ_ _ _ _ _ S h=>aj1 S.zr h
abbrev zH1(k1:Bool)(h:Heap)(l1:Addr):Heap:=h.push (az5 k1 l1)
abbrev zH2(k1 k2:Bool)(h:Heap)(l1 l2:Addr):Heap:=(zH1 k1 h l1).push (az5 k2 l2)
abbrev zH3(k1 k2:Bool)(h:Heap)(l1 l2:Addr):Heap:=(zH2 k1 k2 h l1 l2).push { cls:=.type "tuple",data:=.seq #[.ref h.objs.size,.ref (zH1 k1 h l1).objs.size] }
abbrev zH4(k1 k2:Bool)(h:Heap)(l1 l2:Addr):Heap:=(zH3 k1 k2 h l1 l2).push { cls:=.type "tuple",data:=.seq #[.none,.none] }
abbrev zH5(k1 k2:Bool)(h:Heap)(l1 l2:Addr):Heap:=(zH4 k1 k2 h l1 l2).push (aj0 .none false (zH2 k1 k2 h l1 l2).objs.size (zH3 k1 k2 h l1 l2).objs.size)
theorem aF5(k1 k2:Bool)(l1 l2:Addr)(xs ys:Array Value) :
 Meets (Builtin.«zip.__new__» ⟨[.type "zip",.ref l1,.ref l2],[]⟩) (λ_ R s=>SeqAt k1 s.heap l1 xs/\SeqAt k2 s.heap l2 ys/\R (.ok (.ret (.ref (zH4 k1 k2 s.heap l1 l2).objs.size))) { s with heap:=zH5 k1 k2 s.heap l1 l2 }):=
 .of_wp λprog w A R s h=>by
  obtain⟨hp,g,d,tk,os⟩:=s
  obtain⟨hl1,hl2,h⟩:=h
  have hsub:=sub_zip
  have hL1:SeqAt k1 (Shared.heap ⟨hp,g,d,tk,os⟩) l1 xs:=hl1
  have hL2:SeqAt k2 (Shared.heap ⟨hp.push (az5 k1 l1),g,d,tk,os⟩) l2 ys:=hl2.at λo e=>Heap.get?_push_of_some _ e
  wp_walk using az6 hL1,az6 hL2
  exact⟨_,rfl,h⟩
section
variable{prog:Program}{w:World}{A:Around}{E:Value->Shared->Prop}{s:Shared}
theorem aP5{k1 k2:Bool}{l1 l2:Addr}{xs ys:Array Value}{Q:Value->Shared->Prop}(hl1:SeqAt k1 s.heap l1 xs)(hl2:SeqAt k2 s.heap l2 ys)
 (h:∀h',ZSt k1 k2 (s.heap.objs.size+4) (s.heap.objs.size+2) (s.heap.objs.size+3) s.heap.objs.size (s.heap.objs.size+1) l1 l2 0 h'->(∀c o,s.heap.get? c=some o->h'.get? c=some o)->Q (.ref (s.heap.objs.size+4)) { s with heap:=h' }) :
 wpAny (model prog w) A (call (.type "zip") [.ref l1,.ref l2]) Q E s:=by
 refine callType_new F.called_zip (by decide) (F.typeCall_zip_2 _ _) (F.newCall_zip_2 _ _) (λobj=>F.args_object_init_3 obj _ _) F.entry_zip_new (aF5 k1 k2 l1 l2 xs ys) ⟨hl1,hl2,?_⟩
 have z1:(zH1 k1 s.heap l1).objs.size=s.heap.objs.size+1:=Heap.size_push ..
 have z2:(zH2 k1 k2 s.heap l1 l2).objs.size=s.heap.objs.size+2:=by rw [Heap.size_push,z1]
 have z3:(zH3 k1 k2 s.heap l1 l2).objs.size=s.heap.objs.size+3:=by rw [Heap.size_push,z2]
 have z4:(zH4 k1 k2 s.heap l1 l2).objs.size=s.heap.objs.size+4:=by rw [Heap.size_push,z3]
 have g5:(zH5 k1 k2 s.heap l1 l2).get? (zH4 k1 k2 s.heap l1 l2).objs.size=some _:=Heap.get?_push_size _ rfl
 have g4:(zH5 k1 k2 s.heap l1 l2).get? (zH3 k1 k2 s.heap l1 l2).objs.size=some _:=Heap.get?_push_of_some _ (Heap.get?_push_size _ rfl)
 have g3:(zH5 k1 k2 s.heap l1 l2).get? (zH2 k1 k2 s.heap l1 l2).objs.size=some _:=Heap.get?_push_of_some _ (Heap.get?_push_of_some _ (Heap.get?_push_size _ rfl))
 have g2:IterAt k2 (zH5 k1 k2 s.heap l1 l2) (zH1 k1 s.heap l1).objs.size l2 0:=(aZ1 k2 (zH1 k1 s.heap l1) l2).at λo e=>Heap.get?_push_of_some _ (Heap.get?_push_of_some _ (Heap.get?_push_of_some _ e))
 have g1:IterAt k1 (zH5 k1 k2 s.heap l1 l2) s.heap.objs.size l1 0:=(aZ1 k1 s.heap l1).at λo e=>Heap.get?_push_of_some _ (Heap.get?_push_of_some _ (Heap.get?_push_of_some _ (Heap.get?_push_of_some _ e)))
 show _/\_
 rw [z2,z3,z4] at g5
 rw [z1,z2] at g3
 rw [z3] at g4
 rw [z1] at g2
 rw [z4]
 exact⟨⟨_,g5,rfl⟩,h _ ⟨⟨_,_,.inl rfl,g5⟩,g3,⟨_,_,g4⟩,g1,g2⟩ λc o x=>Heap.get?_push_of_some _ (Heap.get?_push_of_some _ (Heap.get?_push_of_some _ (Heap.get?_push_of_some _ (Heap.get?_push_of_some _ x))))⟩
end
section
variable{X:Cx}{cm:Nat->Addr}
theorem i_zip{a b tg:Expr}{d e:ED}{p pos:Pos}(ht:∀es p,tg≠.List es p)(hg:Gl X "zip")(hm:X.mg "zip" = none)(ha:PE X a (EvE X.K cm d))(hb:PE X b (EvE X.K cm e))
 (hs:starEach [a,b] X.env=(false,eval a X.env)::starEach [b] X.env:=by exact E5 rfl) (hs2:starEach [b] X.env=(false,eval b X.env)::starEach [] X.env:=by exact E5 rfl):L2.PI X tg (.Call (.Name "zip" p) [a,b] [] pos) (EvI X.K cm (a74 d e)):=by
 intro pins s σ H R I h
 obtain⟨ρ,A,σp,J,A',rl,rs,ev,k⟩:=h
 obtain⟨x,A1,e1,ev1⟩:=B0 ev
 obtain⟨y,A2,e2,ev2⟩:=B0 ev1
 refine Call_ (U1 I hg hm (show bootBuiltins "zip" = some (.type "zip") from by rfl) (callWith_type1 (thn ((r_cons ha (r_cons hb r_nil hs2) hs) pos pins s σ H (λvs H1=>∃a xs b ys,vs=[.ref a,.ref b]/\SqK (kindOf x) X.K H1 a xs/\SqK (kindOf y) X.K H1 b ys/\R (Itz X.K (kindOf x) (kindOf y) a b) H1) I ⟨ρ,A,σp,[x,y],A2,rl,rs,by show bnd (d σp) _ A=_;rw [bnd_ok e1];show bnd (bnd (e σp) _) _ A1=_;rw [bnd_ok (show bnd (e σp) _ A1=.ok [y] A2 by rw [bnd_ok e2];rfl)];rfl,λρ1 H1 vs1 x1 rl1 rv1=>?_⟩) λus s1 ⟨vs,H1,I1,r1,q1⟩=>?_) hs (by rw [hs2];rfl)))
 ·cases rv1 with
  | cons hv hr=>
    cases hr with
    | cons hv2 hr2=>
      cases hr2
      obtain⟨l,A3,e3,ev3⟩:=B0 ev2
      obtain⟨rfl,a,xs,rfl,hq,r⟩:=b4 rl1 hv e3
      obtain⟨m,A4,e4,ev4⟩:=B0 ev3
      obtain⟨rfl,b,ys,rfl,hq2,r2⟩:=b4 rl1 hv2 e4
      cases ev4
      exact⟨a,xs,b,ys,rfl,hq,hq2,k ρ1 H1 _ x1 rl1 ⟨a,b,hv,hv2,rfl⟩⟩
 ·obtain⟨a,xs,b,ys,rfl,hq,hq2,q⟩:=q1
  cases r1 with
  | cons h1 t1=>
    cases t1 with
    | cons h2 t2=>
      cases t2
      cases h1
      cases h2
      obtain⟨its1,r1,p1⟩:=ab7 I1 hq
      obtain⟨its2,r2,p2⟩:=ab7 I1 hq2
      refine aP5 p1 p2 λh' S kp=>?_
      refine aj1 S.zr ?_
      have I2:L2.Inv X pins σ H1 { s1 with heap:=h' }:=I1.kept (t':=s1.toks) kp
      have la:=p1.lt
      have lb:=p2.lt
      refine⟨s1.heap.objs.size+4,[s1.heap.objs.size+4,s1.heap.objs.size+2,s1.heap.objs.size+3,s1.heap.objs.size,s1.heap.objs.size+1],_,_,H1,rfl,I2,aZ3 ht (kindOf x) (kindOf y) a b _ _ _ _ _ ?_,S,λc hc=>?_,q⟩
      ·have la:@LT.lt Nat _ a s1.heap.objs.size:=la
       have lb:@LT.lt Nat _ b s1.heap.objs.size:=lb
       constructor <;> first | exact Nat.ne_of_lt (by omega) | exact Nat.ne_of_gt (by omega)
      ·have hb2:s1.heap.objs.size<=c:=by
        simp only [List.mem_cons,List.not_mem_nil,or_false] at hc
        rcases hc with rfl | rfl | rfl | rfl | rfl
        ·exact Nat.le_add_right _ 4
        ·exact Nat.le_add_right _ 2
        ·exact Nat.le_add_right _ 3
        ·exact Nat.le_refl _
        ·exact Nat.le_add_right _ 1
       exact I1.fpOk hb2 (I1.hok.fresh hb2)
end
abbrev aj2(led:Bool):Obj:={ cls:=.type "set",dict:=none,data:=.set #[] 0 (.fresh 0 0 led) }
section
variable{prog:Program}{w:World}{A:Around}{E:Value->Shared->Prop}{s:Shared}
set_option maxHeartbeats 3200000 in
theorem av1{l:Addr}{its:Array Value}{ns:List Int}{Q:Value->Shared->Prop}(hh:A.handled=none)(hl:s.heap.IsTuple l its)(hi:IntsAre its.toList ns)(hb:its.size+1<scanBound)
 (h:∀(h':Heap) (tk:Nat),h'.SetOf (intKind prog w) s.heap.objs.size (λk'=>(firstMet (λi=>ns.getD i 0) its.size).any (·== k')) (firstMet (λi=>ns.getD i 0) its.size).length->(∀b o,b<s.heap.objs.size->s.heap.get? b=some o->h'.get? b=some o)->Q (.ref s.heap.objs.size) { s with heap:=h',toks:=tk }) :
 wpAny (model prog w) A (call (.type "set") [.ref l]) Q E s:=by
 obtain⟨c,tl,hmro⟩:=PySem.F.called_set.mro
 have hmade:=PySem.F.called_set.made
 have hsub:=PySem.F.called_set.sub
 refine wpAny_call (codeAny_of_tree ?_)
 show wpAny _ _ (callAny (.type "set") _) _ _ _
 refine wpAny_pure ⟨Code.quiet_builtin _ (by decide +kernel),codeAny_builtin PySem.F.entry_type_call ?_⟩
 rw [Around.under_plain (weight_type_call_type "set" [.ref l] []) rfl]
 have h1:=PySem.F.called_set.notType
 have h2:=PySem.F.called_set.canCreate
 have hct:=PySem.F.typeCall_set_1 (.ref l)
 repeat (any_goals (first | assumption | wp_step))
 refine codeAny_mono (code_set_new_1 (.ref l) (E:=E) (Q₁:=λobj s₁=>∃led:Bool,obj=.ref s.heap.objs.size/\s₁={ s with heap:=s.heap.push (aj2 led) }) λled=>⟨led,rfl,rfl⟩) λr s₁ hr=>?_
 cases r with
 | error e=>exact hr
 | ok fl=>
   cases fl with
   | ret obj=>
     obtain⟨led,rfl,rfl⟩:=hr
     have hS:(s.heap.push (aj2 led)).get? s.heap.objs.size=some (aj2 led):=Heap.get?_push_size _ rfl
     have hT:Shared.TypeIs { s with heap:=s.heap.push (aj2 led) } (.ref s.heap.objs.size) "set":=⟨_,hS,rfl⟩
     have hli:=PySem.F.called_set.init.lookup
     have hbi:=PySem.F.called_set.init.bind (.ref s.heap.objs.size)
     repeat (any_goals (first | assumption | wp_step))
     refine codeAny_mono (codeAny_call_builtin (R:=wants (λr s₂=>r=.none/\∃h' tk,s₂={ s with heap:=h',toks:=tk }/\
      h'.SetOf (intKind prog w) s.heap.objs.size (λk'=>(firstMet (λi=>ns.getD i 0) its.size).any (·== k')) (firstMet (λi=>ns.getD i 0) its.size).length/\
      (∀b o,b<s.heap.objs.size->s.heap.get? b=some o->h'.get? b=some o)) E) PySem.F.called_set.init.plain PySem.F.entry_set_init (check_set_init_1 hT ?_)) λr₂ s₂ hr₂=>?_
     ·obtain⟨ol,hol,hcl,nl,hdl⟩:=hl
      obtain⟨ocls,odict,odata,oslots⟩:=ol
      simp only at hcl hdl
      subst hcl;subst hdl
      have hol':(s.heap.push (aj2 led)).get? l=some { cls:=.type "tuple",dict:=odict,data:=.seq its nl,slots:=oslots }:=Heap.get?_push_of_some _ hol
      have hsls:=PySem.F.sub_tuple_set
      have hslf:=PySem.F.sub_tuple_frozenset
      have hne:(Value.type "tuple" == Value.type "dict")=false:=by decide
      have hl1:(s.heap.push (aj2 led)).IsTuple l its:=⟨_,hol',rfl,nl,rfl⟩
      unfold Builtin.«set.__init__» noKeywords Builtin.Frozenset.updateFrom
      generalize hPI:pyIter=PI
      wp_walk
      subst hPI
      refine wpAny_pyIter_tuple hl1 ?_
      refine wpAny_bind (wpAny_runValue ?_)
      have hlS:l<s.heap.objs.size:=Heap.lt_size hol
      have hh3:A.in1.in1.in1.handled=none:=by simp [hh]
      have hneI:l≠(s.heap.push (aj2 led)).objs.size:=by
       rw [Heap.size_push];exact Nat.ne_of_lt (Nat.lt_succ_of_lt hlS)
      have hSf:s.heap.objs.size∉[(s.heap.push (aj2 led)).objs.size,l]:=by
       rw [Heap.size_push];simp only [List.mem_cons,List.mem_singleton,List.not_mem_nil,or_false,not_or]
       exact⟨Nat.ne_of_lt (Nat.lt_succ_self _),Nat.ne_of_gt hlS⟩
      have hval:∀(i:Nat) (v:Value),its[i]?=some v->∃t,v=.int ((λi=>ns.getD i 0) i) t:=λi v hv=>IntsAre.int_at hi i v (by rw [Array.getElem?_toList];exact hv)
      refine codeAny_set_update_loopS ((Walks.tuple hh3 _ l hneI its).toS) s.heap.objs.size hSf (λi=>ns.getD i 0) hval hb (its.size - 0) 0 _ (by omega) (Nat.zero_le _)
       ⟨⟨_,Heap.get?_push_size _ rfl,rfl,rfl⟩,(hl1.push _)⟩ ?hS0 ?hR
      case hS0=>
       have hget:((s.heap.push (aj2 led)).push { cls:=.type "tuple_iterator",data:=.fields #[.ref l,.int 0 0] }).get? s.heap.objs.size=some (aj2 led):=Heap.get?_push_of_some _ hS
       exact SetOf_congr ((setObjOf_fresh (knd:=intKind prog w) led).setOf hget (by unfold scanBound;omega)) (λ_=>rfl) rfl
      case hR=>
       intro s' hm hS'
       obtain⟨h',g',d',tk',os'⟩:=s'
       have eg:g'=s.gens:=hm.gens
       have ed:d'=s.drawn:=hm.drawn
       have eo:os'=s.os:=hm.os
       subst eg;subst ed;subst eo
       show wpAny _ _ _ _ _ _
       refine wpAny_pure ?_
       show wpAny _ _ (PySem.ret Value.none) _ _ _
       refine wpAny_pure ⟨rfl,h',tk',rfl,hS',λb o hb e=>?_⟩
       have hb1:b≠s.heap.objs.size:=Nat.ne_of_lt hb
       have hb2:b≠(s.heap.push (aj2 led)).objs.size:=by
        rw [Heap.size_push];exact Nat.ne_of_lt (Nat.lt_succ_of_lt hb)
       exact hm.heap b o (by simp only [List.mem_cons,List.mem_singleton,List.not_mem_nil,or_false,not_or];exact⟨hb1,hb2⟩) (Heap.get?_push_of_some _ (Heap.get?_push_of_some _ e))
     ·cases r₂ with
      | error e=>exact hr₂
      | ok fl₂=>
        cases fl₂ with
        | ret r=>
          obtain⟨rfl,h',tk,rfl,hS',hk'⟩:=hr₂
          repeat (any_goals (first | assumption | wp_step))
          exact h _ _ hS' hk'
        | _=>exact hr₂.elim
   | _=>exact hr.elim
end
theorem aZ4(ns:List Int):(firstMet (λi=>ns.getD i 0) ns.length).length=ag5 ns:=by
 unfold firstMet ag5
 have e:(List.range ns.length).map (λi=>ns.getD i 0)=ns:=by
  refine List.ext_getElem? λk=>?_
  rw [List.getElem?_map]
  by_cases hk:k<ns.length
  ·rw [List.getElem?_range hk];simp [hk]
  ·simp [hk]
 rw [e];rfl
section
variable{X:Cx}{cm:Nat->Addr}
theorem aP6{e:Expr}{d:ED}{p1 p2 q1 q2:Pos}(hcalm:X.calm=true)(he:PE X e (EvE X.K cm d))(hg1:Gl X "len")(hm1:X.mg "len" = none)(hg2:Gl X "set")(hm2:X.mg "set" = none)
 (hs2:starEach [e] X.env=(false,eval e X.env)::starEach [] X.env:=by exact E5 rfl)
 (hs1:starEach [.Call (.Name "set" p2) [e] [] q2] X.env=(false,eval (.Call (.Name "set" p2) [e] [] q2) X.env)::starEach [] X.env:=by rfl) :
 PE X (.Call (.Name "len" p1) [.Call (.Name "set" p2) [e] [] q2] [] q1) (EvE X.K cm (ag6 d)):=by
 intro pins s σ H Q I h
 obtain⟨ρ,A,σp,v,A',rl,rs,ev,k⟩:=h
 obtain⟨x,A1,e1,ev1⟩:=B0 ev
 refine Call_ (U1 I hg1 hm1 PySem.boot_len (callWith_builtin1 (y0 hs1 ?_) hs1 rfl))
 refine Call_ (U1 I hg2 hm2 (show bootBuiltins "set" = some (.type "set") from by rfl) (callWith_type1 (y0 hs2 ?_) hs2 rfl))
 refine thn (he pins s σ H (λv H1=>∃(a:Addr) (ns:List Int),v=.ref a/\SqK (kindOf x) X.K H1 a (ns.map V.int)/\ns.length<1000/\Q (.int (ag5 ns)) H1) I ⟨ρ,A,σp,x,A1,rl,rs,e1,λρ1 H1 v1 x1 rl1 rv1=>?_⟩) λu s1 ⟨w1,H1,I1,r1,a,ns,ew,hq,hlt,q⟩=>?_
 ·obtain⟨l,A2,e2,ev2⟩:=B0 ev1
  obtain⟨rfl,a,xs,rfl,hH,r0⟩:=b4 rl1 rv1 e2
  cases hi:J6 l with
  | none=>rw [hi] at ev2;cases ev2
  | some ns=>
    rw [hi] at ev2
    obtain⟨c,ev3⟩:=C8 ev2
    cases ev3
    rw [O0 hi] at r0
    exact⟨a,ns,rfl,by rw [←X5 r0];exact hH,c,k ρ1 H1 _ x1 rl1 (.int _)⟩
 ·subst ew
  obtain rfl:u=Value.ref a:=r1
  have fin:∀(h':Heap) (tk:Nat) (n:Nat),n=ns.length->h'.SetOf (intKind X.prog X.w) s1.heap.objs.size (λk'=>(firstMet (λi=>ns.getD i 0) n).any (·== k')) (firstMet (λi=>ns.getD i 0) n).length->
   (∀b o,b<s1.heap.objs.size->s1.heap.get? b=some o->h'.get? b=some o)->wpAny (model X.prog X.w) X.A (call (.builtin "len") [.ref s1.heap.objs.size]) (EP X pins σ Q) X.xe { s1 with heap:=h',toks:=tk }:=by
   intro h' tk n hn hset hold
   subst hn
   obtain⟨o,es,ep,t,ho,hex,hd,_,_,_,hf,hsz⟩:=hset
   have hn:es.size=ag5 ns:=by rw [hsz];exact aZ4 ns
   have hle:=aW1 ns
   refine call_len_set (s:={ s1 with heap:=h',toks:=tk }) ho hex hd hf (by omega) ?_
   rw [hn]
   exact⟨.int (ag5 ns),H1,I1.kept (h':=h') (t':=tk+1+1) (λb ob e=>hold b ob (Heap.lt_size e) e),⟨_,rfl⟩,q⟩
  cases hk:kindOf x with
  | true=>
    rw [hk] at hq
    obtain⟨its,ri,pl,hz⟩:=I1.tuple hq
    have hi:IntsAre its ns:=P6 ri
    have hl:its.length=ns.length:=hi.length
    refine av1 (I1.ok.hd hcalm) pl (by simpa using hi) (by rw [List.size_toArray,hl];exact Nat.lt_of_lt_of_le (Nat.succ_lt_succ hlt) (by decide)) λh' tk hset hold=>fin h' tk _ (by rw [List.size_toArray,hl]) hset hold
  | false=>
    rw [hk] at hq
    obtain⟨its,ri,pl,hz⟩:=I1.list hq
    have hi:IntsAre its ns:=P6 ri
    have hl:its.length=ns.length:=hi.length
    refine call_set_list (I1.ok.hd hcalm) pl.isList (by simpa using hi) (by rw [List.size_toArray,hl];exact Nat.lt_of_lt_of_le (Nat.succ_lt_succ hlt) (by decide)) λh' tk hset hold=>fin h' tk _ (by rw [List.size_toArray,hl]) hset hold
end
end Ws
namespace Ws
open PySem PySem.W PyProof.Rows PySem.Calls
end Ws
namespace Ws
open PySem PySem.W PyProof.Rows PySem.Calls Builtin Builtin.ObjectAttr
end Ws
namespace Ws
open PySem PySem.W PyProof.Rows PySem.Calls
end Ws
namespace Ws
open PySem L2
section
variable{X:Cx}{cm:Nat->Addr}
theorem bn1{a b:Expr}{d d':ED}{p pos:Pos}(hcalm:X.calm=true)(ha:PE X a (EvE X.K cm d))(hb:PE X b (EvE X.K cm d'))(hg:Gl X "max")(hm:X.mg "max" = none)
 (hs:starEach [a,b] X.env=(false,eval a X.env)::starEach [b] X.env:=by exact E5 rfl) (hs2:starEach [b] X.env=(false,eval b X.env)::starEach [] X.env:=by exact E5 rfl) (hpl:(backTo pos (starEach [b] X.env)).any (·.1)=false:=by rfl) :
 PE X (.Call (.Name "max" p) [a,b] [] pos) (EvE X.K cm (bf0 d d')):=
 E3 (S4 (aM9 hcalm) hg hm PyProof.Rows.boot_max (d4 ha (d4 hb as3 hs2) hs) (he:=hs) (hpl:=hpl)) λσ H Q hq=>by
  obtain ⟨ρ,A,σp,v,A',rl,rs,ev,k⟩:=hq
  obtain⟨x,A1,e1,ev1⟩:=B0 ev
  obtain⟨y,A2,e2,ev2⟩:=B0 ev1
  refine⟨ρ,A,σp,x,A1,rl,rs,e1,λρ1 H1 v1 x1 rl1 rv1=>⟨ρ1,A1,σp,y,A2,rl1,rs.mono x1,e2,λρ2 H2 v2 x2 rl2 rv2=>?_⟩⟩
  cases x with
  | int i=>
    cases y with
    | int j=>
      cases ev2
      cases rv1
      cases rv2
      exact⟨i,j,rfl,k ρ2 H2 _ (x1.trans x2) rl2 (.int _)⟩
    | _=>cases ev2
  | _=>cases y <;> cases ev2
end
end Ws
namespace Ws
open PySem
open PySem.SeqAt
end Ws
namespace Ws
end Ws
namespace Ws
open PySem PySem.Spec PySem.Calls PyProof.Rows
end Ws
namespace Ws
open PySem L2
theorem aj3{i j:List Int}(h:i.map (Sum.inl:Int->Key)=j.map Sum.inl):i=j:=(List.map_inj_right λ_ _ z=>Sum.inl.inj z).mp h
section
variable{ρ:List Addr}{H:Hp}{K:PySem.W.Frag}{A:PHp}{n:Nat}{v:V}
abbrev PT2(ρ:List Addr)(H:Hp)(m:List (List Int×PV))(kv:List (List Key×V)):Prop:=Pairs (List.map Sum.inl:List Int->List Key) ρ H m kv
theorem PT2.len{m:List (List Int×PV)}{kv:List (List Key×V)}(h:PT2 ρ H m kv):m.length=kv.length:=by
 have:=congrArg List.length h.keys
 simpa using this.symm
theorem PT2.val:∀{m:List (List Int×PV)} {kv:List (List Key×V)} (i:List Int),PT2 ρ H m kv->(J8 m i=none/\g7 kv (i.map Sum.inl)=none)\/∃x u,J8 m i=some x/\g7 kv (i.map Sum.inl)=some u/\RV ρ H x u
 | [],kv,i,h=>by obtain rfl:=h.nil_inv;exact .inl ⟨rfl,rfl⟩
 | p::r,kv,i,h=>by
   obtain⟨u,kv',rfl,hu,t⟩:=h.cons_inv
   unfold J8
   by_cases e:p.1=i
   ·rw [if_pos e,u5 (by rw [e])]
    exact .inr ⟨_,_,rfl,rfl,hu⟩
   ·rw [if_neg e,u6 (λz=>e (aj3 z))]
    exact PT2.val i t
theorem PT2.some_eq{m:List (List Int×PV)}{kv:List (List Key×V)}(i:List Int)(h:PT2 ρ H m kv):(g7 kv (i.map Sum.inl)).isSome=(J8 m i).isSome:=by
 rcases PT2.val i h with ⟨a,b⟩ | ⟨x,u,a,b,_⟩ <;> rw [a,b] <;> rfl
theorem az9(i:List Int):∀m:List (List Int×PV),(m.any λp=>decide (p.1=i))=(J8 m i).isSome
 | []=>rfl
 | p::r=>by
   unfold J8
   rw [List.any_cons]
   by_cases e:p.1=i
   ·rw [if_pos e,decide_eq_true e];rfl
   ·rw [if_neg e,decide_eq_false e,Bool.false_or];exact az9 i r
theorem PT2.repl{x:PV}{u:V}(ru:RV ρ H x u)(i:List Int):∀{m:List (List Int×PV)} {kv:List (List Key×V)},PT2 ρ H m kv->PT2 ρ H (m.map λp=>if p.1=i then (p.1,x) else p) (kv.map λp=>if p.1=(i.map Sum.inl) then (p.1,u) else p)
 | [],kv,h=>by obtain rfl:=h.nil_inv;exact⟨rfl,.nil⟩
 | p::r,kv,h=>by
   obtain⟨w,kv',rfl,hw,t⟩:=h.cons_inv
   have ih:=PT2.repl ru i t
   rw [List.map_cons,List.map_cons]
   by_cases e:p.1=i
   ·rw [if_pos e,if_pos (by rw [e])];exact Pairs.cons' (p:=(p.1,x)) ru ih
   ·rw [if_neg e,if_neg (λz=>e (aj3 z))];exact Pairs.cons' hw ih
theorem PT2.snoc{x:PV}{u:V}(ru:RV ρ H x u)(i:List Int):∀{m:List (List Int×PV)} {kv:List (List Key×V)},PT2 ρ H m kv->PT2 ρ H (m++[(i,x)]) (kv++[(i.map Sum.inl,u)])
 | [],kv,h=>by obtain rfl:=h.nil_inv;exact Pairs.cons' (p:=(i,x)) ru ⟨rfl,.nil⟩
 | p::r,kv,h=>by
   obtain⟨w,kv',rfl,hw,t⟩:=h.cons_inv
   exact Pairs.cons' hw (PT2.snoc ru i t)
theorem PT2.put{x:PV}{u:V}(ru:RV ρ H x u)(i:List Int){m:List (List Int×PV)}{kv:List (List Key×V)}(h:PT2 ρ H m kv):PT2 ρ H (W8 m i x) (Y3 kv (i.map Sum.inl) u):=by
 unfold W8 Y3
 have e:(kv.any λp=>decide (p.1=(i.map Sum.inl)))=(m.any λp=>decide (p.1=i)):=by
  rw [az9,af4];exact h.some_eq i
 rw [e]
 by_cases a:(m.any λp=>decide (p.1=i))=true
 ·rw [if_pos a,if_pos a];exact h.repl ru i
 ·rw [if_neg a,if_neg a];exact h.snoc ru i
theorem R1{cm:Nat->Addr}{m:List (List Int×PV)}{A':PHp}(rl:Rel K cm ρ A H)(r:RV ρ H (.ref n) v)(h:V9 n A=.ok m A'):A'=A/\A[n]?=some (.dT m)/\∃a kv,v=.ref a/\ρ[n]?=some a/\H a=some (.dT kv)/\PT2 ρ H m kv:=by
 cases r with
 | ref hn=>
   unfold V9 at h
   rcases hA:A[n]? with _ | o
   ·rw [hA] at h;cases h
   ·have q:=rl.obj n o _ hA hn
    cases o with
    | dT m=>rw [hA] at h;cases h;obtain⟨xs,h1,h2⟩:=q;exact⟨rfl,rfl,_,xs,rfl,hn,h1,h2⟩
    | _=>rw [hA] at h;cases h
end
theorem X6{ρ:List Addr}{H:Hp}{kx:PV}{j:List Int}{v:V}(h:Q8 kx=some j)(r:RV ρ H kx v):∃b,v=.ref b/\H b=some (.tup ((j.map Sum.inl).map L2.kV)):=by
 cases kx with
 | tup l=>
   have h:J6 l=some j:=h
   cases r with
   | tup ha hv=>
     rw [O0 h] at hv
     have:=X5 hv
     refine⟨_,rfl,?_⟩
     rw [ha,this]
     congr 2
     simp [L2.kV]
 | _=>cases h
section
variable{X:Cx}{cm:Nat->Addr}
theorem aZ5{y d:ED}{σ:L2.St}{H:Hp}{Q:VK}(h:EvE X.K cm (aE4 y d) σ H Q):br2 (EvE X.K cm y) (EvE X.K cm d) σ H Q:=by
 obtain⟨ρ,A,σp,v,A',rl,rs,ev,k⟩:=h
 obtain⟨kx,A1,e1,ev1⟩:=B0 ev
 obtain⟨x,A2,e2,ev2⟩:=B0 ev1
 refine⟨ρ,A,σp,kx,A1,rl,rs,e1,λρ1 H1 v1 x1 rl1 rv1=>⟨ρ1,A1,σp,x,A2,rl1,rs.mono x1,e2,λρ2 H2 v2 x2 rl2 rv2=>?_⟩⟩
 rcases hkj:Q8 kx with _ | j <;> rw [hkj] at ev2
 ·cases ev2
 cases x with
 | ref n=>
   obtain⟨m,A3,e3,ev3⟩:=B0 ev2
   obtain⟨rfl,hA,a,kv,rfl,hn,hH,hp⟩:=R1 rl2 rv2 e3
   cases ev3
   obtain⟨b,rfl,hb⟩:=X6 hkj (rv1.mono x2)
   refine⟨a,_,rfl,DGet.t hH hb,?_⟩
   rw [hp.some_eq j]
   exact k ρ2 H2 _ (x1.trans x2) rl2 (.bl _)
 | _=>cases ev2
theorem aZ6{i o:Expr}{y d:ED}{pos:Pos}(hu:X.A.units+1<cLine)(hi:PE X i (EvE X.K cm y))(ho:PE X o (EvE X.K cm d))(h1:behindInMarks .In o=false:=by rfl):PE X (.Compare i [.In] [o] pos) (EvE X.K cm (aE4 y d)):=
 E3 (aT0 (aV2 hu hi ho) h1) λσ H Q h=>aZ5 h
theorem a99{i o:Expr}{y d:ED}{pos:Pos}(hu:X.A.units+1<cLine)(hi:PE X i (EvE X.K cm y))(ho:PE X o (EvE X.K cm d))(h1:behindInMarks .In o=false:=by rfl):PT X (.Compare i [.In] [o] pos) (EvT X.K cm (G0 (aE4 y d))):=
 ab1 (aC4 (aV2 hu hi ho) h1) λσ H Q h=>v8 (λ_ _ _=>aZ5 (X:=X)) h
theorem aF6{o i value:Expr}{d y e:ED}{pos pos':Pos}(hu:X.A.units+1<cLine)(ho:PE X o (EvE X.K cm d))(hi:PE X i (EvE X.K cm y))(hv:PE X value (EvE X.K cm e))(hs:swapsWith value (some (.Subscript o i pos')) pos.line X.env=pure false:=by rfl) :
 PS X (.Assign [.Subscript o i pos'] value pos) (EvS X.K cm (ap4 d y e)):=
 d9 (a71 hu ho hi hv hs) λD σ H hq=>by
  obtain ⟨ρ,A,σp,f,A',rl,rs,ev,k⟩:=hq
  obtain⟨w,A1,e1,ev1⟩:=B0 ev
  obtain⟨x,A2,e2,ev2⟩:=B0 ev1
  obtain⟨kx,A3,e3,ev3⟩:=B0 ev2
  refine⟨ρ,A,σp,w,A1,rl,rs,e1,λρ1 H1 v1 x1 rl1 rv1=>⟨ρ1,A1,σp,x,A2,rl1,rs.mono x1,e2,λρ2 H2 v2 x2 rl2 rv2=>⟨ρ2,A2,σp,kx,A3,rl2,(rs.mono x1).mono x2,e3,λρ3 H3 v3 x3 rl3 rv3=>?_⟩⟩⟩
  rcases hkj:Q8 kx with _ | j <;> rw [hkj] at ev3
  ·cases x <;> cases ev3
  cases x with
  | ref n=>
    obtain⟨m,A4,e4,ev4⟩:=B0 ev3
    obtain⟨rfl,hA,a,kv,rfl,hn,hH,hp⟩:=R1 rl3 (rv2.mono x3) e4
    obtain⟨c,ev5⟩:=C8 ev4
    cases ev5
    obtain⟨b,rfl,hb⟩:=X6 hkj rv3
    refine⟨a,_,rfl,DPut.t hH hb (by rw [←hp.len];exact at9 c),?_⟩
    have ex:Ext ρ3 H3 ρ3 (upd H3 a (.dT (Y3 kv (j.map Sum.inl) v1))):=Ext.put rl3 hn hA rfl
    have rl4:Rel X.K cm ρ3 (A4.set n (.dT (W8 m j w))) (upd H3 a (.dT (Y3 kv (j.map Sum.inl) v1))):=
     rl3.put hn hA rfl rfl ⟨_,D8,PT2.put ((((rv1.mono x2).mono x3)).mono ex) j (hp.mono ex)⟩
    exact k ρ3 _ (((x1.trans x2).trans x3).trans ex) rl4 σ ((((rs.mono x1).mono x2).mono x3).mono ex)
  | _=>cases ev3
theorem ab8{o i:Expr}{d y:ED}{pos:Pos}(hu:X.A.units+1<cLine)(ho:PE X o (EvE X.K cm d))(hi:PE X i (EvE X.K cm y))(hs:bk2 i):PE X (.Subscript o i pos) (EvE X.K cm (ad3 d y)):=
 E3 (a70 hu ho hi hs) λσ H Q hq=>by
  obtain ⟨ρ,A,σp,v,A',rl,rs,ev,k⟩:=hq
  obtain⟨x,A1,e1,ev1⟩:=B0 ev
  obtain⟨kx,A2,e2,ev2⟩:=B0 ev1
  refine⟨ρ,A,σp,x,A1,rl,rs,e1,λρ1 H1 v1 x1 rl1 rv1=>⟨ρ1,A1,σp,kx,A2,rl1,rs.mono x1,e2,λρ2 H2 v2 x2 rl2 rv2=>?_⟩⟩
  rcases hkj:Q8 kx with _ | j <;> rw [hkj] at ev2
  ·cases x <;> cases ev2
  cases x with
  | ref n=>
    obtain⟨m,A3,e3,ev3⟩:=B0 ev2
    obtain⟨rfl,hA,a,kv,rfl,hn,hH,hp⟩:=R1 rl2 (rv1.mono x2) e3
    obtain⟨b,rfl,hb⟩:=X6 hkj rv2
    rcases hp.val j with ⟨h1,h2⟩ | ⟨z,u,h1,h2,ru⟩
    ·rw [h1] at ev3;cases ev3
    ·rw [h1] at ev3
     cases ev3
     exact⟨a,u,rfl,by rw [←h2];exact DGet.t hH hb,k ρ2 H2 _ (x1.trans x2) rl2 ru⟩
  | _=>cases ev2
theorem aj4{pos:Pos}:PE X (.Dict [] [] pos) (EvE X.K cm ag7):=
 E3 aV4 λσ H Q ⟨ρ,A,σp,v,A',rl,rs,ev,k⟩ p hp=>by
  cases ev
  have ex:Ext ρ H (ρ++[p]) (upd H p (.dT [])):=Ext.new hp
  exact k (ρ++[p]) _ _ ex (rl.alloc hp ⟨_,D8,⟨rfl,.nil⟩⟩ rfl) (.ref (by rw [←rl.len];simp))
theorem av2{o e:Expr}{d y:ED}{apos cpos:Pos}(hu:X.A.units+1<cLine)(ho:PE X o (EvE X.K cm d))(he:PE X e (EvE X.K cm y))(m:M1 X o "get" apos e cpos:=by exact⟨rfl,rfl,rfl,rfl⟩):PE X (.Call (.Attribute o "get" apos) [e] [] cpos) (EvE X.K cm (ag8 d y)):=
 E3 (aV5 hu ho he m) λσ H Q hq=>by
  obtain ⟨ρ,A,σp,v,A',rl,rs,ev,k⟩:=hq
  obtain⟨x,A1,e1,ev1⟩:=B0 ev
  refine⟨ρ,A,σp,x,A1,rl,rs,e1,λρ1 H1 v1 x1 rl1 rv1=>?_⟩
  cases x with
  | ref n=>
    obtain⟨m0,A2,e2,ev2⟩:=B0 ev1
    obtain⟨rfl,hA,a,kv,rfl,hn,hH,hp⟩:=R1 rl1 rv1 e2
    refine⟨a,rfl,.inr ⟨kv,.inl hH⟩,?_⟩
    obtain⟨kx,A3,e3,ev3⟩:=B0 ev2
    refine⟨ρ1,_,σp,kx,A3,rl1,rs.mono x1,e3,λρ2 H2 v2 x2 rl2 rv2=>?_⟩
    rcases hkj:Q8 kx with _ | j <;> rw [hkj] at ev3
    ·cases ev3
    obtain⟨m1,A5,e5,ev5⟩:=B0 ev3
    obtain⟨rfl,hA2,a2,kv2,e6,hn2,hH2,hp2⟩:=R1 rl2 (rv1.mono x2) e5
    cases e6
    cases ev5
    obtain⟨b,rfl,hb⟩:=X6 hkj rv2
    refine⟨_,DGet.t hH2 hb,?_⟩
    rcases hp2.val j with ⟨h1,h2⟩ | ⟨q,u,h1,h2,ru⟩
    ·rw [h1] at k;rw [h2];exact k ρ2 H2 _ (x1.trans x2) rl2 .non
    ·rw [h1] at k;rw [h2];exact k ρ2 H2 _ (x1.trans x2) rl2 ru
  | _=>cases ev1
theorem ba0{o e f:Expr}{d y z:ED}{apos cpos:Pos}(hu:X.A.units+1<cLine)(ho:PE X o (EvE X.K cm d))(he:PE X e (EvE X.K cm y))(hf:PE X f (EvE X.K cm z))(m:M2 X o "get" apos e f cpos:=by exact⟨rfl,rfl,rfl,rfl⟩):PE X (.Call (.Attribute o "get" apos) [e,f] [] cpos) (EvE X.K cm (aE5 d y z)):=
 E3 (aV6 hu ho he hf m) λσ H Q hq=>by
  obtain ⟨ρ,A,σp,v,A',rl,rs,ev,k⟩:=hq
  obtain⟨x,A1,e1,ev1⟩:=B0 ev
  refine⟨ρ,A,σp,x,A1,rl,rs,e1,λρ1 H1 v1 x1 rl1 rv1=>?_⟩
  cases x with
  | ref n=>
    obtain⟨m0,A2,e2,ev2⟩:=B0 ev1
    obtain⟨rfl,hA,a,kv,rfl,hn,hH,hp⟩:=R1 rl1 rv1 e2
    refine⟨a,rfl,.inr ⟨kv,.inl hH⟩,?_⟩
    obtain⟨kx,A3,e3,ev3⟩:=B0 ev2
    obtain⟨w,A4,e4,ev4⟩:=B0 ev3
    refine⟨ρ1,_,σp,kx,A3,rl1,rs.mono x1,e3,λρ2 H2 v2 x2 rl2 rv2=>⟨ρ2,A3,σp,w,A4,rl2,(rs.mono x1).mono x2,e4,λρ3 H3 v3 x3 rl3 rv3=>?_⟩⟩
    rcases hkj:Q8 kx with _ | j <;> rw [hkj] at ev4
    ·cases ev4
    obtain⟨m1,A5,e5,ev5⟩:=B0 ev4
    obtain⟨rfl,hA2,a2,kv2,e6,hn2,hH2,hp2⟩:=R1 rl3 ((rv1.mono x2).mono x3) e5
    cases e6
    cases ev5
    obtain⟨b,rfl,hb⟩:=X6 hkj (rv2.mono x3)
    refine⟨_,DGet.t hH2 hb,?_⟩
    rcases hp2.val j with ⟨h1,h2⟩ | ⟨q,u,h1,h2,ru⟩
    ·rw [h1] at k;rw [h2];exact k ρ3 H3 _ ((x1.trans x2).trans x3) rl3 rv3
    ·rw [h1] at k;rw [h2];exact k ρ3 H3 _ ((x1.trans x2).trans x3) rl3 ru
  | _=>cases ev1
end
end Ws
namespace Ws
open PySem PySem.W PyProof.Rows
def bt2(x:Int)(n:Nat)(hs:List Int)(t:SetTable):SetTable:=
 match t.freeSlot x with
 | some (slot,_)=>
   if (t.put slot).1.tooFull then (match (t.put slot).1.relaid hs.toArray (SetTable.grown n) with
    | some (t2,_)=>t2
    | none=>(t.put slot).1)
   else (t.put slot).1
 | none=>t
def K2(led:Bool)(ns:List Int):SetTable:=(List.range ns.length).foldl (λt i=>bt2 (ns.getD i 0) (i+1) (ns.take (i+1)) t) (.fresh 0 0 led)
def aq2(led:Bool)(ns:List Int):Bool:=
 (K2 led ns).fits ns.length&&(K2 led ns).led == led&&(K2 led ns).plain&&SetTable.below (K2 led ns).place 0 == 0&&(List.range ns.length).all (λi=>SetTable.below (K2 led ns).place ((K2 led ns).place.getD i 0+1) == i+1)
abbrev sixes:List (List Int):=aE3 [0,1,2,3,4,5]
theorem ba1:sixes.all (λns=>(List.range (ns.length+1)).all λi=>aq2 true (ns.take i)&&aq2 false (ns.take i))=true:=by decide +kernel
theorem ba2:sixes.all (λns=>ns.all (λx=>decide (hashInt x=x))&&decide (ns.length<=6)&&decide (ns.Pairwise (·< ·)))=true:=by decide +kernel
theorem aF7{ns:List Int}(h:ns∈sixes){i:Nat}(hi:i<=ns.length)(led:Bool):aq2 led (ns.take i)=true:=by
 have:=List.all_eq_true.mp (List.all_eq_true.mp ba1 ns h) i (List.mem_range.mpr (by omega))
 rw [Bool.and_eq_true] at this
 cases led
 ·exact this.2
 ·exact this.1
end Ws
namespace Ws
open PySem PySem.W PyProof.Rows PySem.Spec
def W5(es:Array (Int×Value))(ep:Nat)(t:SetTable):Obj:={ cls:=.type "set",dict:=none,data:=.set es ep t }
structure EsOf(es:Array (Int×Value))(ns:List Int):Prop where
 hs:es.toList.map (·.1)=ns
 vs:IntsAre (es.toList.map (·.2)) ns
theorem EsOf.size{es:Array (Int×Value)}{ns:List Int}(h:EsOf es ns):es.size=ns.length:=by
 have:=congrArg List.length h.hs
 simpa using this
theorem EsOf.ent{es:Array (Int×Value)}{ns:List Int}(h:EsOf es ns){e:Int×Value}(he:e∈es.toList):e.1∈ns/\∃t,e.2=.int e.1 t:=by
 obtain⟨i,hi,rfl⟩:=List.getElem_of_mem he
 have h1:ns[i]?=some es.toList[i].1:=by rw [←h.hs,List.getElem?_map,List.getElem?_eq_getElem hi];rfl
 obtain⟨t,ht⟩:=IntsAre.int_at h.vs i es.toList[i].2 (by rw [List.getElem?_map,List.getElem?_eq_getElem hi];rfl)
 refine⟨List.mem_of_getElem? h1,t,?_⟩
 rw [ht,List.getD_eq_getElem?_getD,h1];rfl
section
variable{prog:Program}{w:World}{A:Around}{E:Value->Shared->Prop}{s:Shared}
theorem EsOf.elems{es:Array (Int×Value)}{ns:List Int}(h:EsOf es ns)(hh:∀x∈ns,hashInt x=x):ElemsOf (intKind prog w) es.toList:=by
 intro e he
 obtain⟨h1,t,h2⟩:=h.ent he
 exact⟨⟨e.1,by rw [h2];exact intKind_is _ _ _ _,(hh _ h1).symm⟩,by rw [h2];rfl⟩
theorem y3{ns:List Int}(h:ns∈sixes):(∀x∈ns,hashInt x=x)/\ns.length<=6/\ns.Pairwise (·< ·):=by
 have:=List.all_eq_true.mp ba2 ns h
 simp only [Bool.and_eq_true,decide_eq_true_eq,List.all_eq_true] at this
 exact⟨this.1.1,this.1.2,this.2⟩
theorem aF8{es:Array (Int×Value)}(h:es.size=5):(#[0,1,2,3,4]:Array Nat).filterMap (es[·]?)=es:=by
 obtain⟨l⟩:=es
 rcases l with _ | ⟨a,_ | ⟨b,_ | ⟨c,_ | ⟨d,_ | ⟨e,_ | ⟨f,l⟩⟩⟩⟩⟩⟩
 iterate 5 (exact absurd h (by simp))
 ·rfl
 ·exact absurd h (by simp)
end
section
variable{prog:Program}{w:World}{A:Around}{R:Result->Shared->Prop}{E:Value->Shared->Prop}{s:Shared}
theorem ba3(a:Value){Q₁:Value->Shared->Prop}
 (h:Q₁ (.ref s.heap.objs.size) { s with heap:=s.heap.push (W5 #[] 0 (.fresh 0 0 (!w.params.followText "set-order"))) }) :
 codeAny (model prog w) A (.call (.builtin "set.__new__") ⟨[.type "set",a],[]⟩) (wants Q₁ E) s:=by
 refine codeAny_of_tree ?_
 show wpAny _ A.in1 (do checkBuiltinCall "set.__new__" ⟨[.type "set",a],[]⟩;again (.builtin "set.__new__" ⟨[.type "set",a],[]⟩)) _ _ s
 refine wpAny_bind (wpAny_of_eq (PySem.F.newCall_set_1 a) (wpAny_pure ⟨plainId_quiet F.plain_set_new _,codeAny_builtin F.entry_set_new ?_⟩))
 rw [Around.under_plainId F.plain_set_new _]
 unfold Builtin.«set.__new__» Builtin.Frozenset.newClass
 have hsub:=sub_set_self
 obtain⟨hp,g,d,tk,os⟩:=s
 dsimp only
 wp_walk
 refine wpAny_askSetting (wpAny_pure ?_)
 dsimp only
 simp only [newObj]
 refine wpAny_bind (wpAny_alloc (wpAny_pure ?_))
 exact wpAny_pure h
end
end Ws
namespace Ws
open PySem PySem.W PyProof.Rows PySem.Spec PySem.Calls
theorem aq3{α:Type}:∀{l:List α} {j:Nat} (h:j<l.length),(l[j]::l.eraseIdx j).Perm l
 | a::l,0,h=>List.Perm.refl _
 | a::l,j+1,h=>(List.Perm.swap _ _ _).trans ((aq3 (l:=l) (j:=j) (by simpa using h)).cons a)
theorem aK0{α:Type}(next:Nat->Nat):∀(n k:Nat) (left:List α) (out:Array α),left.length=n->(pickOrder.go next n k left out).toList.Perm (out.toList++left)
 | 0,k,left,out,h=>by
   obtain rfl:=List.eq_nil_of_length_eq_zero h
   unfold pickOrder.go
   simp
 | n+1,k,left,out,h=>by
   have hlt:next k%left.length<left.length:=Nat.mod_lt _ (by omega)
   unfold pickOrder.go
   rw [List.getElem?_eq_getElem hlt]
   dsimp only
   refine (aK0 next n (k+1) _ _ (by rw [List.length_eraseIdx_of_lt hlt];omega)).trans ?_
   rw [Array.toList_push,List.append_assoc]
   exact List.Perm.append_left _ (aq3 hlt)
theorem aF9{α:Type}(next:Nat->Nat)(xs:Array α):(pickOrder next xs).toList.Perm xs.toList:=by
 have:=aK0 next xs.size 0 xs.toList #[] (by simp)
 simpa [pickOrder] using this
theorem si_slot_next:Slot "set_iterator" "__next__" "set_iterator.__next__":=
 .of (owner:="set_iterator") (n:="__next__") (by rw [typeLookup_type,builtinLookup_eq_fast];kernel_rfl) (by decide +kernel) (by decide +kernel) (by decide +kernel)
  (by first | exact .inl (by decide +kernel) | exact .inr (by decide +kernel)) (by rw [isSubtype_type];kernel_rfl)
theorem y7:Slot "set_iterator" "__iter__" "set_iterator.__iter__":=
 .of (owner:="set_iterator") (n:="__iter__") (by rw [typeLookup_type,builtinLookup_eq_fast];kernel_rfl) (by decide +kernel) (by decide +kernel) (by decide +kernel)
  (by first | exact .inl (by decide +kernel) | exact .inr (by decide +kernel)) (by rw [isSubtype_type];kernel_rfl)
theorem o5:entryFor table "set_iterator.__next__" = some Builtin.«set_iterator.__next__»:=entryFor_of_tree (by kernel_rfl)
theorem an6:entryFor table "set_iterator.__iter__" = some Builtin.«dict_keyiterator.__iter__»:=
 entryFor_alias (id':="dict_keyiterator.__iter__") (by kernel_rfl) rfl (by decide +kernel) (by kernel_rfl)
theorem av3:entryFor table "set.__iter__" = some Builtin.«frozenset.__iter__»:=
 entryFor_alias (id':="frozenset.__iter__") (by kernel_rfl) rfl (by decide +kernel) (by kernel_rfl)
theorem aA0:Manifest.owners.lookup (String.ofList ['r','o','t','a','r','e','t','i','_','t','e','s'].reverse)=some Manifest.sig_set_iterator:=by kernel_rfl
theorem y8(a:Value):argsOk "set_iterator.__next__" ⟨[a],[]⟩:=by
 unfold argsOk;rw [signature?_of (id:="set_iterator.__next__") (n:=['_','_','t','x','e','n','_','_']) (o:=['r','o','t','a','r','e','t','i','_','t','e','s']) (by kernel_rfl) aA0];kernel_rfl
theorem av4(a:Value):argsOk "set_iterator.__iter__" ⟨[a],[]⟩:=by
 unfold argsOk;rw [signature?_of (id:="set_iterator.__iter__") (n:=['_','_','r','e','t','i','_','_']) (o:=['r','o','t','a','r','e','t','i','_','t','e','s']) (by kernel_rfl) aA0];kernel_rfl
def t4(led:Bool)(ns:List Int):Nat->Nat
 | 0=>0
 | i+1=>if led then (K2 led ns).place.getD i 0+1 else 0
def IsSI(h:Heap)(it S:Addr)(led:Bool)(ns:List Int)(ep i:Nat):Prop:=
 ∃o,h.get? it=some o/\o.cls=.type "set_iterator"/\o.data=.fields #[.int (t4 led ns i) 0,.int i 0,.ref S,.int ns.length 0,.int ep 0]
theorem IsSI.typeIs{s:Shared}{it S:Addr}{led:Bool}{ns:List Int}{ep i:Nat}(x:IsSI s.heap it S led ns ep i):s.TypeIs (.ref it) "set_iterator":=
 let ⟨o,ho,hc,_⟩:=x;⟨o,ho,hc⟩
theorem IsSI.at{h h':Heap}{it S:Addr}{led:Bool}{ns:List Int}{ep i:Nat}(x:IsSI h it S led ns ep i)(e:∀o,h.get? it=some o->h'.get? it=some o):IsSI h' it S led ns ep i:=
 let ⟨o,ho,r⟩:=x;⟨o,e _ ho,r⟩
def b7(w:World)(S:Addr)(ep:Nat)(es:Array (Int×Value)):List Value:=
 if w.params.followText "set-order" then (pickOrder (w.params.setOrder S ep) es).toList.map (·.2) else es.toList.map (·.2)
theorem aj5(w:World)(S:Addr)(ep:Nat)(es:Array (Int×Value)):(b7 w S ep es).Perm (es.toList.map (·.2)):=by
 unfold b7
 split
 ·exact (aF9 _ _).map _
 ·exact List.Perm.refl _
theorem ab9{w:World}{S:Addr}{ep:Nat}{es:Array (Int×Value)}{ns:List Int}(he:EsOf es ns):(b7 w S ep es).length=ns.length:=by
 rw [(aj5 w S ep es).length_eq,List.length_map,Array.length_toList,he.size]
structure TabOk(b:Bool)(ns:List Int):Prop where
 fits:(K2 b ns).fits ns.length=true
 led:(K2 b ns).led=b
 plain:(K2 b ns).plain=true
 zero:SetTable.below (K2 b ns).place 0=0
 next:∀i<ns.length,SetTable.below (K2 b ns).place ((K2 b ns).place.getD i 0+1)=i+1
theorem aK1{ns:List Int}(h:ns∈sixes)(led:Bool):TabOk led ns:=by
 have:=aF7 h (Nat.le_refl _) led
 rw [List.take_length] at this
 unfold aq2 at this
 simp only [Bool.and_eq_true,beq_iff_eq,List.all_eq_true,List.mem_range] at this
 exact⟨this.1.1.1.1,this.1.1.1.2,this.1.1.2,this.1.2,λi hi=>this.2 i hi⟩
theorem TabOk.psize{led:Bool}{ns:List Int}(h:TabOk led ns):(K2 led ns).place.size=ns.length:=by
 have:=h.fits
 simp only [SetTable.fits,Bool.and_eq_true,beq_iff_eq,decide_eq_true_eq] at this
 exact this.1
section
variable{prog:Program}{w:World}{A:Around}{E:Value->Shared->Prop}{s:Shared}
theorem aj6{S:Addr}{es:Array (Int×Value)}{ep i:Nat}{ns:List Int}{Q:Option (Value×Nat)->Shared->Prop}(hn:ns∈sixes)(hi:i<=ns.length)
 (hS:s.heap.get? S=some (W5 es ep (K2 (!w.params.followText "set-order") ns))) (he:EsOf es ns)
 (h:Q (((b7 w S ep es)[i]?).map λv=>(v,t4 (!w.params.followText "set-order") ns (i+1))) s) :
 wpAny (model prog w) A (setNext S (t4 (!w.params.followText "set-order") ns i) i ep) Q E s:=by
 have T:=aK1 hn (!w.params.followText "set-order")
 have hf:(K2 (!w.params.followText "set-order") ns).fits es.size=true:=by rw [he.size];exact T.fits
 unfold setNext
 refine wpAny_bind (wpAny_setState_of hS rfl hf ?_)
 dsimp only
 unfold setsByText
 refine wpAny_bind (wpAny_bind (wpAny_askSetting (wpAny_pure ?_)))
 show wpAny _ _ (if w.params.followText "set-order" = true then _ else _) _ _ s
 cases hb:w.params.followText "set-order" with
 | true=>
   rw [if_pos rfl,if_neg (by simp)]
   refine wpAny_bind ?_
   unfold setWalk setsByText
   refine wpAny_bind (wpAny_setState_of hS rfl hf ?_)
   dsimp only
   refine wpAny_bind (wpAny_bind (wpAny_askSetting (wpAny_pure ?_)))
   show wpAny _ _ (if w.params.followText "set-order" = true then _ else _) _ _ s
   rw [if_pos hb]
   refine wpAny_bind (wpAny_askSetting (wpAny_pure ?_))
   refine wpAny_pure ?_
   have e1:b7 w S ep es=(pickOrder (w.params.setOrder S ep) es).toList.map (·.2):=by unfold b7;rw [if_pos hb]
   have e2:t4 (!w.params.followText "set-order") ns (i+1)=t4 (!w.params.followText "set-order") ns i:=by
    rw [hb];cases i <;> rfl
   rw [e1,e2,hb,List.getElem?_map,Array.getElem?_toList,Option.map_map] at h
   exact h
 | false=>
   simp only [hb,Bool.not_false] at T hS hf h ⊢
   rw [if_neg (by simp)]
   have e1:b7 w S ep es=es.toList.map (·.2):=by unfold b7;rw [if_neg (by simp [hb])]
   show wpAny _ _ (if (!(K2 true ns).plain&&decide (es.size > 1))=true then _ else _) _ _ s
   rw [if_neg (by rw [T.plain];simp)]
   show wpAny _ _ ((if (!(K2 true ns).led&&!es.isEmpty)=true then _ else _)>>=_) _ _ s
   rw [if_neg (by rw [T.led];simp)]
   refine wpAny_bind (wpAny_pure ?_)
   refine wpAny_pure ?_
   have e3:SetTable.below (K2 true ns).place (t4 true ns i)=i:=by
    cases i with
    | zero=>exact T.zero
    | succ j=>exact T.next j (by omega)
   show Q (match es[SetTable.below (K2 true ns).place (t4 true ns i)]?,(K2 true ns).place[SetTable.below (K2 true ns).place (t4 true ns i)]? with
    | some (_,x),some j=>some (x,j+1)
    | _,_=>none) s
   rw [e3]
   rw [e1,List.getElem?_map,Array.getElem?_toList] at h
   by_cases hlt:i<ns.length
   ·have h1:i<es.size:=by rw [he.size];exact hlt
    have h2:i<(K2 true ns).place.size:=by rw [T.psize];exact hlt
    have e4:t4 true ns (i+1)=(K2 true ns).place[i]+1:=by
     show (if true=true then (K2 true ns).place.getD i 0+1 else 0)=_
     rw [if_pos rfl]
     simp [Array.getD,h2]
    rw [Array.getElem?_eq_getElem h1,Array.getElem?_eq_getElem h2]
    rw [Array.getElem?_eq_getElem h1] at h
    dsimp only
    have h':Q (some (es[i].2,t4 true ns (i+1))) s:=h
    rw [e4] at h'
    exact h'
   ·have h1:es[i]?=none:=Array.getElem?_eq_none (by rw [he.size];omega)
    rw [h1] at h ⊢
    exact h
theorem aG0{S:Addr}{es:Array (Int×Value)}{ep:Nat}{ns:List Int}{Q:Value->Shared->Prop}(hn:ns∈sixes)
 (hS:s.heap.get? S=some (W5 es ep (K2 (!w.params.followText "set-order") ns))) (he:EsOf es ns)
 (hQ:Q (.ref s.heap.objs.size) { s with heap:=s.heap.push { cls:=.type "set_iterator",data:=.fields #[.int 0 0,.int 0 0,.ref S,.int ns.length 0,.int ep 0] } }) :
 wpAny (model prog w) A (pyIter (.ref S)) Q E s:=by
 have T:=aK1 hn (!w.params.followText "set-order")
 have hf:(K2 (!w.params.followText "set-order") ns).fits es.size=true:=by rw [he.size];exact T.fits
 have hT:s.TypeIs (.ref S) "set":=⟨_,hS,rfl⟩
 refine wpAny_pyIter_slot hT F.slot_set_iter (wpAny_call_entry F.slot_set_iter hT av3 ?_ (F.args_set_iter_1 _))
 unfold Builtin.«frozenset.__iter__» Builtin.Frozenset.slot0 slotArgs
 simp only [List.isEmpty_nil,Bool.not_true,Bool.false_eq_true,↓reduceIte,bind_assoc,List.length_nil,bne_self_eq_false]
 unfold Builtin.Frozenset.addrOf Builtin.Frozenset.sizeOf
 refine wpAny_bind (wpAny_pure ?_)
 try dsimp only
 refine wpAny_bind (wpAny_pure ?_)
 refine wpAny_bind (wpAny_bind (wpAny_setEntries_of hS rfl hf (wpAny_pure ?_)))
 unfold setDrawn setsByText
 refine wpAny_bind (wpAny_bind (wpAny_setState_of hS rfl hf ?_))
 dsimp only
 refine wpAny_bind (wpAny_bind (wpAny_askSetting (wpAny_pure ?_)))
 refine wpAny_pure ?_
 show wpAny _ _ (if (!w.params.followText "set-order"&&(!(K2 (!w.params.followText "set-order") ns).plain&&decide (es.size > 1)))=true then _ else _) _ _ s
 rw [if_neg (by rw [T.plain];simp)]
 refine wpAny_bind (wpAny_pure ?_)
 refine wpAny_bind (wpAny_setEpoch_of hS rfl hf ?_)
 refine wpAny_bind (wpAny_newObj_type (wpAny_pure ⟨_,rfl,"set_iterator",_,⟨_,Heap.get?_push_size _ rfl,rfl⟩,si_slot_next.lookup,?_⟩))
 simpa [rawInt,he.size] using hQ
theorem aZ7{it S:Addr}{es:Array (Int×Value)}{ep i:Nat}{ns:List Int}{v:Value}{Q:Option Value->Shared->Prop}(hn:ns∈sixes)(hne:S≠it)
 (hS:s.heap.get? S=some (W5 es ep (K2 (!w.params.followText "set-order") ns))) (he:EsOf es ns) (hit:IsSI s.heap it S (!w.params.followText "set-order") ns ep i) (hi:i<ns.length) (hv:(b7 w S ep es)[i]?=some v)
 (hQ:∀h',IsSI h' it S (!w.params.followText "set-order") ns ep (i+1)->Heap.SameBut it s.heap h'->Q (some v) { s with heap:=h' }) :
 wpAny (model prog w) A (pyNext (.ref it)) Q E s:=by
 obtain⟨o,ho,hc,hd⟩:=id hit
 have T:=aK1 hn (!w.params.followText "set-order")
 have hf:(K2 (!w.params.followText "set-order") ns).fits es.size=true:=by rw [he.size];exact T.fits
 unfold pyNext
 refine wpAny_bind (wpAny_attempt (wpAny_callSpecial?_slot (name:=Str.ofString "__next__") hit.typeIs si_slot_next
  (wpAny_call_entry si_slot_next hit.typeIs o5 ?_ (y8 _))))
 unfold Builtin.«set_iterator.__next__»
 refine wpAny_bind (wpAny_pure ?_)
 refine wpAny_bind (wpAny_fieldsOf ho hd ?_)
 show wpAny _ _ (setEntries S>>=_) _ _ s
 refine wpAny_bind (wpAny_setEntries_of hS rfl hf ?_)
 rw [if_neg (by rw [he.size];simp)]
 show wpAny _ _ (setNext S (t4 (!w.params.followText "set-order") ns i) i ep>>=_) _ _ s
 refine wpAny_bind (aj6 hn (Nat.le_of_lt hi) hS he ?_)
 rw [hv]
 show wpAny _ _ (setField (.ref it) 0 (rawInt (t4 (!w.params.followText "set-order") ns (i+1)))>>=_) _ _ s
 refine wpAny_bind (wpAny_setField ho hd (by simp) ?_)
 have ho1:=Heap.get?_update_self (Obj.mapFields (·.setIfInBounds 0 (rawInt (t4 (!w.params.followText "set-order") ns (i+1))))) ho (Obj.isFreed_of_fields (Obj.data_mapFields hd _))
 have hd1:=Obj.data_mapFields hd (·.setIfInBounds 0 (rawInt (t4 (!w.params.followText "set-order") ns (i+1))))
 show wpAny _ _ (setField (.ref it) 1 (rawInt ((i:Int)+1))>>=_) _ _ _
 refine wpAny_bind (wpAny_setField ho1 hd1 (by simp) ?_)
 refine wpAny_pure ⟨_,rfl,wpAny_pure (hQ _ ?_ ((Heap.SameBut.update ..).trans (Heap.SameBut.update ..)))⟩
 exact⟨_,Heap.get?_update_self _ ho1 (Obj.isFreed_of_fields (Obj.data_mapFields hd1 _)),(Obj.cls_mapFields ..).trans ((Obj.cls_mapFields ..).trans hc),by rw [Obj.data_mapFields hd1];simp [rawInt]⟩
theorem ba4{it S:Addr}{es:Array (Int×Value)}{ep:Nat}{ns:List Int}{Q:Option Value->Shared->Prop}(hn:ns∈sixes)(hh:A.handled=none)
 (hS:s.heap.get? S=some (W5 es ep (K2 (!w.params.followText "set-order") ns))) (he:EsOf es ns) (hit:IsSI s.heap it S (!w.params.followText "set-order") ns ep ns.length)
 (hQ:∀h',Heap.ExtBut it s.heap h'->Q none { s with heap:=h' }) :
 wpAny (model prog w) A (pyNext (.ref it)) Q E s:=by
 obtain⟨o,ho,hc,hd⟩:=id hit
 have T:=aK1 hn (!w.params.followText "set-order")
 have hf:(K2 (!w.params.followText "set-order") ns).fits es.size=true:=by rw [he.size];exact T.fits
 unfold pyNext
 refine wpAny_bind (wpAny_attempt (wpAny_callSpecial?_slot (name:=Str.ofString "__next__") hit.typeIs si_slot_next
  (wpAny_call_entry si_slot_next hit.typeIs o5 ?_ (y8 _))))
 unfold Builtin.«set_iterator.__next__»
 refine wpAny_bind (wpAny_pure ?_)
 refine wpAny_bind (wpAny_fieldsOf ho hd ?_)
 show wpAny _ _ (setEntries S>>=_) _ _ s
 refine wpAny_bind (wpAny_setEntries_of hS rfl hf ?_)
 rw [if_neg (by rw [he.size];simp)]
 show wpAny _ _ (setNext S (t4 (!w.params.followText "set-order") ns ns.length) ns.length ep>>=_) _ _ s
 refine wpAny_bind (aj6 hn (Nat.le_refl _) hS he ?_)
 rw [List.getElem?_eq_none (by rw [ab9 he];exact Nat.le_refl _)]
 show wpAny _ _ (setField (.ref it) 2 .none>>=_) _ _ s
 refine wpAny_bind (wpAny_setField ho hd (by simp) ?_)
 show wpAny _ _ (newExc (.type "StopIteration") []>>=_) _ _ _
 refine wpAny_bind ?_
 simp only [newExc,newTuple]
 refine wpAny_bind (wpAny_newObj_type ?_ (by size_fits))
 refine wpAny_bind (m:=firstArgMember _ _) (wpAny_of_eq (a:=Value.none) (by first | rfl | (simp only [firstArgMember];rfl)) ?_)
 refine wpAny_newObj_type ?_ (by size_fits)
 simp only [raiseNew]
 refine wpAny_bind (wpAny_handled ?_)
 rw [show A.in1.handled=none from hh]
 refine wpAny_bind (wpAny_pure (wpAny_throw ?_))
 refine wpAny_bind (wpAny_isInstance (T:="StopIteration") (b:=true) ⟨_,Heap.get?_push_size _ rfl,rfl⟩ isSubtype_stop ?_)
 exact wpAny_pure (hQ _ (((Heap.SameBut.update ..).extBut.push _).push _))
theorem ba5{it S:Addr}{led:Bool}{ns:List Int}{ep i:Nat}{Q:Value->Shared->Prop}(hit:IsSI s.heap it S led ns ep i)(h:Q (.ref it) s):wpAny (model prog w) A (pyIter (.ref it)) Q E s:=by
 refine wpAny_pyIter_slot hit.typeIs y7 (wpAny_call_entry y7 hit.typeIs an6 ?_ (av4 _))
 show wpAny _ _ (PySem.ret (.ref it)) _ _ s
 exact wpAny_pure ⟨_,rfl,"set_iterator",_,hit.typeIs,si_slot_next.lookup,h⟩
theorem aP7(hh:A.handled=none)(I S:Addr)(hne:S≠I){es:Array (Int×Value)}{ep:Nat}{ns:List Int}(hn:ns∈sixes)(he:EsOf es ns) :
 Walks prog w A I [I,S] [I] ns.length (λi v=>(b7 w S ep es)[i]?=some v) (λi h=>IsSI h I S (!w.params.followText "set-order") ns ep i/\h.get? S=some (W5 es ep (K2 (!w.params.followText "set-order") ns))) where
 sub:=λb hb=>by simp at hb;simp [hb]
 frame:=λ_ _ _ st hk=>⟨st.1.at λo e=>hk I (by simp) o e,hk S (by simp) _ st.2⟩
 item:=λi s Q E hi st hQ=>by
  have hlt:i<(b7 w S ep es).length:=by rw [ab9 he];exact hi
  refine aZ7 hn hne st.2 he st.1 hi (List.getElem?_eq_getElem hlt) λh' hit' hs'=>?_
  exact hQ _ h' s.toks (List.getElem?_eq_getElem hlt) ⟨hit',hs'.extBut S _ hne st.2⟩ λb o hb e=>hs'.extBut b o (λh=>hb (by simp [h])) e
 done:=λs Q E st hQ=>ba4 hn hh st.2 he st.1 λh' he'=>hQ h' s.toks λb o hb e=>he' b o (λh=>hb (by simp [h])) e
 self:=λ_ _ _ _ st hQ=>ba5 st.1 hQ
theorem aZ8{r:Addr}{Q:Bool->Shared->Prop}(hT:s.TypeIs (.ref r) "set")(h:Q false s):wpAny (model prog w) A (Builtin.List.listLengthHint (.ref r)) Q E s:=by
 unfold Builtin.List.listLengthHint
 refine wpAny_bind (wpAny_specialOf hT PySem.F.slot_set_len.lookup ?_)
 generalize hid:("set.__len__" : String)=id0
 wp_delta
 rw [show splitId id0=some ("set","__len__") from by subst hid;decide +kernel]
 subst hid
 refine wpAny_bind (wpAny_isInstance (T:="set") (b:=true) hT (by rw [isSubtype_type];kernel_rfl) ?_)
 refine wpAny_ite_split (λhab=>absurd hab (by decide)) (λ_=>?_)
 refine wpAny_ite_split (λ_=>?_) (λhab=>absurd (by decide +kernel) hab)
 refine wpAny_bind (wpAny_typeOf hT ?_)
 exact wpAny_pure h
theorem ba6{S:Addr}{es:Array (Int×Value)}{ep:Nat}{ns:List Int}(hn:ns∈sixes)(he:EsOf es ns) :
 KdlSrc prog w "set" S S ns.length (λi v=>(b7 w S ep es)[i]?=some v) (λh=>h.get? S=some (W5 es ep (K2 (!w.params.followText "set-order") ns))) where
 type:=λ_ hm=>⟨_,hm,rfl⟩
 there:=λ_ hm=>⟨Heap.lt_size hm,Heap.lt_size hm⟩
 keep:=λ_ _ hm hk=>hk S (.inl rfl) _ hm
 notList:=by decide
 notTuple:=by decide
 hint:=λ_ _ _ _ hm hq=>aZ8 ⟨_,hm,rfl⟩ hq
 iter:=λ_ s hh hm=>⟨_,_,(λ_ _ hq=>aG0 hn hm he hq),aP7 hh _ S (Nat.ne_of_lt (Heap.lt_size hm)) hn he,⟨⟨_,Heap.get?_push_size _ rfl,rfl,rfl⟩,Heap.get?_push_of_some _ hm⟩⟩
end
theorem aP8:∀{vs us:List Value},vs.Perm us->∀{ns:List Int},IntsAre us ns->∃ms,ms.Perm ns/\IntsAre vs ms:=by
 intro vs us h
 induction h with
 | nil=>intro ns hn;exact⟨ns,List.Perm.refl _,hn⟩
 | cons x _ ih=>
   intro ns hn
   cases hn with
   | cons n t h=>obtain⟨ms,h1,h2⟩:=ih h;exact⟨n::ms,h1.cons n,.cons n t h2⟩
 | swap x y l=>
   intro ns hn
   cases hn with
   | cons n t h=>
     cases h with
     | cons m u h=>exact⟨m::n::_,List.Perm.swap _ _ _,.cons m u (.cons n t h)⟩
 | trans _ _ ih1 ih2=>
   intro ns hn
   obtain⟨ms,h1,h2⟩:=ih2 hn
   obtain⟨ks,h3,h4⟩:=ih1 h2
   exact⟨ks,h3.trans h1,h4⟩
end Ws
namespace Ws
open PySem PySem.W PyProof.Rows L2
section
variable{X:Cx}{cm:Nat->Addr}
theorem bn2:V3 X.K cm bl1 (rI (λ_ j=>0<=j) λi j=>.int (i / 2 ^ j.toNat)):=okI (g:=λi j=>.int (i / 2 ^ j.toNat)) (λx y A z A' h=>by
 cases x <;> cases y <;> first | (obtain⟨c,h⟩:=C8 h;cases h;exact⟨_,_,rfl,rfl,c,rfl,rfl⟩) | cases h) (λ_ _ _ _=>.int _) _ _
theorem bn3:V3 X.K cm bl2 (rI0 λi j=>.int (Builtin.bitAnd i j)):=aO2 (g:=λi j=>.int (Builtin.bitAnd i j)) (λx y A z A' h=>by
 cases x <;> cases y <;> first | (cases h;exact⟨_,_,rfl,rfl,rfl,rfl⟩) | cases h) (λ_ _ _ _=>.int _) _ _
end
end Ws
namespace Ws
open PySem PySem.W PyProof.Rows PySem.SeqAt
open MeetsSeq MeetsSeq2 MeetsSeq3 SeqRoads2
end Ws
namespace Ws
open PySem PySem.W PyProof.Rows L2
theorem keys_miss:typeLookup (.type "list") "keys" = pure none:=by rw [typeLookup_type,builtinLookup_eq_fast];kernel_rfl
theorem an7{prog:Program}{w:World}{A:Around}{E:Value->Shared->Prop}{s:Shared}{a:Addr}{o:Obj}{xs:Array Value}{k:Nat}{name:Str}{Q:Option Value->Shared->Prop}
 (hx:s.heap.get? a=some o) (hc:o.cls=.type "list") (hdat:o.data=.seq xs k) (hd:o.dict=none) (hmiss:typeLookup (.type "list") name=pure none) (hname:(["__module__","__name__","__qualname__","__doc__","__annotations__"]:List Str).contains name=false) (hA:A.handled=none)
 (h:∀h' tk e,Heap.NewExcOf s.heap h' e "AttributeError"->Q none { s with heap:=h',toks:=tk }) (hsz:name.length+100<=sizeLine:=by size_fits) :
 wpAny (model prog w) A (getAttr? (.ref a) name) Q E s:=by
 obtain⟨c,dct,dat,sl⟩:=o
 simp only at hc hdat hd
 subst hc hdat hd
 obtain⟨hp,g,d,tk,os⟩:=s
 have hT:∀tk',(⟨hp,g,d,tk',os⟩:Shared).TypeIs (.ref a) "list":=λ_=>⟨_,hx,rfl⟩
 have f1:=sub_AttributeError
 have f3:=F.slot_list_getattribute.lookup
 have f4:=F.slot_list_getattribute.bind (.ref a)
 have f5:=am_list_getattr_none
 unfold getAttr? getAttrBy? getAttrBy
 repeat (any_goals (first | assumption | exact hT _ | ((with_reducible show wpAny _ _ (call (Value.builtin "list.__getattribute__") _ _) _ _ _);refine call_meets F.slot_list_getattribute (hT _) am_entry_list_getattribute (F.args_list_getattribute_2 _ _) (meets_getattribute_miss_list a xs k sl name _ hmiss hname hsz) ⟨hx,hA,λh' tk' e hx'=>?_⟩) | wp_step))
 obtain⟨t',u',he⟩:=hx'.there
 show wpAny _ _ (getattributeRaised _ _ _ _ _ _ _) _ _ _
 unfold getattributeRaised
 repeat (any_goals (first | assumption | wp_step))
 exact h _ _ _ hx'.of
theorem aq4:entryFor table "dict.update.loop" = some Builtin.«dict.update.loop»:=entryFor_of_tree (by kernel_rfl)
theorem n8:plainId "dict.update.loop" = true:=by decide +kernel
theorem aP9{α β:Type}{m:Type->Type}[Monad m][LawfulMonad m](xs:Array α)(b:β)(f:α->β->m (ForInStep β)):forIn xs b f=forIn xs.toList b f:=by
 rw [Array.forIn_toList]
section
variable{prog:Program}{w:World}{A:Around}{E:Value->Shared->Prop}{s:Shared}
theorem bn4{nm:String}{d:Addr}{o:Obj}{es:Array DictEntry}{ep:Nat}{Q:Array DictEntry->Shared->Prop}(ho:s.heap.get? d=some o)(hd:o.data=.dict es ep)
 (hk:∀e∈es.toList,∃a,e.key=.ref a/\s.TypeIs (.ref a) "tuple") (hn:∀e∈es.toList,(es.filter (·.hash == e.hash)).size<=1) (h:Q es s):wpAny (model prog w) A (Builtin.Dict.entriesForEmpty nm d) Q E s:=by
 unfold Builtin.Dict.entriesForEmpty
 refine wpAny_bind (wpAny_dictEntries ho hd ?_)
 refine wpAny_bind ?_
 rw [aP9]
 refine wpAny_forIn_list _ (λrest _ s'=>s'=s/\∀e∈rest,e∈es.toList) _ ?_ ?_ _ _ ⟨rfl,λe he=>he⟩
 ·rintro e rest b s' ⟨rfl,hr⟩
  have he:=hr e List.mem_cons_self
  obtain⟨a,ea,hT⟩:=hk e he
  refine wpAny_bind ?_
  unfold Builtin.Dict.quietEq
  rw [ea]
  refine wpAny_bind (wpAny_specialOf hT PySem.F.slot_tuple_eq.lookup (wpAny_pure ?_))
  rw [if_pos (by decide),if_neg (by have:=hn e he;omega)]
  exact wpAny_pure ⟨rfl,λx hx=>hr x (List.mem_cons_of_mem _ hx)⟩
 ·rintro b s' ⟨rfl,_⟩
  exact wpAny_pure h
abbrev TK(prog:Program)(w:World):HeapKind prog w (List Key):=tupleKind (L7 prog w)
theorem ba7{o:Addr}{xs:List (List Key×Addr×Value)}{Q:Value->Shared->Prop}(hoS:(o == sysModules)=false)(ho:s.heap.DictOfH (TK prog w) o xs)(hsz:xs.length<=sizeLine)
 (hdis:∀x∈xs,(xs.filter λy=>(TK prog w).hash y.1 == (TK prog w).hash x.1).length<=1)
 (h:∀h',h'.DictOfH (TK prog w) s.heap.objs.size xs->Heap.SameBut s.heap.objs.size (s.heap.push { cls:=.type "dict",data:=.dict #[] }) h'->Q (.ref s.heap.objs.size) { s with heap:=h' }) :
 wpAny (model prog w) A (call (.type "dict") [.ref o]) Q E s:=by
 obtain⟨oo,es,ep,hoo,hc,hdat,hes,hk,hn⟩:=id ho
 have hesz:es.size=xs.length:=size_of_entries hes
 refine callType_codes (Q₁:=λobj s₁=>obj=.ref s.heap.objs.size/\s₁={ s with heap:=s.heap.push { cls:=.type "dict",data:=.dict #[] } }) PySem.F.kt_called_dict (PySem.F.kt_typeCall_dict_1 _) PySem.F.entry_dict_init (kt_code_dict_new _ ⟨rfl,rfl⟩) ?_
 rintro obj s₁ ⟨rfl,rfl⟩
 have hD0:(s.heap.push { cls:=.type "dict",data:=.dict #[] }).get? s.heap.objs.size=some { cls:=.type "dict",data:=.dict #[] }:=Heap.get?_push_size _ rfl
 have hT0:Shared.TypeIs { s with heap:=s.heap.push { cls:=.type "dict",data:=.dict #[] } } (.ref s.heap.objs.size) "dict":=⟨_,hD0,rfl⟩
 have hoo':(s.heap.push { cls:=.type "dict",data:=.dict #[] }).get? o=some oo:=Heap.get?_push_of_some _ hoo
 have hTo:Shared.TypeIs { s with heap:=s.heap.push { cls:=.type "dict",data:=.dict #[] } } (.ref o) "dict":=⟨_,hoo',hc.1⟩
 have hdo:s.heap.objs.size≠o:=λe=>absurd (Heap.lt_size hoo) (by rw [e];exact Nat.lt_irrefl _)
 refine⟨hT0,PySem.F.args_dict_init_2 _ _,?_⟩
 unfold Builtin.«dict.__init__»
 refine wpAny_bind ?_
 unfold Builtin.Dict.selfAndRest
 refine wpAny_bind (wpAny_notOrdered_dict hT0 ?_)
 show wpAny _ _ (pure (s.heap.objs.size,[Value.ref o])) _ _ _
 refine wpAny_pure ?_
 show wpAny _ _ (Builtin.Dict.updateFrom "dict.__init__" s.heap.objs.size (.ref o) [] .none) _ _ _
 unfold Builtin.Dict.updateFrom
 refine wpAny_bind (wpAny_typeOf hTo ?_)
 rw [if_neg (by decide)]
 refine wpAny_bind ?_
 unfold Builtin.Dict.merge
 refine wpAny_bind ?_
 unfold Builtin.Dict.readDirectly
 refine wpAny_bind (wpAny_isInstance hTo isSubtype_dict_dict ?_)
 simp only [Bool.not_true,Bool.false_eq_true,if_false]
 refine wpAny_bind (wpAny_specialOf hTo PySem.F.slot_dict_iter.lookup (wpAny_pure ?_))
 simp only [beq_self_eq_true,if_true]
 refine wpAny_bind (wpAny_pure ?_)
 unfold Builtin.Dict.mergeDict
 rw [if_neg (by simpa using hdo)]
 unfold Builtin.Dict.showsAll
 rw [if_neg (by rw [hoS];exact Bool.false_ne_true)]
 refine wpAny_bind (wpAny_pure ?_)
 refine wpAny_bind (wpAny_dictEntries hoo' hdat ?_)
 cases hxs:xs with
 | nil=>
   subst hxs
   have hes0:es=#[]:=Array.toList_inj.mp (by rw [hes];rfl)
   subst hes0
   dsimp only
   rw [if_neg (by simp)]
   refine wpAny_bind (wpAny_dictEpoch hoo' hdat ?_)
   refine wpAny_bind (wpAny_dictEntries hoo' hdat ?_)
   refine wpAny_bind ?_
   rw [Std.Legacy.Range.forIn_eq_forIn_range']
   refine wpAny_pure ?_
   refine wpAny_pure ?_
   show wpAny _ _ (Builtin.Dict.addKeywords s.heap.objs.size []>>=_) _ _ _
   refine wpAny_bind (wpAny_pure (wpAny_pure ⟨rfl,h _ ?_ (Heap.SameBut.refl _ _)⟩))
   exact⟨_,_,_,hD0,⟨rfl,rfl,rfl⟩,rfl,rfl,λx hx=>by simp at hx,List.nodup_nil⟩
 | cons x0 xr=>
   have hx0:x0∈xs:=by rw [hxs];exact List.mem_cons_self
   have hkeys:∀e∈es.toList,∃a,e.key=.ref a/\Shared.TypeIs { s with heap:=s.heap.push { cls:=.type "dict",data:=.dict #[] } } (.ref a) "tuple":=by
    intro e he
    rw [hes] at he
    obtain⟨x,hx,rfl⟩:=List.mem_map.mp he
    obtain⟨ot,its,n,h1,h2,_⟩:=hk x hx
    exact⟨x.2.1,rfl,ot,Heap.get?_push_of_some _ h1,h2⟩
   have hfew:(decide (es.size<=8)&&es.all λe=>(keyPart e.key).isSome)=false:=by
    rw [Bool.and_eq_false_iff]
    refine .inr ?_
    rw [←Array.all_toList,List.all_eq_false]
    refine⟨entryOfKey (TK prog w) x0,by rw [hes];exact List.mem_map.mpr ⟨x0,hx0,rfl⟩,?_⟩
    simp [entryOfKey,keyPart]
   rw [hfew]
   dsimp only
   rw [if_pos (by decide)]
   refine wpAny_bind (wpAny_dictEntries hD0 rfl ?_)
   rw [if_pos (by decide)]
   refine wpAny_bind (bn4 hoo' hdat hkeys (λe he=>?_) ?_)
   ·have he':=he
    rw [hes] at he'
    obtain⟨x,hx,rfl⟩:=List.mem_map.mp he'
    have:=hdis x hx
    rw [←Array.length_toList,Array.toList_filter,hes,List.filter_map,List.length_map]
    exact this
   ·have hne:es.isEmpty=false:=by
     cases hh:es.isEmpty with
     | false=>rfl
     | true=>
       have:es.size=0:=by simpa using hh
       rw [hesz,hxs] at this;simp at this
    rw [hne,if_pos (by decide)]
    refine wpAny_bind (wpAny_updateDictKeysTo hD0 rfl ?_ (by rw [hesz];omega))
    refine wpAny_pure ?_
    show wpAny _ _ (Builtin.Dict.addKeywords s.heap.objs.size []>>=_) _ _ _
    refine wpAny_bind (wpAny_pure (wpAny_pure ⟨rfl,h _ ?_ (Heap.SameBut.update ..)⟩))
    have hc0:Obj.ExactDict { cls:=.type "dict",data:=.dict #[] }:=⟨rfl,rfl,rfl⟩
    refine⟨_,es,_,Heap.get?_update_self _ hD0 (Obj.isFreed_of_dict (Obj.data_mapDictKeys rfl _)),hc0.mapDictKeys _,Obj.data_mapDictKeys rfl _,hes,λx hx=>?_,hn⟩
    refine (TK prog w).keeps (?_:(TK prog w).is (s.heap.push { cls:=.type "dict",data:=.dict #[] }) x.1 x.2.1) hD0 rfl (Heap.SameBut.update ..)
    obtain⟨ot,its,n,h1,h2⟩:=hk x hx
    exact⟨ot,its,n,Heap.get?_push_of_some _ h1,h2⟩
end
def hashK(k:List Int):Int:=reduceHash (Builtin.Tuple.tupleHashOf (k.map hashInt))
theorem aZ9(P:Program)(w:World)(k:List Int):(TK P w).hash (k.map Sum.inl)=hashK k:=by
 show reduceHash (Builtin.Tuple.tupleHashOf ((k.map Sum.inl).map (bp1 w)))=_
 rw [List.map_map];rfl
theorem aA1:(small.map hashK).Nodup:=by decide +kernel
theorem a00{a b:List Int}(ha:a∈small)(hb:b∈small)(h:hashK a=hashK b):a=b:=by
 obtain⟨i,hi,rfl⟩:=List.mem_iff_getElem.mp ha
 obtain⟨j,hj,rfl⟩:=List.mem_iff_getElem.mp hb
 have:=(List.getElem_inj (i:=i) (j:=j) (h₀:=by simpa using hi) (h₁:=by simpa using hj) aA1).mp (by simpa using h)
 subst this;rfl
theorem a01{P:Program}{w:World}{ks:List (List Int)}(hs:∀k∈ks,k∈small):∀{xs:List (List Key×Addr×Value)},xs.map (·.1)=ks.map (List.map Sum.inl)->ks.Nodup->∀x∈xs,(xs.filter λy=>(TK P w).hash y.1 == (TK P w).hash x.1).length<=1:=by
 intro xs he nd x hx
 have nd2:(xs.map λy=>(TK P w).hash y.1).Nodup:=by
  have e:(xs.map λy=>(TK P w).hash y.1)=ks.map hashK:=by
   have:(xs.map λy=>(TK P w).hash y.1)=(xs.map (·.1)).map (TK P w).hash:=by rw [List.map_map];rfl
   rw [this,he,List.map_map]
   exact List.map_congr_left λk _=>aZ9 P w k
  rw [e]
  have key:∀l:List (List Int),(∀k∈l,k∈small)->l.Nodup->(l.map hashK).Nodup:=by
   intro l
   induction l with
   | nil=>intro _ _;simp
   | cons a l ih=>
     intro h n
     rw [List.nodup_cons] at n
     rw [List.map_cons,List.nodup_cons]
     refine⟨λz=>?_,ih (λk hk=>h k (List.mem_cons_of_mem _ hk)) n.2⟩
     obtain⟨b,hb,e⟩:=List.mem_map.mp z
     exact n.1 (a00 (h b (List.mem_cons_of_mem _ hb)) (h a List.mem_cons_self) e ▸ hb)
  exact key ks hs nd
 have gen:∀(l:List (List Key×Addr×Value)) (v:Int),(l.map λy=>(TK P w).hash y.1).Nodup->(l.filter λy=>(TK P w).hash y.1 == v).length<=1:=by
  intro l v
  induction l with
  | nil=>intro _;simp
  | cons a l ih=>
    intro n
    rw [List.map_cons,List.nodup_cons] at n
    by_cases e:(TK P w).hash a.1=v
    ·have:l.filter (λy=>(TK P w).hash y.1 == v)=[]:=by
      rw [List.filter_eq_nil_iff]
      intro y hy z
      exact n.1 (List.mem_map.mpr ⟨y,hy,by rw [eq_of_beq z,e]⟩)
     rw [List.filter_cons_of_pos (by simpa using e),this];simp
    ·rw [List.filter_cons_of_neg (by simpa using e)]
     exact ih n.2
 exact gen xs _ nd2
theorem ba8{H:Hp}{kvs:List (List Key×V)}{xs:List (List Key×Addr×Value)}(r:KT H kvs xs):kvs.map (·.1)=xs.map (·.1):=by
 unfold KT at r
 induction r with
 | nil=>rfl
 | cons h _ ih=>rw [List.map_cons,List.map_cons,ih,h.1]
section
variable{X:Cx}{cm:Nat->Addr}
theorem ba9:CallR X (.type "dict") (λxs H Q=>∃(a:Addr) (kvs:List (List Key×V)) (ks:List (List Int)),xs=[.ref a]/\H a=some (.dT kvs)/\kvs.map (·.1)=ks.map (List.map Sum.inl)/\ks.Nodup/\(∀k∈ks,k∈small)/\∀l,H l=none->Q (.ref l) (upd H l (.dT kvs))):=by
 intro pins s σ H xs us Q I r h
 obtain⟨a,kvs,ks,rfl,hH,hks,nd,hsm,q⟩:=h
 obtain⟨u,rfl,rx⟩:=Y4 r
 cases rx
 obtain⟨z,hd,xs,rel,dd⟩:=aV1 I.hok hH
 have hl:kvs.length=xs.length:=Paired.length rel
 refine ba7 hd dd (by rw [←hl];exact z) (a01 hsm (by rw [←ba8 rel];exact hks) nd) λh' dd' hs=>?_
 obtain⟨qo,es,ep,hq,h2,h3,h4,_,h5⟩:=dd'
 have hfr:=I.hok.fresh (Nat.le_refl s.heap.objs.size)
 refine⟨.ref s.heap.objs.size,_,I.laid (t':=s.toks) (a:=s.heap.objs.size) (o:=.dT kvs) (λb o e2=>(hs.2 b (Nat.ne_of_lt (Heap.lt_size e2))).trans (Heap.get?_push_of_some _ e2)) (Nat.le_refl _) ⟨z,beq_eq_false_iff_ne.mpr (Ne.symm (Nat.ne_of_lt I.big)),xs,KT.keeps rel (λc ys ec=>?_),qo,es,ep,hq,h2,h3,h4,h5⟩,rfl,q _ hfr⟩
 rw [E4 (λe=>by rw [e,hfr] at ec;cases ec)]
 exact ec
theorem bb0{e:Expr}{d:ED}{p pos:Pos}(he:PE X e (EvE X.K cm d))(hg:Gl X "dict")(hm:X.mg "dict" = none)(hs:starEach [e] X.env=(false,eval e X.env)::starEach [] X.env:=by exact E5 rfl):PE X (.Call (.Name "dict" p) [e] [] pos) (EvE X.K cm (aE6 d)):=
 E3 (m6 ba9 hg hm (show bootBuiltins "dict" = some (.type "dict") from by rfl) (r_cons he r_nil hs) (he:=hs)) λσ H Q h=>Z5 (f:=λx=>match x with | .ref n=>bnd (V9 n) λm=>J4 ((m.map (·.1)).Nodup/\∀p∈m,p.1∈small) (alloc (.dT m)) | _=>stuck) (λ_=>rfl) (λρ A H x z A' v Q rl rx ev k=>by
  cases x with
  | ref n=>
    obtain⟨m,A1,e1,ev1⟩:=B0 ev
    obtain⟨rfl,hA,a,kv,rfl,hn,hH,hp⟩:=R1 rl rx e1
    obtain⟨c,ev2⟩:=C8 ev1
    cases ev2
    refine⟨a,kv,m.map (·.1),rfl,hH,by rw [hp.keys,List.map_map];rfl,c.1,λk hk=>?_,λD hD=>?_⟩
    ·obtain⟨p,hp,rfl⟩:=List.mem_map.mp hk
     exact c.2 p hp
    ·have ex:Ext ρ H (ρ++[D]) (upd H D (.dT kv)):=Ext.new hD
     exact k (ρ++[D]) _ _ ex (rl.alloc hD ⟨_,D8,hp.mono ex⟩ rfl) (.ref (by rw [←rl.len];simp))
  | _=>cases ev) h
end
end Ws
namespace Ws
open PySem PySem.W PyProof.Rows PySem.SeqAt
end Ws
namespace Ws
open PySem PySem.W PyProof.Rows
end Ws
namespace Ws
open PySem PySem.W PyProof.Rows PySem.SeqAt
end Ws
namespace Ws
open PySem PySem.W PyProof.Rows L2
section
variable{X:Cx}{cm:Nat->Addr}
theorem a02{x:Str}{j pos}:PE X (.Constant (.str x) j pos) (EvE X.K cm (eK (.str x))):=r_k bg9 λ_ _=>.str x
theorem aQ0:CallR X (.type "int") (λxs H Q=>∃b,xs=[.bl b]/\Q (.int (if b then 1 else 0)) H):=by
 intro pins s σ H xs us Q I r h
 obtain⟨b,rfl,q⟩:=h
 obtain⟨u,rfl,rx⟩:=Y4 r
 cases rx
 exact call_int_bool ⟨.int (if b then 1 else 0),H,I.tok _,⟨_,rfl⟩,q⟩
theorem bn5{e:Expr}{d:ED}{p pos:Pos}(he:PE X e (EvE X.K cm d))(hg:Gl X "int")(hm:X.mg "int" = none)(hs:starEach [e] X.env=(false,eval e X.env)::starEach [] X.env:=by exact E5 rfl):PE X (.Call (.Name "int" p) [e] [] pos) (EvE X.K cm (aW3 d)):=
 E3 (m6 aQ0 hg hm PyProof.Rows.boot_int (r_cons he r_nil hs) (he:=hs)) λσ H Q h=>Z5 (f:=λx=>match x with | .bl b=>ret (.int (if b then 1 else 0)) | _=>stuck) (λ_=>rfl) (λρ A H x z A' v Q rl rx ev k=>by
  cases x with
  | bl b=>cases ev;cases rx;exact⟨b,rfl,k ρ H _ (Ext.refl _ _) rl (.int _)⟩
  | _=>cases ev) h
theorem bb1(K:PySem.W.Frag)(a:String)(ha:a∈["NoneType","bool","int","str","list","tuple"]):PySem.W.kitOne K (.type a) (.type "str")=some (a == "str"):=by
 simp only [List.mem_cons,List.not_mem_nil,or_false] at ha
 rcases ha with rfl | rfl | rfl | rfl | rfl | rfl <;> with_unfolding_all rfl
theorem aG1:CallR X (.builtin "isinstance") (λvs H Q=>∃v ty,vs=[v,.ty "str"]/\ty∈["NoneType","bool","int","str","list","tuple"]/\t9 X.K H v (.type ty)/\Q (.bl (ty == "str")) H):=by
 intro pins s σ H xs us Q I r h
 obtain⟨v,ty,rfl,hm,hty,q⟩:=h
 obtain⟨u,w,rfl,ru,rw'⟩:=aH5 r
 cases rw'
 exact ao5 I ru hty (bb1 X.K ty hm) λtk=>⟨.bl _,H,I.tok tk,rfl,q⟩
theorem aK2{e:Expr}{d:ED}{p p2 pos:Pos}(he:PE X e (EvE X.K cm d))(hg:Gl X "isinstance")(hm:X.mg "isinstance" = none)(hgt:Gl X "str")(hmt:X.mg "str" = none)
 (hs:starEach [e,.Name "str" p2] X.env=(false,eval e X.env)::starEach [.Name "str" p2] X.env:=by exact E5 rfl) (hs2:starEach [Expr.Name "str" p2] X.env=(false,eval (.Name "str" p2) X.env)::starEach [] X.env:=by exact E5 rfl) (hpl:(backTo pos (starEach [Expr.Name "str" p2] X.env)).any (·.1)=false:=by rfl) :
 PE X (.Call (.Name "isinstance" p) [e,.Name "str" p2] [] pos) (EvE X.K cm (at6 d)):=
 E3 (S4 aG1 hg hm PyProof.Rows.boot_isinstance (d4 he (d4 (aH4 (v:=.ty "str") hgt hmt (show bootBuiltins "str" = some (.type "str") from by rfl) rfl (by decide) (by decide)) as3 hs2) hs) (he:=hs) (hpl:=hpl)) λσ H Q hq=>by
  obtain ⟨ρ,A,σp,v,A',rl,rs,ev,k⟩:=hq
  obtain⟨x,A1,e1,ev1⟩:=B0 ev
  obtain⟨b,A2,e2,ev2⟩:=B0 ev1
  cases ev2
  refine⟨ρ,A,σp,x,A1,rl,rs,e1,λρ1 H1 v1 x1 rl1 rv1=>?_⟩
  cases x with
  | non=>cases rv1;cases e2;exact⟨_,"NoneType",rfl,by simp,.non,k ρ1 H1 _ x1 rl1 (.bl _)⟩
  | bl c=>cases rv1;cases e2;exact⟨_,"bool",rfl,by simp,.bl c,k ρ1 H1 _ x1 rl1 (.bl _)⟩
  | int i=>cases rv1;cases e2;exact⟨_,"int",rfl,by simp,.int i,k ρ1 H1 _ x1 rl1 (.bl _)⟩
  | str z=>cases rv1;cases e2;exact⟨_,"str",rfl,by simp,.str z,k ρ1 H1 _ x1 rl1 (.bl _)⟩
  | tup l=>
    cases rv1 with
    | tup ha r=>cases e2;exact⟨_,"tuple",rfl,by simp,.tup ha,k ρ1 H1 _ x1 rl1 (.bl _)⟩
  | ref n=>
    obtain⟨l,A3,e3,e4⟩:=B0 e2
    obtain⟨rfl,hA,a,xs,rfl,hn,hH,r⟩:=P8 rl1 rv1 e3
    cases e4
    exact⟨_,"list",rfl,by simp,.lst hH,k ρ1 H1 _ x1 rl1 (.bl _)⟩
end
theorem aQ1{P:Program}{w:World}{K:PySem.W.Frag}{mg:Str->Option Value}{base:Heap}{cm:Nat->Addr}{k n:Nat}{fa:Addr}{fd:FuncData}{ps:List Str}:FnOk P w K mg base CX0 k fa fd ps (SpF K cm (λ_=>stuck) n):=
 ⟨λvs H Q E ⟨ρ,A,qs,v,A',_,_,_,ev,_⟩=>(nomatch ev),λA outer s H args us vs Q E hr he hb hv ⟨ρ,B,qs,v,A',_,_,_,ev,_⟩=>(nomatch ev)⟩
theorem ac0{J:It}{g:GD}{b:SD}(hb:t3 b):∀(f i:Nat) (σ:PSt) (A:PHp) (v:PV) (A':PHp),a8 J g b f i σ A≠.ok (.rt v) A'
 | 0,i,σ,A,v,A',h=>by rw [ag0] at h;cases h
 | f+1,i,σ,A,v,A',h=>by
   rw [U2] at h
   obtain⟨x,A1,e1,h⟩:=B0 h
   cases x with
   | none=>cases h
   | some y=>
     obtain⟨σ1,A2,e2,h⟩:=B0 h
     obtain⟨o,A3,e3,h⟩:=B0 h
     cases o with
     | nx σ2=>exact ac0 hb f (i+1) σ2 A3 v A' h
     | ct σ2=>exact ac0 hb f (i+1) σ2 A3 v A' h
     | bk σ2=>cases h
     | rt z=>exact hb _ _ _ _ e3
theorem bb2{it:ID}{g:GD}{b:SD}(hb:t3 b):t3 (g8 it g b):=λσ A v A' h=>by
 obtain⟨J,A1,e1,h⟩:=B0 h
 obtain⟨n,A2,e2,h⟩:=B0 h
 exact ac0 hb _ _ _ _ _ _ h
theorem a03{d y e:ED}:t3 (ap4 d y e):=λσ A v A' h=>by
 obtain⟨x1,A1,e1,h⟩:=B0 h
 obtain⟨x2,A2,e2,h⟩:=B0 h
 obtain⟨x3,A3,e3,h⟩:=B0 h
 cases x2 with
 | ref n=>
   cases hk:Q8 x3 with
   | none=>rw [hk] at h;cases h
   | some i=>
     rw [hk] at h
     obtain⟨m,A4,e4,h⟩:=B0 h
     obtain⟨_,h⟩:=C8 h
     cases h
 | _=>cases h
end Ws
namespace Ws
open PySem PySem.W PyProof.Rows PySem.Builtin PySem.Builtin.Str L2
section
variable{X:Cx}{cm:Nat->Addr}
theorem n9{x z:Str}{pos:Pos}(hg:Gl X x)(hm:∃t,X.mg x=some (.str z t))(hd:(x == ("__debug__" : Str))=false:=by decide):PE X (.Name x pos) (EvE X.K cm (eK (.str z))):=by
 obtain⟨t,hm⟩:=hm
 exact r_k (aH3 hg hm (show L2.RelV (.str z) (.str z t) from ⟨t,rfl⟩) hd) λ_ _=>.str z
end
end Ws
namespace Ws
open PySem PySem.W PyProof.Rows
end Ws
namespace Ws
open PySem PySem.W PyProof.Rows PySem.SeqAt
open MeetsSeq MeetsSeq2 MeetsSeq3 SeqRoads2
end Ws
namespace Ws
open PySem PySem.W PyProof.Rows L2
section
variable{prog:Program}{w:World}{K:Type}[DecidableEq K]{knd:HeapKind prog w K}{A:Around}{E:Value->Shared->Prop}{s:Shared}
theorem bb3{d a:Addr}{xs:List (K×Addr×Value)}{k:K}{v:Value}{Q:Value->Shared->Prop}(hu:knd.room A)(hkey:knd.is s.heap k a)(hm:s.heap.DictOfH knd d xs)(hsz:xs.length<=sizeLine)
 (hsome:∀p,atKey xs k=some p->Q p.2 { s with toks:=s.toks+knd.draws k })
 (hnone:atKey xs k=none->∀h',h'.DictOfH knd d (storedH xs k a v)->Heap.SameBut d s.heap h'->Q v { s with heap:=h',toks:=s.toks+knd.draws k }) :
 wpAny (model prog w) A (dictSetDefault d (.ref a) v) Q E s:=by
 obtain⟨o,es,ep,ho,hc,hd,hes,his,hn⟩:=hm
 have hesz:es.size=xs.length:=size_of_entries hes
 unfold dictSetDefault
 refine wpAny_holding ?_
 refine wpAny_bind (knd.pyHash hu hkey ?_)
 refine wpAny_bind (wpAny_dictFind_heap (s:={ s with toks:=s.toks+knd.draws k }) hu hkey ho hd hes his hn (λh=>?_) λj p hj=>?_)
 ·have h0:=atKey_none_of_get h
  have est:storedH xs k a v=xs++[(k,a,v)]:=by
   unfold storedH
   rw [h0];rfl
  refine wpAny_bind (wpAny_rule ?_)
  refine wpAny_bind (wpAny_updateDictKeys (hz:=by rw [hesz];exact hsz) (s:={ s with toks:=s.toks+knd.draws k }) ho hd (wpAny_pure (hnone h0 _ ⟨_,_,ep+1,Heap.get?_update_self _ ho (Obj.isFreed_of_dict (Obj.data_mapDictKeys hd _)),
   hc.mapDictKeys _,Obj.data_mapDictKeys hd _,?_,λx hx=>?_,?_⟩ (Heap.SameBut.update ..))))
  ·rw [est,List.map_append,←hes,Array.toList_push];rfl
  ·rw [est] at hx
   rcases List.mem_append.mp hx with hx | hx
   ·exact knd.keeps (his x hx) ho hd (Heap.SameBut.update ..)
   ·cases List.mem_singleton.mp hx
    exact knd.keeps hkey ho hd (Heap.SameBut.update ..)
  ·rw [est,List.map_append]
   refine List.nodup_append.mpr ⟨hn,by simp,?_⟩
   intro a1 h1 b1 h2 e1
   rw [List.map_cons,List.map_nil,List.mem_singleton] at h2
   obtain⟨y,hy,ey⟩:=List.mem_map.mp h1
   obtain⟨j,hj⟩:=List.getElem?_of_mem hy
   refine h j y.2 ?_
   rw [hj,show k=y.1 from h2.symm.trans (e1.symm.trans ey.symm)]
 ·refine wpAny_bind (wpAny_dictEntries (s:={ s with toks:=s.toks+knd.draws k }) ho hd ?_)
  have he':es[j]?=some (entryOfKey knd (k,p)):=by rw [entry_at hes j,hj];rfl
  rw [he']
  exact wpAny_bind (wpAny_rule (wpAny_pure (hsome p (atKey_of_get hn hj))))
theorem aA2{d a:Addr}{xs:List (K×Addr×Value)}{k:K}{dflt:Value}{Q:Value->Shared->Prop}(hd:(d == sysModules)=false)(hu:knd.room A.in1)(hkey:knd.is s.heap k a)(hm:s.heap.DictOfH knd d xs)(hsz:xs.length<=sizeLine)
 (hsome:∀p,atKey xs k=some p->∀tk,Q p.2 { s with toks:=tk })
 (hnone:atKey xs k=none->∀h' tk,h'.DictOfH knd d (storedH xs k a dflt)->Heap.SameBut d s.heap h'->Q dflt { s with heap:=h',toks:=tk }) :
 wpAny (model prog w) A (call (.builtin "dict.setdefault") [.ref d,.ref a,dflt]) Q E s:=by
 have hT:=hm.typeIs
 refine wpAny_call_entry PySem.F.slot_dict_setdefault hT PySem.F.entry_dict_setdefault ?_ (PySem.F.args_dict_setdefault_3 _ _ _)
 unfold Builtin.«dict.setdefault»
 refine wpAny_bind ?_
 unfold Builtin.Dict.keyAndDefault
 refine wpAny_bind (wpAny_notOrdered_dict hT ?_)
 show wpAny _ _ (pure (d,Value.ref a,some dflt)) _ _ s
 refine wpAny_pure ?_
 show wpAny _ _ (if (d == sysModules)=true then _ else _) _ _ s
 rw [if_neg (by rw [hd];exact Bool.false_ne_true)]
 refine wpAny_bind (bb3 hu hkey hm hsz (λp hp=>?_) λh0 h' dd hs=>?_)
 ·exact wpAny_pure ⟨_,rfl,hsome p hp _⟩
 ·exact wpAny_pure ⟨_,rfl,hnone h0 h' _ dd hs⟩
end
section
variable{X:Cx}{cm:Nat->Addr}{o e f:Expr}{apos cpos:Pos}{td ty tx:TE}
def bn6(td ty tx:TE):TE:=λσ H Q=>td σ H λx H1=>∃a,x=.ref a/\IsD H1 a/\ty σ H1 λy H2=>tx σ H2 λz H3=>∃kvs k b,H3 a=some (.dT kvs)/\y=.ref b/\H3 b=some (.tup (k.map L2.kV))/\
 (∀v,g7 kvs k=some v->Q v H3)/\(g7 kvs k=none->kvs.length<sizeLine/\Q z (upd H3 a (.dT (Y3 kvs k z))))
theorem a04(hu:X.A.units+1<cLine)(ho:PE X o td)(he:PE X e ty)(hf:PE X f tx)(m:M2 X o "setdefault" apos e f cpos):PE X (.Call (.Attribute o "setdefault" apos) [e,f] [] cpos) (bn6 td ty tx):=by
 intro pins s σ H Q I h
 refine wpAny_Call_method m.base m.few m.line PySem.F.plainAttrs_dict PySem.F.slot_dict_setdefault PySem.F.type_dict_setdefault (thn (ho pins s σ H _ I h) λu s1 ⟨x,H1,I1,rx,a,ex,d,q1⟩=>?_)
 subst ex
 obtain rfl:u=Value.ref a:=rx
 obtain⟨t1,t2,_⟩:=aD6 I1 d
 refine⟨t1,t2,?_⟩
 rw [m.trees]
 refine Calls.callWith_builtin rfl (Calls.evalArgs_plain (Calls.spliced_cons (thn (he pins s1 σ H1 _ I1 q1) λiv s2 ⟨y,H2,I2,ry,q2⟩=>
  Calls.spliced_cons (thn (hf pins s2 σ H2 _ I2 q2) λfv s3 ⟨z,H3,I3,rz,kvs,k,b,ea,ey,eb,q3,q4⟩=>Calls.spliced_nil ?_))))
 subst ey
 cases (show iv=Value.ref b from ry)
 obtain⟨zz,hd,xs,rel,dd⟩:=aV1 I3.hok ea
 have hl:kvs.length=xs.length:=Paired.length rel
 refine aA2 (knd:=TK X.prog X.w) hd (tupleKind_room_in1 hu) (i7 I3.hok eb) dd (by rw [←hl];exact zz) (λp hp tk=>?_) λh0 h' tk dd' hs=>?_
 ·have:=rel.val k
  rw [hp] at this
  cases hv:g7 kvs k with
  | none=>rw [hv] at this;exact this.elim
  | some v=>rw [hv] at this;exact⟨v,H3,I3.kept (h':=s3.heap) (t':=tk) (λ_ _ e=>e),this,q3 v hv⟩
 ·have:=rel.val k
  rw [h0] at this
  cases hv:g7 kvs k with
  | some v=>rw [hv] at this;exact this.elim
  | none=>
    have hlt:=(q4 hv).1
    have hl2:(Y3 kvs k z).length<=sizeLine:=by have:=i6 kvs k z;omega
    obtain⟨qo,es,ep,hq,h2,h3,h4,_,h5⟩:=dd'
    refine⟨z,_,as8 (ob:=.dT (Y3 kvs k z)) (t':=tk) I3 (by rw [ea];exact True.intro) hs ⟨qo,hq⟩ ⟨hl2,hd,_,KT.keeps (rel.put k eb rz) (λc ys ec=>?_),qo,es,ep,hq,h2,h3,h4,h5⟩,rz,(q4 hv).2⟩
    rw [E4 (bd7 ec ea (λz=>nomatch z))]
    exact ec
theorem aK3{d y x:ED}(hu:X.A.units+1<cLine)(ho:PE X o (EvE X.K cm d))(he:PE X e (EvE X.K cm y))(hf:PE X f (EvE X.K cm x))(m:M2 X o "setdefault" apos e f cpos:=by exact⟨rfl,rfl,rfl,rfl⟩):PE X (.Call (.Attribute o "setdefault" apos) [e,f] [] cpos) (EvE X.K cm (aa8 d y x)):=
 E3 (a04 hu ho he hf m) λσ H Q hq=>by
  obtain ⟨ρ,A,σp,v,A',rl,rs,ev,k⟩:=hq
  obtain⟨xv,A1,e1,ev1⟩:=B0 ev
  refine⟨ρ,A,σp,xv,A1,rl,rs,e1,λρ1 H1 v1 x1 rl1 rv1=>?_⟩
  cases xv with
  | ref n=>
    obtain⟨m0,A2,e2,ev2⟩:=B0 ev1
    obtain⟨rfl,hA,a,kv,rfl,hn,hH,hp⟩:=R1 rl1 rv1 e2
    obtain⟨kx,A3,e3,ev3⟩:=B0 ev2
    obtain⟨z,A4,e4,ev4⟩:=B0 ev3
    refine⟨a,rfl,.inr ⟨kv,.inl hH⟩,ρ1,_,σp,kx,A3,rl1,rs.mono x1,e3,λρ2 H2 v2 x2 rl2 rv2=>⟨ρ2,A3,σp,z,A4,rl2,(rs.mono x1).mono x2,e4,λρ3 H3 v3 x3 rl3 rv3=>?_⟩⟩
    rcases hkj:Q8 kx with _ | j <;> rw [hkj] at ev4
    ·cases ev4
    obtain⟨mm,A5,e5,ev5⟩:=B0 ev4
    obtain⟨rfl,hA3,a3,kv3,e6,hn3,hH3,hp3⟩:=R1 rl3 ((rv1.mono x2).mono x3) e5
    cases e6
    obtain⟨b,rfl,hb⟩:=X6 hkj (rv2.mono x3)
    refine⟨kv3,j.map Sum.inl,b,hH3,rfl,hb,λw hw=>?_,λhw=>?_⟩
    ·rcases PT2.val j hp3 with ⟨g1,g2⟩ | ⟨w',u,g1,g2,g3⟩
     ·rw [g2] at hw;cases hw
     ·rw [g2] at hw
      cases hw
      rw [g1] at ev5
      cases ev5
      exact k ρ3 _ _ ((x1.trans x2).trans x3) rl3 g3
    ·rcases PT2.val j hp3 with ⟨g1,g2⟩ | ⟨w',u,g1,g2,g3⟩
     ·rw [g1] at ev5
      obtain⟨c,ev6⟩:=C8 ev5
      cases ev6
      have ex:Ext ρ3 H3 ρ3 (upd H3 a (.dT (Y3 kv3 (j.map Sum.inl) v3))):=Ext.put rl3 hn3 hA3 rfl
      exact⟨by rw [←hp3.len];exact at9 c,k ρ3 _ _ (((x1.trans x2).trans x3).trans ex) (rl3.put hn3 hA3 rfl rfl ⟨_,D8,PT2.put (rv3.mono ex) j (hp3.mono ex)⟩) (rv3.mono ex)⟩
     ·rw [g2] at hw;cases hw
  | _=>cases ev1
end
section
variable{X:Cx}{cm:Nat->Addr}
theorem aQ2(bs:List Bool):((List.range bs.length).any λi=>(bs[i]?).getD true)=bs.any id:=by
 induction bs with
 | nil=>rfl
 | cons b r ih=>
   rw [List.length_cons,List.range_succ_eq_map,List.any_cons,List.any_map,List.any_cons,←ih]
   rfl
def bx1(K:PySem.W.Frag):List V->Hp->VK->Prop:=λvs H Q=>∃(a:Addr) (bs:List Bool),vs=[.ref a]/\SqL K H a (bs.map V.bl)/\Q (.bl (bs.any id)) H
theorem aQ3(hcalm:X.calm=true):CallR X (.builtin "any") (bx1 X.K):=by
 intro pins s σ H xs us Q I r h
 obtain⟨a,bs,rfl,hq,q⟩:=h
 obtain⟨u,rfl,rx⟩:=Y4 r
 cases rx
 obtain⟨its,ri,pl,hz⟩:=I.list hq
 have hil:=pl.isList
 have hal:a<s.heap.objs.size:=by
  obtain⟨_,e,_⟩:=hil
  exact Heap.lt_size e
 have hlen:its.length=bs.length:=by
  have:=ri.length
  simpa using this.symm
 refine call_any_walk (wpAny_pyIter_list hil ⟨s.heap.objs.size,[s.heap.objs.size,a],[s.heap.objs.size],its.toArray.size,_,_,λi=>(bs[i]?).getD true,rfl,
  Walks.list (A:=X.A.in1) (I.ok.hd hcalm) _ a (Nat.ne_of_lt hal) its.toArray,⟨⟨_,Heap.get?_push_size _ rfl,rfl,rfl⟩,hil.push _⟩,?_,?_⟩)
 ·intro i v s2 Q2 E2 hP hQ2
  obtain⟨b,e1,rfl⟩:=au8 ri i v (by simpa using hP)
  have hQ3:Q2 ((bs[i]?).getD true) s2:=hQ2
  rw [e1] at hQ3
  exact wpAny_truthy_bool hQ3
 ·intro h2 tk hk
  have e1:its.toArray.size=bs.length:=by rw [List.size_toArray];exact hlen
  rw [e1,aQ2]
  exact⟨.bl _,H,I.kept (t':=tk) (λb o e=>hk b o (λhm=>by rw [List.mem_singleton.mp hm] at e;exact absurd (Heap.lt_size e) (Nat.lt_irrefl _)) (Heap.get?_push_of_some _ e)),rfl,q⟩
theorem bf7{e:Expr}{d:ED}{p pos:Pos}(hcalm:X.calm=true)(he:PE X e (EvE X.K cm d))(hg:Gl X "any")(hm:X.mg "any" = none)(hs:starEach [e] X.env=(false,eval e X.env)::starEach [] X.env:=by exact E5 rfl):PE X (.Call (.Name "any" p) [e] [] pos) (EvE X.K cm (a75 d)):=
 E3 (S4 (aQ3 hcalm) hg hm (by rfl) (r_cons he r_nil hs) (he:=hs)) λσ H Q h=>Z5 (f:=λx=>match x with | .ref n=>bnd (D3 n) λl=>(match a9 l with | some bs=>ret (.bl (bs.any id)) | none=>stuck) | _=>stuck) (λ_=>rfl) (λρ A H x z A' v Q rl rx ev k=>by
  cases x with
  | ref n=>
    obtain⟨l,A1,e1,ev1⟩:=B0 ev
    obtain⟨rfl,a,xs,rfl,hq,hv⟩:=K1 rl rx e1
    cases hb:a9 l with
    | none=>rw [hb] at ev1;cases ev1
    | some bs=>
      rw [hb] at ev1
      cases ev1
      rw [ab6 hb] at hv
      exact⟨a,bs,rfl,by rw [←au9 hv];exact hq,k ρ H _ (Ext.refl _ _) rl (.bl _)⟩
  | _=>cases ev) h
end
end Ws
namespace Ws
open PySem PySem.W PyProof.Rows PySem.Calls
end Ws
namespace Ws
open PySem PySem.W PyProof.Rows L2
def foldH{K:Type}[DecidableEq K](ws:List (K×Addr×Value)):List (K×Addr×Value):=ws.foldl (λacc p=>storedH acc p.1 p.2.1 p.2.2) []
theorem aG2{K:Type}[DecidableEq K](ws:List (K×Addr×Value))(p:K×Addr×Value):foldH (ws++[p])=storedH (foldH ws) p.1 p.2.1 p.2.2:=by
 unfold foldH;rw [List.foldl_append];rfl
theorem aA3{K:Type}[DecidableEq K](xs:List (K×Addr×Value))(k:K)(a:Addr)(v:Value):(storedH xs k a v).length<=xs.length+1:=by
 unfold storedH;split <;> simp
theorem aq5{K:Type}[DecidableEq K](ws:List (K×Addr×Value)):(foldH ws).length<=ws.length:=by
 have key:∀(l acc:List (K×Addr×Value)),(l.foldl (λacc p=>storedH acc p.1 p.2.1 p.2.2) acc).length<=acc.length+l.length:=by
  intro l
  induction l with
  | nil=>intro acc;simp
  | cons p l ih=>
    intro acc
    have h1:=ih (storedH acc p.1 p.2.1 p.2.2)
    have h2:=aA3 acc p.1 p.2.1 p.2.2
    simp only [List.foldl_cons,List.length_cons]
    omega
 simpa [foldH] using key ws []
theorem aQ4{K:Type}[DecidableEq K](ws:List (K×Addr×Value)):∀x∈foldH ws,∃q∈ws,x.1=q.1/\x.2.1=q.2.1:=by
 have key:∀(l acc:List (K×Addr×Value)),∀x∈l.foldl (λacc p=>storedH acc p.1 p.2.1 p.2.2) acc,(∃q∈acc,x.1=q.1/\x.2.1=q.2.1)\/∃q∈l,x.1=q.1/\x.2.1=q.2.1:=by
  intro l
  induction l with
  | nil=>intro acc x hx;exact .inl ⟨x,hx,rfl,rfl⟩
  | cons p l ih=>
    intro acc x hx
    rcases ih _ x hx with ⟨q,hq,e⟩ | ⟨q,hq,e⟩
    ·have hq:q∈storedH acc p.1 p.2.1 p.2.2:=hq
     unfold storedH at hq
     split at hq
     ·obtain⟨q',hq',rfl⟩:=List.mem_map.mp hq
      refine .inl ⟨q',hq',?_⟩
      unfold putAt at e
      split at e <;> exact e
     ·rcases List.mem_append.mp hq with z | z
      ·exact .inl ⟨q,z,e⟩
      ·cases List.mem_singleton.mp z
       exact .inr ⟨p,List.mem_cons_self,e⟩
    ·exact .inr ⟨q,List.mem_cons_of_mem _ hq,e⟩
 intro x hx
 rcases key ws [] x hx with ⟨q,hq,_⟩ | h
 ·cases hq
 ·exact h
theorem y9{P:Program}{w:World}{h h':Heap}{k:List Key}{a:Addr}(hi:(TK P w).is h k a)(hk:∀o,h.get? a=some o->h'.get? a=some o):(TK P w).is h' k a:=by
 obtain⟨ot,its,n,h1,h2⟩:=hi
 exact⟨ot,its,n,hk _ h1,h2⟩
theorem f6{P:Program}{w:World}{h h':Heap}{D:Addr}{xs:List (List Key×Addr×Value)}(hD:h.DictOfH (TK P w) D xs)(hk:∀o,h.get? D=some o->h'.get? D=some o)(hi:∀x∈xs,(TK P w).is h' x.1 x.2.1):h'.DictOfH (TK P w) D xs:=by
 obtain⟨o,es,ep,ho,h1,h2,h3,_,h5⟩:=hD
 exact⟨o,es,ep,hk _ ho,h1,h2,h3,hi,h5⟩
theorem aK4{P:Program}{w:World}{h:Heap}{ws:List (List Key×Addr×Value)}(hw:∀j (hj:j<ws.length),(TK P w).is h ws[j].1 ws[j].2.1)(i:Nat):∀x∈foldH (ws.take i),(TK P w).is h x.1 x.2.1:=by
 intro x hx
 obtain⟨q,hq,e1,e2⟩:=aQ4 _ x hx
 obtain⟨j,hj,rfl⟩:=List.getElem_of_mem (List.mem_of_mem_take hq)
 rw [e1,e2]
 exact hw j hj
section
variable{prog:Program}{w:World}{A:Around}{R:Result->Shared->Prop}{E:Value->Shared->Prop}{s:Shared}
theorem aQ5{I D:Addr}{fp wr:List Addr}{G:Array GenState->Array GenState->Prop}{P:Nat->Value->Prop}{St:Nat->Shared->Prop}{ws:List (List Key×Addr×Value)}
 (W:WalksS prog w A.in1 I fp wr G ws.length P St) (hDf:D∉fp) (res:Value) (tp:Nat->Addr) (htp:∀i v,P i v->v=.ref (tp i)) (hne:∀i,i<ws.length->tp i≠D/\tp i∉wr) (hnk:∀i (hi:i<ws.length),ws[i].2.1≠D/\ws[i].2.1∉wr) (hu:(TK prog w).room A.in1) (hz:ws.length<=sizeLine) :
 ∀(k i:Nat) (s:Shared),ws.length - i=k->i<=ws.length->St i s->s.heap.DictOfH (TK prog w) D (foldH (ws.take i))->
  (∀j (hj:j<ws.length),s.heap.IsTuple (tp j) #[.ref ws[j].2.1,ws[j].2.2]/\(TK prog w).is s.heap ws[j].1 ws[j].2.1)->
  (∀s',Moved (D::wr) G s s'->s'.heap.DictOfH (TK prog w) D (foldH ws)->R (.ok (.ret res)) s')->
  codeAny (model prog w) A (.builtin "dict.update.loop" ⟨[.ref D,.ref I,rawInt i,res],[]⟩) R s:=by
 have hDw:D∉wr:=λh=>hDf (W.sub _ h)
 have hsub:∀b∈wr,b∈D::wr:=λb hb=>List.mem_cons_of_mem _ hb
 intro k
 induction k with
 | zero=>
   intro i s hk hi hst hD htup hR
   have hin:i=ws.length:=by omega
   subst hin
   rw [List.take_length] at hD
   refine codeAny_builtin aq4 ?_
   rw [Around.under_plainId n8 _]
   show wpAny _ A.in1 (pyNext (.ref I)>>=_) _ _ s
   refine wpAny_bind (W.done s _ _ hst λs' hm=>?_)
   show wpAny _ A.in1 (Builtin.Dict.addKeywords D []>>=_) _ _ s'
   refine wpAny_bind (wpAny_pure ?_)
   refine wpAny_pure (hR s' (hm.mono hsub) ?_)
   refine f6 hD (λo ho=>hm.heap D o hDw ho) ?_
   have:=aK4 (i:=ws.length) λj hj=>y9 (htup j hj).2 λo ho=>hm.heap _ o (hnk j hj).2 ho
   rw [List.take_length] at this
   exact this
 | succ k ih=>
   intro i s hk hi hst hD htup hR
   have hlt:i<ws.length:=by omega
   refine codeAny_builtin aq4 ?_
   rw [Around.under_plainId n8 _]
   show wpAny _ A.in1 (pyNext (.ref I)>>=_) _ _ s
   refine wpAny_bind (W.item i s _ _ hlt hst λv s' hP hst' hm=>?_)
   obtain rfl:=htp i v hP
   have htup':∀j (hj:j<ws.length),s'.heap.IsTuple (tp j) #[.ref ws[j].2.1,ws[j].2.2]/\(TK prog w).is s'.heap ws[j].1 ws[j].2.1:=by
    intro j hj
    obtain⟨⟨o,ho,r⟩,h2⟩:=htup j hj
    exact⟨⟨o,hm.heap _ o (hne j hj).2 ho,r⟩,y9 h2 λo ho=>hm.heap _ o (hnk j hj).2 ho⟩
   have hD':s'.heap.DictOfH (TK prog w) D (foldH (ws.take i)):=f6 hD (λo ho=>hm.heap D o hDw ho) (aK4 (i:=i) λj hj=>(htup' j hj).2)
   obtain⟨⟨ot,hot,hct,nt,hdt⟩,hkey⟩:=htup' i hlt
   have hT:s'.TypeIs (.ref (tp i)) "tuple":=⟨ot,hot,hct⟩
   show wpAny _ A.in1 (holding [Value.ref (tp i)] _>>=_) _ _ s'
   refine wpAny_bind (wpAny_holding ?_)
   refine wpAny_bind (wpAny_tryCatch ?_)
   unfold Builtin.Dict.pairItems
   refine wpAny_bind (wpAny_typeOf hT ?_)
   rw [if_pos (by decide)]
   refine wpAny_bind (wpAny_seqItems hot hdt ?_)
   refine wpAny_pure ?_
   show wpAny _ A.in1 (holding [Value.ref ws[i].2.1,ws[i].2.2] (dictSet D (.ref ws[i].2.1) ws[i].2.2)) _ _ s'
   refine wpAny_holding ?_
   refine wpAny_dictSet_heap hu hkey hD' (λh' hD2 hsb=>?_) (by have:=aq5 (ws.take i);have:(ws.take i).length<=ws.length:=(by rw [List.length_take];omega);omega)
   have htk:ws.take (i+1)=ws.take i++[ws[i]]:=by rw [List.take_succ,List.getElem?_eq_getElem hlt];rfl
   have hc:((i:Int)+1)=((i+1:Nat):Int):=by push_cast;rfl
   show wpAny _ A.in1 (again (.builtin "dict.update.loop" ⟨[.ref D,.ref I,rawInt ((i:Int)+1),res],[]⟩)) _ _ _
   rw [hc]
   refine wpAny_pure ⟨plainId_quiet n8 _,ih (i+1) _ (by omega) hlt (W.frame _ s' _ _ hst' (Nat.le_add_right _ _) λb hb o e=>?_) (by rw [htk,aG2];exact hD2) (λj hj=>?_) λs'' hm'' hD''=>?_⟩
   ·rw [hsb.2 b (λh:b=D=>hDf (by rw [←h];exact hb))];exact e
   ·obtain⟨⟨o,ho,r⟩,h2⟩:=htup' j hj
    exact⟨⟨o,by rw [hsb.2 _ (hne j hj).1];exact ho,r⟩,y9 h2 λo ho=>by rw [hsb.2 _ (hnk j hj).1];exact ho⟩
   ·refine hR s'' (Moved.trans W.gtrans ((hm.mono hsub).then_heap (Nat.le_add_right _ _) λb o hb e=>?_) hm'') hD''
    rw [hsb.2 b (λh:b=D=>hb (by rw [h];exact List.mem_cons_self))];exact e
theorem ac1{l:Addr}{items:Array Value}{ws:List (List Key×Addr×Value)}{Q:Value->Shared->Prop}(hh:A.handled=none)(hu:(TK prog w).room A.in1.in1)(hl:PlainL s.heap l items)(tp:Nat->Addr)(hsz:items.size=ws.length)(hz:ws.length<=sizeLine)
 (hit:∀j (hj:j<ws.length),items[j]?=some (.ref (tp j))/\s.heap.IsTuple (tp j) #[.ref ws[j].2.1,ws[j].2.2]/\(TK prog w).is s.heap ws[j].1 ws[j].2.1)
 (h:∀h' tk,h'.DictOfH (TK prog w) s.heap.objs.size (foldH ws)->(∀b o,s.heap.get? b=some o->h'.get? b=some o)->Q (.ref s.heap.objs.size) { s with heap:=h',toks:=tk }) :
 wpAny (model prog w) A (call (.type "dict") [.ref l]) Q E s:=by
 refine callType_codes (Q₁:=λobj s₁=>obj=.ref s.heap.objs.size/\s₁={ s with heap:=s.heap.push { cls:=.type "dict",data:=.dict #[] } }) PySem.F.kt_called_dict (PySem.F.kt_typeCall_dict_1 _) PySem.F.entry_dict_init (kt_code_dict_new _ ⟨rfl,rfl⟩) ?_
 rintro obj s₁ ⟨rfl,rfl⟩
 have hnew:(s.heap.push { cls:=.type "dict",data:=.dict #[] }).DictOfH (TK prog w) s.heap.objs.size []:=⟨_,#[],0,Heap.get?_push_size _ rfl,⟨rfl,rfl,rfl⟩,rfl,rfl,λx hx=>(nomatch hx),List.nodup_nil⟩
 obtain⟨ol,n,hlo,hlc,hld,hldat⟩:=id hl
 have hlo':(s.heap.push { cls:=.type "dict",data:=.dict #[] }).get? l=some _:=Heap.get?_push_of_some _ hlo
 have hT:Shared.TypeIs { s with heap:=s.heap.push { cls:=.type "dict",data:=.dict #[] } } (.ref l) "list":=⟨_,hlo',hlc⟩
 refine⟨hnew.typeIs,PySem.F.args_dict_init_2 _ _,?_⟩
 unfold Builtin.«dict.__init__»
 refine wpAny_bind ?_
 unfold Builtin.Dict.selfAndRest
 refine wpAny_bind (wpAny_notOrdered_dict hnew.typeIs ?_)
 show wpAny _ _ (pure (s.heap.objs.size,[Value.ref l])) _ _ _
 refine wpAny_pure ?_
 show wpAny _ _ (Builtin.Dict.updateFrom "dict.__init__" s.heap.objs.size (.ref l) [] .none) _ _ _
 unfold Builtin.Dict.updateFrom
 refine wpAny_bind (wpAny_typeOf hT ?_)
 rw [if_pos (by decide)]
 refine wpAny_bind (an7 hlo' hlc hldat hld keys_miss (by decide) (by simpa using hh) λh1 tk1 e1 ne=>?_)
 simp only [Option.isNone_none,if_true]
 refine wpAny_bind (wpAny_rule ?_)
 have hl1:h1.IsList l items:=⟨_,ne.keeps _ _ hlo',hlc,n,hldat⟩
 refine wpAny_bind (wpAny_pyIter_list (s:={ s with heap:=h1,toks:=tk1 }) hl1 ?_)
 have hDlt:s.heap.objs.size<h1.objs.size:=by
  obtain⟨o,_,_,ho,_⟩:=hnew
  exact Heap.lt_size (ne.keeps _ _ ho)
 have hnew1:h1.DictOfH (TK prog w) s.heap.objs.size (foldH (ws.take 0)):=by
  exact f6 hnew (λo ho=>ne.keeps _ _ ho) λx hx=>nomatch hx
 have hlS:l<s.heap.objs.size:=Heap.lt_size hlo
 have hneI:l≠h1.objs.size:=Nat.ne_of_lt (Nat.lt_trans hlS hDlt)
 have WW:=(Walks.list (prog:=prog) (w:=w) (A:=A.in1.in1) (by simpa using hh) h1.objs.size l hneI items).toS
 rw [hsz] at WW
 have hDf:s.heap.objs.size∉[h1.objs.size,l]:=by
  simp only [List.mem_cons,List.mem_singleton,List.not_mem_nil,or_false,not_or]
  exact⟨Nat.ne_of_lt hDlt,Nat.ne_of_gt hlS⟩
 have htlt:∀i,i<ws.length->tp i<s.heap.objs.size:=by
  intro i hi
  obtain⟨_,⟨o,ho,_⟩,_⟩:=hit i hi
  exact Heap.lt_size ho
 have hklt:∀i (hi:i<ws.length),ws[i].2.1<s.heap.objs.size:=by
  intro i hi
  obtain⟨_,_,ot,its,n,h1,h2⟩:=hit i hi
  exact Heap.lt_size h1
 refine wpAny_pure ⟨plainId_quiet n8 _,aQ5 WW hDf .none tp (λi v hv=>?_) (λi hi=>⟨Nat.ne_of_lt (htlt i hi),?_⟩) (λi hi=>⟨Nat.ne_of_lt (hklt i hi),?_⟩) hu hz ws.length 0 _ (by omega) (Nat.zero_le _)
  ⟨⟨_,Heap.get?_push_size _ rfl,rfl,rfl⟩,hl1.push _⟩ ?_ (λj hj=>?_) λs' hm hD=>?_⟩
 ·have hi:i<ws.length:=by
   rcases Nat.lt_or_ge i items.size with z | z
   ·rw [←hsz];exact z
   ·rw [Array.getElem?_eq_none z] at hv;cases hv
  have:=(hit i hi).1
  rw [hv] at this
  exact Option.some.inj this
 ·rw [List.mem_singleton]
  exact Nat.ne_of_lt (Nat.lt_trans (htlt i hi) hDlt)
 ·rw [List.mem_singleton]
  exact Nat.ne_of_lt (Nat.lt_trans (hklt i hi) hDlt)
 ·exact f6 hnew1 (λo ho=>Heap.get?_push_of_some _ ho) λx hx=>nomatch hx
 ·obtain⟨_,⟨o,ho,r⟩,h2⟩:=hit j hj
  exact⟨⟨o,Heap.get?_push_of_some _ (ne.keeps _ _ (Heap.get?_push_of_some _ ho)),r⟩,y9 h2 λo ho=>Heap.get?_push_of_some _ (ne.keeps _ _ (Heap.get?_push_of_some _ ho))⟩
 ·obtain⟨h',g',d',tk',os'⟩:=s'
  have eg:g'=s.gens:=hm.gens
  have ed:d'=s.drawn:=hm.drawn
  have eo:os'=s.os:=hm.os
  subst eg;subst ed;subst eo
  refine⟨rfl,h h' tk' hD λb o e=>?_⟩
  have hb:=Heap.lt_size e
  refine hm.heap b o ?_ (Heap.get?_push_of_some _ (ne.keeps _ _ (Heap.get?_push_of_some _ e)))
  simp only [List.mem_cons,List.mem_singleton,List.not_mem_nil,or_false,not_or]
  exact⟨Nat.ne_of_lt hb,Nat.ne_of_lt (Nat.lt_trans hb hDlt)⟩
end
abbrev TripT:=Addr×Addr×List Int×V
def aK5(H:Hp)(t:TripT):Prop:=H t.1=some (.tup [.ref t.2.1,t.2.2.2])/\H t.2.1=some (.tup ((t.2.2.1.map Sum.inl).map L2.kV))
theorem ad7{ρ:List Addr}{H:Hp}:∀{l:List PV} {xs:List V} {m:List (List Int×PV)},RVs ρ H l xs->ah0 l=some m->∃tr:List TripT,xs=tr.map (λt=>V.ref t.1)/\(∀t∈tr,aK5 H t)/\m.map (·.1)=tr.map (·.2.2.1)/\RVs ρ H (m.map (·.2)) (tr.map (·.2.2.2))
 | [],xs,m,r,h=>by
   cases r
   cases h
   exact⟨[],rfl,by simp,rfl,.nil⟩
 | x::l,xs,m,r,h=>by
   cases r with
   | cons hx hr=>
     match x,hx,h with
     | .tup [k,v],hx,h=>
       rcases hk:Q8 k with _ | i
       ·simp [ah0,hk] at h
       rcases hm:ah0 l with _ | m'
       ·simp [ah0,hk,hm] at h
       ·simp only [ah0,hk,hm,Option.map_some,Option.bind_some,Option.some.injEq] at h
        subst h
        obtain⟨tr,e1,e2,e3,e4⟩:=ad7 hr hm
        cases hx with
        | tup ha r1=>
          cases r1 with
          | cons h1 r1=>
            obtain⟨b,rfl,hb⟩:=X6 hk h1
            cases r1 with
            | cons h2 r1=>
              cases r1
              refine⟨(_,b,i,_)::tr,by rw [e1];rfl,λt ht=>?_,by simp [e3],.cons h2 e4⟩
              rcases List.mem_cons.mp ht with z | z
              ·subst z;exact⟨ha,hb⟩
              ·exact e2 t z
def f7(tr:List TripT)(acc:List (List Key×V)):List (List Key×V):=tr.foldl (λacc t=>Y3 acc (t.2.2.1.map Sum.inl) t.2.2.2) acc
theorem aK6{ρ:List Addr}{H:Hp}:∀(m:List (List Int×PV)) (tr:List TripT) (am:List (List Int×PV)) (ak:List (List Key×V)),m.map (·.1)=tr.map (·.2.2.1)->RVs ρ H (m.map (·.2)) (tr.map (·.2.2.2))->PT2 ρ H am ak->PT2 ρ H (m.foldl (λacc p=>W8 acc p.1 p.2) am) (f7 tr ak)
 | [],[],am,ak,_,_,h=>h
 | [],_::_,_,_,e,_,_=>by simp at e
 | _::_,[],_,_,e,_,_=>by simp at e
 | p::m,t::tr,am,ak,e,r,h=>by
   simp only [List.map_cons,List.cons.injEq] at e
   cases r with
   | cons h1 r1=>
     show PT2 ρ H (m.foldl _ (W8 am p.1 p.2)) (f7 tr (Y3 ak (t.2.2.1.map Sum.inl) t.2.2.2))
     rw [←e.1]
     exact aK6 m tr _ _ e.2 r1 (PT2.put h1 p.1 h)
def bt3(s:Shared)(t:TripT)(q:List Key×Addr×Value):Prop:=q.1=t.2.2.1.map Sum.inl/\q.2.1=t.2.1/\L2.RelV t.2.2.2 q.2.2/\s.heap.IsTuple t.1 #[.ref q.2.1,q.2.2]
section
variable{X:Cx}{cm:Nat->Addr}{pins:List (Addr×Obj)}{σ:L2.St}{H:Hp}{s:Shared}
theorem bf8(I:L2.Inv X pins σ H s):∀(tr:List TripT),(∀t∈tr,aK5 H t)->∃ws:List (List Key×Addr×Value),ws.length=tr.length/\∀j (h1:j<ws.length) (h2:j<tr.length),bt3 s tr[j] ws[j]
 | [],_=>⟨[],rfl,λj h1=>absurd h1 (by simp)⟩
 | t::tr,h=>by
   obtain⟨ws,e1,e2⟩:=bf8 I tr λx hx=>h x (List.mem_cons_of_mem _ hx)
   obtain⟨_,its,ri,pi⟩:=I.hok _ _ (h t List.mem_cons_self).1
   obtain⟨u0,u1,rfl,r0,r1⟩:=aH5 ri
   cases (show u0=Value.ref t.2.1 from r0)
   refine⟨(t.2.2.1.map Sum.inl,t.2.1,u1)::ws,by simp [e1],λj h1 h2=>?_⟩
   cases j with
   | zero=>exact⟨rfl,rfl,r1,pi⟩
   | succ j=>exact e2 j (by simpa using h1) (by simpa using h2)
theorem aK7:∀(tr:List TripT) (ws:List (List Key×Addr×Value)) (ak:List (List Key×V)) (av:List (List Key×Addr×Value)),ws.length=tr.length->(∀j (h1:j<ws.length) (h2:j<tr.length),bt3 s tr[j] ws[j])->(∀t∈tr,aK5 H t)->KT H ak av->KT H (f7 tr ak) (ws.foldl (λacc p=>storedH acc p.1 p.2.1 p.2.2) av)
 | [],[],ak,av,_,_,_,h=>h
 | [],_::_,_,_,e,_,_,_=>by simp at e
 | _::_,[],_,_,e,_,_,_=>by simp at e
 | t::tr,q::ws,ak,av,e,hw,ht,h=>by
   have h0:=hw 0 (by simp) (by simp)
   obtain⟨g1,g2,g3,_⟩:=h0
   simp only [List.getElem_cons_zero] at g1 g2 g3
   show KT H (f7 tr (Y3 ak (t.2.2.1.map Sum.inl) t.2.2.2)) (ws.foldl _ (storedH av q.1 q.2.1 q.2.2))
   refine aK7 tr ws _ _ (by simpa using e) (λj h1 h2=>by have:=hw (j+1) (by simpa using h1) (by simpa using h2);simpa using this) (λx hx=>ht x (List.mem_cons_of_mem _ hx)) ?_
   rw [g1,g2]
   exact h.put _ (ht t List.mem_cons_self).2 g3
theorem aQ6{e:Expr}{d:ED}{p q:Pos}(hcalm:X.calm=true)(hu:X.A.units+64<cLine)(he:PE X e (EvE X.K cm d))(hg:Gl X "dict")(hm:X.mg "dict" = none)
 (hs:starEach [e] X.env=(false,eval e X.env)::starEach [] X.env:=by exact E5 rfl) :
 PE X (.Call (.Name "dict" p) [e] [] q) (EvE X.K cm (ah1 d)):=by
 intro pins s σ H Q I h
 obtain⟨ρ,A,σp,v,A',rl,rs,ev,k⟩:=h
 obtain⟨x,A1,e1,ev1⟩:=B0 ev
 refine Call_ (U1 I hg hm (show bootBuiltins "dict" = some (.type "dict") from by rfl) (callWith_type1 (y0 hs ?_) hs rfl))
 refine thn (he pins s σ H (λv H1=>∃(a:Addr) (tr:List TripT),v=.ref a/\SqL X.K H1 a (tr.map λt=>V.ref t.1)/\(∀t∈tr,aK5 H1 t)/\tr.length<=sizeLine/\∀l,H1 l=none->Q (.ref l) (upd H1 l (.dT (f7 tr [])))) I ⟨ρ,A,σp,x,A1,rl,rs,e1,λρ1 H1 v1 x1 rl1 rv1=>?_⟩) λu s1 ⟨w1,H1,I1,r1,a,tr,ew,hq,htr,hz,qq⟩=>?_
 ·cases x with
  | ref n=>
    obtain⟨l,A2,e2,ev2⟩:=B0 ev1
    obtain⟨rfl,hA,a,xs,rfl,hn,hH,r0⟩:=P8 rl1 rv1 e2
    cases hi:ah0 l with
    | none=>rw [hi] at ev2;cases ev2
    | some m=>
      rw [hi] at ev2
      obtain⟨c,ev3⟩:=C8 ev2
      cases ev3
      obtain⟨tr,f1,f2,f3,f4⟩:=ad7 r0 hi
      have hl:tr.length=m.length:=by
       have:=congrArg List.length f3
       simpa using this.symm
      refine⟨a,tr,rfl,by rw [←f1];exact SqL.of hH,f2,by rw [hl];exact Nat.le_of_lt (at9 c),λD hD=>?_⟩
      have ex:Ext ρ1 H1 (ρ1++[D]) (upd H1 D (.dT (f7 tr []))):=Ext.new hD
      refine k (ρ1++[D]) _ _ (x1.trans ex) (rl1.alloc hD ⟨_,D8,?_⟩ rfl) (.ref (by rw [←rl1.len];simp))
      exact aK6 m tr [] [] f3 (f4.mono ex) ⟨rfl,.nil⟩
  | _=>cases ev1
 ·subst ew
  obtain rfl:u=Value.ref a:=r1
  obtain⟨its,ri,pl,_⟩:=I1.list hq
  obtain⟨ws,w1',w2⟩:=bf8 I1 tr htr
  have hlen:its.length=tr.length:=by rw [←ri.length];simp
  refine ac1 (ws:=ws) (I1.ok.hd hcalm) (tupleKind_room_in1 (O7 X.A 1 (by omega))) pl (λj=>(tr.getD j (0,0,[],.non)).1) (by rw [List.size_toArray,hlen,w1']) (by rw [w1'];exact hz) (λj hj=>?_) λh' tk dd hk=>?_
  ·have hj2:j<tr.length:=by rw [←w1'];exact hj
   have e0:tr.getD j (0,0,[],.non)=tr[j]:=by simp [hj2]
   rw [e0]
   obtain⟨g1,g2,g3,g4⟩:=w2 j hj hj2
   refine⟨?_,g4,?_⟩
   ·obtain⟨u,hu,ru⟩:=ri.get (i:=j) (x:=.ref tr[j].1) (by rw [List.getElem?_map,List.getElem?_eq_getElem hj2];rfl)
    cases (show u=Value.ref tr[j].1 from ru)
    simpa using hu
   ·rw [g1,g2]
    exact i7 I1.hok (htr _ (List.getElem_mem hj2)).2
  ·have rel:KT H1 (f7 tr []) (foldH ws):=aK7 (s:=s1) tr ws [] [] w1' w2 htr .nil
   have hz2:(f7 tr []).length<=sizeLine:=by
    rw [Paired.length rel]
    exact Nat.le_trans (aq5 ws) (by rw [w1'];exact hz)
   obtain⟨qo,es,ep,hq',h2,h3,h4,_,h5⟩:=dd
   refine⟨.ref s1.heap.objs.size,_,I1.laid (t':=tk) (a:=s1.heap.objs.size) (o:=.dT (f7 tr [])) (λb o e2=>hk b o e2) (Nat.le_refl _) ⟨hz2,beq_eq_false_iff_ne.mpr (Ne.symm (Nat.ne_of_lt I1.big)),_,KT.keeps rel (λc ys ec=>?_),qo,es,ep,hq',h2,h3,h4,h5⟩,rfl,qq _ (I1.hok.fresh (Nat.le_refl _))⟩
   rw [E4 (λz=>by rw [z,I1.hok.fresh (Nat.le_refl _)] at ec;cases ec)]
   exact ec
end
end Ws
namespace Ws
open PySem PySem.W PyProof.Rows PySem.Calls
end Ws
namespace Ws
open PySem PySem.W PyProof.Rows PySem.Spec PySem.Calls L2
theorem bt4{x:Int}(h:0<=x/\x<=5):hashInt x=x:=by
 have:x=0\/x=1\/x=2\/x=3\/x=4\/x=5:=by omega
 rcases this with rfl | rfl | rfl | rfl | rfl | rfl <;> decide +kernel
def aq6(led:Bool)(M:List Int)(x:Int):Bool:=
 match (K2 led M).freeSlot x with
 | some (slot,false)=>
   ((K2 led M).put slot).2 == j4 M x&&((K2 led M).put slot).1.fits (M.length+1)&&((K2 led M).put slot).1.plain&&
     (if ((K2 led M).put slot).1.tooFull then (match ((K2 led M).put slot).1.relaid (W9 M x).toArray (SetTable.grown (M.length+1)) with
      | some (t2,order)=>M.length == 4&&decide (order=#[0,1,2,3,4])&&t2.fits 5&&decide (t2=K2 led (W9 M x))
      | none=>false)
     else decide (((K2 led M).put slot).1=K2 led (W9 M x)))
 | _=>false
theorem bb4:sixes.all (λM=>([0,1,2,3,4,5]:List Int).all λx=>decide (x∈M)||(aq6 true M x&&aq6 false M x&&decide (W9 M x∈sixes)))=true:=by decide +kernel
theorem in5{x:Int}(h:0<=x/\x<=5):x∈([0,1,2,3,4,5]:List Int):=by
 have:x=0\/x=1\/x=2\/x=3\/x=4\/x=5:=by omega
 simp;omega
theorem aA4{M:List Int}{x:Int}(hn:M∈sixes)(hx:0<=x/\x<=5)(hxM:x∉M):(aq6 true M x=true/\aq6 false M x=true)/\W9 M x∈sixes:=by
 have:=List.all_eq_true.mp (List.all_eq_true.mp bb4 M hn) x (in5 hx)
 simp only [hxM,decide_false,Bool.false_or,Bool.and_eq_true,decide_eq_true_eq] at this
 exact this
theorem bn7{M:List Int}{x:Int}(hn:M∈sixes)(hx:0<=x/\x<=5)(hxM:x∉M)(led:Bool):aq6 led M x=true:=by
 have:=(aA4 hn hx hxM).1
 cases led
 ·exact this.2
 ·exact this.1
theorem bn8{M:List Int}{x:Int}:j4 M x<=M.length:=by
 unfold j4;exact (List.takeWhile_prefix _).length_le
theorem aj7{α:Type}{es:Array α}{p:Nat}{y:α}(h:p<=es.size):(SetTable.insertAt es p y).size=es.size+1:=by
 unfold SetTable.insertAt
 simp;omega
theorem aj8:∀{vs:List Value} {ns:List Int} {us:List Value} {ms:List Int},IntsAre vs ns->IntsAre us ms->IntsAre (vs++us) (ns++ms)
 | _,_,_,_,.nil,h=>h
 | _,_,_,_,.cons n t h,h'=>.cons n t (aj8 h h')
theorem aq7:∀{vs:List Value} {ns:List Int} (k:Nat),IntsAre vs ns->IntsAre (vs.take k) (ns.take k)
 | _,_,0,_=>.nil
 | _,_,k+1,.nil=>.nil
 | _,_,k+1,.cons n t h=>.cons n t (aq7 k h)
theorem aq8:∀{vs:List Value} {ns:List Int} (k:Nat),IntsAre vs ns->IntsAre (vs.drop k) (ns.drop k)
 | _,_,0,h=>h
 | _,_,k+1,.nil=>.nil
 | _,_,k+1,.cons n t h=>aq8 k h
theorem aK8(M:List Int)(x:Int):W9 M x=M.take (j4 M x)++([x]++M.drop (j4 M x)):=by
 unfold W9 j4
 have e:=List.takeWhile_append_dropWhile (p:=λy:Int=>decide (y<x)) (l:=M)
 generalize M.takeWhile (λy=>decide (y<x))=T at e ⊢
 generalize M.dropWhile (λy=>decide (y<x))=D at e ⊢
 subst e
 simp
theorem aA5{α:Type}{es:Array α}{p:Nat}{y:α}:(SetTable.insertAt es p y).toList=es.toList.take p++([y]++es.toList.drop p):=by
 unfold SetTable.insertAt
 simp
 exact List.take_of_length_le (by simp)
theorem EsOf.ins{es:Array (Int×Value)}{M:List Int}(h:EsOf es M)(x:Int)(t:Nat):EsOf (SetTable.insertAt es (j4 M x) (x,.int x t)) (W9 M x):=by
 refine⟨?_,?_⟩
 ·rw [aA5,aK8,List.map_append,List.map_append,List.map_take,List.map_drop,h.hs];rfl
 ·rw [aA5,aK8,List.map_append,List.map_append,List.map_take,List.map_drop]
  exact aj8 (aq7 _ h.vs) (aj8 (.cons x t .nil) (aq8 _ h.vs))
section
variable{prog:Program}{w:World}{A:Around}{E:Value->Shared->Prop}{s:Shared}
theorem bb5{a:Addr}{es:Array (Int×Value)}{ep:Nat}{M:List Int}{x:Int}{led:Bool}{tok:Nat}{Q:Bool->Shared->Prop}(hn:M∈sixes)(hx5:0<=x/\x<=5)(hxM:x∉M)
 (ho:s.heap.get? a=some (W5 es ep (K2 led M))) (he:EsOf es M)
 (h:∀es' ep' h',Heap.SameBut a s.heap h'->h'.get? a=some (W5 es' ep' (K2 led (W9 M x)))->EsOf es' (W9 M x)->Q true { s with heap:=h' }) :
 wpAny (model prog w) A (setAddHashed a (.int x tok) ((intKind prog w).hash x)) Q E s:=by
 obtain⟨hH,hL6,hlt⟩:=y3 hn
 have hhx:(intKind prog w).hash x=x:=bt4 hx5
 have hsz:es.size=M.length:=he.size
 have hE:=aF7 hn (Nat.le_refl _) led
 rw [List.take_length] at hE
 have hS:=bn7 hn hx5 hxM led
 have hf:(K2 led M).fits es.size=true:=by
  unfold aq2 at hE
  simp only [Bool.and_eq_true] at hE
  rw [hsz]
  exact hE.1.1.1.1
 have hel:ElemsOf (intKind prog w) es.toList:=he.elems λx hx=>hH x hx
 have hb:es.size<scanBound:=by unfold scanBound;omega
 have habs:es.toList.findIdx? (λe=>(intKind prog w).is x e.2)=none:=by
  rw [List.findIdx?_eq_none_iff]
  intro e hem
  obtain⟨h1,t,h2⟩:=he.ent hem
  cases hc:(intKind prog w).is x e.2 with
  | false=>rfl
  | true=>
    exfalso
    rw [h2] at hc
    have e1:x=e.1:=by
     have hc':Value.isInt x (.int e.1 t)=true:=hc
     obtain⟨t',e1⟩:=Value.isInt_shape hc'
     injection e1 with e1
     exact e1.symm
    rw [←e1] at h1
    exact hxM h1
 have hle:j4 M x<=es.size:=by rw [hsz];exact bn8
 generalize ht0:K2 led M=t at *
 unfold aq6 at hS
 rw [ht0] at hS
 split at hS
 ·rename_i slot hfs
  simp only [Bool.and_eq_true,beq_iff_eq] at hS
  obtain⟨⟨⟨h2,h3⟩,h4⟩,h5⟩:=hS
  have hL:layNew t es x (.int x tok)=((SetTable.insertAt es (j4 M x) (x,.int x tok)),(t.put slot).1,false,false):=by
   have e0:layNew t es x (.int x tok)=(SetTable.insertAt es (t.put slot).2 (x,.int x tok),(t.put slot).1.orStandIn (SetTable.insertAt es (t.put slot).2 (x,.int x tok)).size,false,!(t.put slot).1.fits (SetTable.insertAt es (t.put slot).2 (x,.int x tok)).size):=by
    unfold layNew
    rw [hfs]
   rw [e0,h2,aj7 hle,hsz]
   unfold SetTable.orStandIn
   rw [h3];rfl
  have hnew:EsOf (SetTable.insertAt es (j4 M x) (x,.int x tok)) (W9 M x):=he.ins x tok
  unfold setAddHashed setAddHashedIn
  refine wpAny_holding (wpAny_bind (wpAny_setState_of ho rfl hf ?_))
  dsimp only
  rw [byScan_of (knd:=intKind prog w) rfl hb hel]
  simp only [↓reduceIte]
  unfold setAddByScan
  refine wpAny_bind ?_
  refine wpAny_bind (wpAny_rule ?_)
  refine wpAny_bind (wpAny_setScan_of (knd:=intKind prog w) (k:=x) (intKind_is _ _ _ _) ho rfl hf hel ?_)
  rw [habs,hhx,hL]
  dsimp only
  refine wpAny_bind (wpAny_pure ?_)
  rw [if_pos h4]
  refine wpAny_bind ?_
  rw [hashByValue_scannable 8 rfl]
  refine wpAny_pure ?_
  simp only [show plainKind (Value.int x tok)=true from rfl,if_true]
  refine wpAny_bind (wpAny_storeSet_of ho rfl ?_ (by rw [aj7 hle,hsz,sizeLine_eq];omega))
  have ho1:=Heap.get?_update_self (Obj.putSet (SetTable.insertAt es (j4 M x) (x,.int x tok)) (t.put slot).1) ho rfl
  have hsb1:=Heap.SameBut.update s.heap a (Obj.putSet (SetTable.insertAt es (j4 M x) (x,.int x tok)) (t.put slot).1)
  cases hfull:(t.put slot).1.tooFull with
  | false=>
    rw [hfull] at h5
    simp only [Bool.false_eq_true,if_false,decide_eq_true_eq] at h5
    simp only [Bool.not_false,Bool.true_and,Bool.false_eq_true,if_false]
    refine wpAny_pure ?_
    refine wpAny_pure ?_
    refine h _ (ep+1) _ hsb1 ?_ hnew
    rw [←h5];exact ho1
  | true=>
    rw [hfull] at h5
    simp only [if_true] at h5
    split at h5
    ·rename_i t2 order hrl
     simp only [Bool.and_eq_true,beq_iff_eq,decide_eq_true_eq] at h5
     obtain⟨⟨⟨h6,h7⟩,h8⟩,h9⟩:=h5
     have hm:(SetTable.insertAt es (j4 M x) (x,Value.int x tok)).map (·.1)=(W9 M x).toArray:=by
      apply Array.toList_inj.mp
      rw [Array.toList_map,hnew.hs]
     have hsz1:(SetTable.insertAt es (j4 M x) (x,Value.int x tok)).size=M.length+1:=by rw [aj7 hle,hsz]
     have hR:relayAll (t.put slot).1 (SetTable.insertAt es (j4 M x) (x,Value.int x tok)) (SetTable.grown (SetTable.insertAt es (j4 M x) (x,Value.int x tok)).size)=((SetTable.insertAt es (j4 M x) (x,Value.int x tok)),t2,false):=by
      unfold relayAll
      rw [hm,hsz1,hrl]
      dsimp only
      rw [h7,aF8 (by rw [hsz1,h6])]
      rw [if_pos (by
       rw [Bool.and_eq_true]
       refine⟨?_,?_⟩
       ·rw [h6];decide +kernel
       ·rw [hsz1,h6];exact h8)]
     simp only [Bool.not_false,Bool.true_and,if_true]
     rw [hR]
     refine wpAny_bind (wpAny_pure ?_)
     refine wpAny_bind (wpAny_storeSet_of ho1 rfl ?_ (by rw [hsz1,sizeLine_eq];omega))
     refine wpAny_pure ?_
     refine wpAny_pure ?_
     refine h _ (ep+1+1) _ (hsb1.trans (Heap.SameBut.update _ a _)) ?_ hnew
     rw [←h9];exact Heap.get?_update_self _ ho1 rfl
    ·cases h5
 ·cases hS
theorem bb6{a:Addr}{es:Array (Int×Value)}{ep:Nat}{M:List Int}{x:Int}{led:Bool}{tok:Nat}{Q:Bool->Shared->Prop}(hn:M∈sixes)(hx5:0<=x/\x<=5)(hxM:x∈M)
 (ho:s.heap.get? a=some (W5 es ep (K2 led M))) (he:EsOf es M) (h:Q false s) :
 wpAny (model prog w) A (setAddHashed a (.int x tok) ((intKind prog w).hash x)) Q E s:=by
 obtain⟨hH,hL6,hlt⟩:=y3 hn
 have hsz:es.size=M.length:=he.size
 have hE:=aF7 hn (Nat.le_refl _) led
 rw [List.take_length] at hE
 have hf:(K2 led M).fits es.size=true:=by
  unfold aq2 at hE
  simp only [Bool.and_eq_true] at hE
  rw [hsz]
  exact hE.1.1.1.1
 have hel:ElemsOf (intKind prog w) es.toList:=he.elems λx hx=>hH x hx
 have hb:es.size<scanBound:=by unfold scanBound;omega
 obtain⟨i,hi⟩:∃i,es.toList.findIdx? (λe=>(intKind prog w).is x e.2)=some i:=by
  cases hc:es.toList.findIdx? (λe=>(intKind prog w).is x e.2) with
  | some i=>exact⟨i,rfl⟩
  | none=>
    exfalso
    rw [List.findIdx?_eq_none_iff] at hc
    rw [←he.hs] at hxM
    obtain⟨e,hem,rfl⟩:=List.mem_map.mp hxM
    obtain⟨h1,t,h2⟩:=he.ent hem
    have:=hc e hem
    rw [h2] at this
    rw [intKind_is] at this
    cases this
 unfold setAddHashed setAddHashedIn
 refine wpAny_holding (wpAny_bind (wpAny_setState_of ho rfl hf ?_))
 dsimp only
 rw [byScan_of (knd:=intKind prog w) rfl hb hel]
 simp only [↓reduceIte]
 unfold setAddByScan
 refine wpAny_bind ?_
 refine wpAny_bind (wpAny_rule ?_)
 refine wpAny_bind (wpAny_setScan_of (knd:=intKind prog w) (k:=x) (intKind_is _ _ _ _) ho rfl hf hel ?_)
 rw [hi]
 dsimp only
 refine wpAny_pure ?_
 exact wpAny_pure h
theorem a05{M:List Int}{x:Int}(hn:M∈sixes)(hx:0<=x/\x<=5):aa9 M x∈sixes:=by
 unfold aa9
 by_cases h:x∈M
 ·rw [if_pos h];exact hn
 ·rw [if_neg h];exact (aA4 hn hx h).2
theorem aA6{l:List Int}(h:∀x∈l,0<=x/\x<=5):setL l∈sixes:=by
 have key:∀(l:List Int) (M:List Int),M∈sixes->(∀x∈l,0<=x/\x<=5)->l.foldl aa9 M∈sixes:=by
  intro l
  induction l with
  | nil=>intro M h _;exact h
  | cons a r ih=>intro M h h';exact ih _ (a05 h (h' a List.mem_cons_self)) λx hx=>h' x (List.mem_cons_of_mem _ hx)
 exact key l [] (by decide) h
theorem aQ7(l:List Int)(x:Int):setL (l++[x])=aa9 (setL l) x:=by
 unfold setL;rw [List.foldl_append];rfl
end
section
variable{prog:Program}{w:World}{A:Around}{R:Result->Shared->Prop}{E:Value->Shared->Prop}{s:Shared}
theorem a06{I:Addr}{fp wr:List Addr}{G:Array GenState->Array GenState->Prop}{P:Nat->Value->Prop}{St:Nat->Shared->Prop}{ns:List Int}{led:Bool}(hn:∀x∈ns,0<=x/\x<=5)
 (W:WalksS prog w A.in1 I fp wr G ns.length P St) (S:Addr) (hSf:S∉fp) (hval:∀i v,P i v->∃t,v=.int (ns.getD i 0) t) :
 ∀(k i:Nat) (s:Shared) (es:Array (Int×Value)) (ep:Nat),ns.length - i=k->i<=ns.length->St i s->
  s.heap.get? S=some (W5 es ep (K2 led (setL (ns.take i))))->EsOf es (setL (ns.take i))->
  (∀s' es' ep',Moved (S::wr) G s s'->s'.heap.get? S=some (W5 es' ep' (K2 led (setL ns)))->EsOf es' (setL ns)->R (.ok (.ret .none)) s')->
  codeAny (model prog w) A (.builtin "set.update.loop" ⟨[.ref S,.ref I],[]⟩) R s:=by
 have hSw:S∉wr:=λh=>hSf (W.sub _ h)
 have hsub:∀b∈wr,b∈S::wr:=λb hb=>List.mem_cons_of_mem _ hb
 intro k
 induction k with
 | zero=>
   intro i s es ep hk hi hst hS he hR
   have hin:i=ns.length:=by omega
   subst hin
   rw [List.take_length] at hS he
   refine codeAny_builtin F.entry_set_update_loop ?_
   rw [Around.under_plainId F.plain_set_update_loop _]
   show wpAny _ A.in1 (pyNext (.ref I)>>=_) _ _ s
   refine wpAny_bind (W.done s _ _ hst λs' hm=>?_)
   show wpAny _ A.in1 (PySem.ret Value.none) _ _ s'
   exact wpAny_pure (hR s' es ep (hm.mono hsub) (hm.heap S _ hSw hS) he)
 | succ k ih=>
   intro i s es ep hk hi hst hS he hR
   have hlt:i<ns.length:=by omega
   refine codeAny_builtin F.entry_set_update_loop ?_
   rw [Around.under_plainId F.plain_set_update_loop _]
   show wpAny _ A.in1 (pyNext (.ref I)>>=_) _ _ s
   refine wpAny_bind (W.item i s _ _ hlt hst λv s' hP hst' hm=>?_)
   obtain⟨t,rfl⟩:=hval i v hP
   have hS':=hm.heap S _ hSw hS
   show wpAny _ A.in1 (holding [Value.int (ns.getD i 0) t] (setAdd S (.int (ns.getD i 0) t))>>=_) _ _ s'
   refine wpAny_bind (wpAny_holding ?_)
   unfold setAdd
   refine wpAny_holding ?_
   refine wpAny_bind ((intKind prog w).pyHash (k:=ns.getD i 0) (intKind_is _ _ _ _) ?_)
   have hxi:ns.getD i 0=ns[i]:=by simp [hlt]
   have hx5:0<=ns.getD i 0/\ns.getD i 0<=5:=by rw [hxi];exact hn _ (List.getElem_mem hlt)
   have htk:setL (ns.take (i+1))=aa9 (setL (ns.take i)) (ns.getD i 0):=by
    rw [List.take_succ,List.getElem?_eq_getElem hlt,hxi];exact aQ7 _ _
   have hM:setL (ns.take i)∈sixes:=aA6 λx hx=>hn x (List.mem_of_mem_take hx)
   by_cases hin:ns.getD i 0∈setL (ns.take i)
   ·refine bb6 (s:={ s' with toks:=s'.toks+1 }) hM hx5 hin hS' he ?_
    have htk2:setL (ns.take (i+1))=setL (ns.take i):=by rw [htk];unfold aa9;rw [if_pos hin]
    refine wpAny_pure ⟨plainId_quiet F.plain_set_update_loop _,ih (i+1) _ es ep (by omega) hlt (W.frame _ s' _ _ hst' (Nat.le_succ _) λb hb o e=>e) (by rw [htk2];exact hS') (by rw [htk2];exact he) λs'' es'' ep'' hm'' hS'' he''=>?_⟩
    exact hR s'' es'' ep'' (Moved.trans W.gtrans ((hm.mono hsub).then_heap (Nat.le_succ _) λb o hb e=>e) hm'') hS'' he''
   ·refine bb5 (s:={ s' with toks:=s'.toks+1 }) hM hx5 hin hS' he λes' ep' h' hsb hS2 he2=>?_
    have htk2:setL (ns.take (i+1))=W9 (setL (ns.take i)) (ns.getD i 0):=by rw [htk];unfold aa9;rw [if_neg hin]
    refine wpAny_pure ⟨plainId_quiet F.plain_set_update_loop _,ih (i+1) _ es' ep' (by omega) hlt (W.frame _ s' _ _ hst' (Nat.le_succ _) λb hb o e=>?_) (by rw [htk2];exact hS2) (by rw [htk2];exact he2) λs'' es'' ep'' hm'' hS'' he''=>?_⟩
    ·rw [hsb.2 b (λh:b=S=>hSf (by rw [←h];exact hb))];exact e
    ·refine hR s'' es'' ep'' (Moved.trans W.gtrans ((hm.mono hsub).then_heap (Nat.le_succ _) λb o hb e=>?_) hm'') hS'' he''
     rw [hsb.2 b (λh:b=S=>hb (by rw [h];exact List.mem_cons_self))];exact e
set_option maxHeartbeats 3200000 in
theorem av5{l:Addr}{items:Array Value}{ns:List Int}{Q:Value->Shared->Prop}(hn:∀x∈ns,0<=x/\x<=5)
 (hh:A.handled=none) (hl:s.heap.IsList l items) (hi:IntsAre items.toList ns)
 (h:∀(h':Heap) (tk:Nat) (es:Array (Int×Value)) (ep:Nat),h'.get? s.heap.objs.size=some (W5 es ep (K2 (!w.params.followText "set-order") (setL ns)))->EsOf es (setL ns)->
  (∀b o,b<s.heap.objs.size->s.heap.get? b=some o->h'.get? b=some o)->Q (.ref s.heap.objs.size) { s with heap:=h',toks:=tk }) :
 wpAny (model prog w) A (call (.type "set") [.ref l]) Q E s:=by
 have hlen:items.size=ns.length:=by have:=hi.length;rwa [Array.length_toList] at this
 obtain⟨c,tl,hmro⟩:=PySem.F.called_set.mro
 have hmade:=PySem.F.called_set.made
 have hsub:=PySem.F.called_set.sub
 refine wpAny_call (codeAny_of_tree ?_)
 show wpAny _ _ (callAny (.type "set") _) _ _ _
 refine wpAny_pure ⟨Code.quiet_builtin _ (by decide +kernel),codeAny_builtin PySem.F.entry_type_call ?_⟩
 rw [Around.under_plain (weight_type_call_type "set" [.ref l] []) rfl]
 have h1:=PySem.F.called_set.notType
 have h2:=PySem.F.called_set.canCreate
 have hct:=PySem.F.typeCall_set_1 (.ref l)
 repeat (any_goals (first | assumption | wp_step))
 generalize hled:(!w.params.followText "set-order")=led at *
 refine codeAny_mono (ba3 (.ref l) (E:=E) (Q₁:=λobj s₁=>obj=.ref s.heap.objs.size/\s₁={ s with heap:=s.heap.push (W5 #[] 0 (.fresh 0 0 led)) }) (by rw [hled];exact⟨rfl,rfl⟩)) λr s₁ hr=>?_
 cases r with
 | error e=>exact hr
 | ok fl=>
   cases fl with
   | ret obj=>
     obtain⟨rfl,rfl⟩:=hr
     have hS:(s.heap.push (W5 #[] 0 (.fresh 0 0 led))).get? s.heap.objs.size=some (W5 #[] 0 (.fresh 0 0 led)):=Heap.get?_push_size _ rfl
     have hT:Shared.TypeIs { s with heap:=s.heap.push (W5 #[] 0 (.fresh 0 0 led)) } (.ref s.heap.objs.size) "set":=⟨_,hS,rfl⟩
     have hli:=PySem.F.called_set.init.lookup
     have hbi:=PySem.F.called_set.init.bind (.ref s.heap.objs.size)
     repeat (any_goals (first | assumption | wp_step))
     refine codeAny_mono (codeAny_call_builtin (R:=wants (λr s₂=>r=.none/\∃h' tk es ep,s₂={ s with heap:=h',toks:=tk }/\
      h'.get? s.heap.objs.size=some (W5 es ep (K2 led (setL ns)))/\EsOf es (setL ns)/\
      (∀b o,b<s.heap.objs.size->s.heap.get? b=some o->h'.get? b=some o)) E) PySem.F.called_set.init.plain PySem.F.entry_set_init (check_set_init_1 hT ?_)) λr₂ s₂ hr₂=>?_
     ·obtain⟨ol,hol,hcl,nl,hdl⟩:=hl
      obtain⟨ocls,odict,odata,oslots⟩:=ol
      simp only at hcl hdl
      subst hcl;subst hdl
      have hol':(s.heap.push (W5 #[] 0 (.fresh 0 0 led))).get? l=some { cls:=.type "list",dict:=odict,data:=.seq items nl,slots:=oslots }:=Heap.get?_push_of_some _ hol
      have hsls:=PySem.F.sub_list_set
      have hslf:=PySem.F.sub_list_frozenset
      have hne:(Value.type "list" == Value.type "dict")=false:=by decide
      have hl1:(s.heap.push (W5 #[] 0 (.fresh 0 0 led))).IsList l items:=⟨_,hol',rfl,nl,rfl⟩
      unfold Builtin.«set.__init__» noKeywords Builtin.Frozenset.updateFrom
      generalize hPI:pyIter=PI
      wp_walk
      subst hPI
      refine wpAny_pyIter_list hl1 ?_
      refine wpAny_bind (wpAny_runValue ?_)
      have hlS:l<s.heap.objs.size:=Heap.lt_size hol
      have hh3:A.in1.in1.in1.handled=none:=by simp [hh]
      have hneI:l≠(s.heap.push (W5 #[] 0 (.fresh 0 0 led))).objs.size:=by
       rw [Heap.size_push];exact Nat.ne_of_lt (Nat.lt_succ_of_lt hlS)
      have hSf:s.heap.objs.size∉[(s.heap.push (W5 #[] 0 (.fresh 0 0 led))).objs.size,l]:=by
       rw [Heap.size_push];simp only [List.mem_cons,List.mem_singleton,List.not_mem_nil,or_false,not_or]
       exact⟨Nat.ne_of_lt (Nat.lt_succ_self _),Nat.ne_of_gt hlS⟩
      have hval:∀(i:Nat) (v:Value),items[i]?=some v->∃t,v=.int (ns.getD i 0) t:=λi v hv=>
       IntsAre.int_at hi i v (by rw [Array.getElem?_toList];exact hv)
      have WW:=(Walks.list (prog:=prog) (w:=w) hh3 (s.heap.push (W5 #[] 0 (.fresh 0 0 led))).objs.size l hneI items).toS
      rw [hlen] at WW
      refine a06 (led:=led) hn WW s.heap.objs.size
       hSf hval (ns.length - 0) 0 _ #[] 0 (by omega) (Nat.zero_le _)
       ⟨⟨_,Heap.get?_push_size _ rfl,rfl,rfl⟩,(hl1.push _)⟩ (Heap.get?_push_of_some _ hS) ⟨rfl,.nil⟩ ?hR
      case hR=>
       intro s' es' ep' hm hS' he'
       obtain⟨h',g',d',tk',os'⟩:=s'
       have eg:g'=s.gens:=hm.gens
       have ed:d'=s.drawn:=hm.drawn
       have eo:os'=s.os:=hm.os
       subst eg;subst ed;subst eo
       show wpAny _ _ _ _ _ _
       refine wpAny_pure ?_
       show wpAny _ _ (PySem.ret Value.none) _ _ _
       refine wpAny_pure ⟨rfl,h',tk',es',ep',rfl,hS',he',λb o hb e=>?_⟩
       have hb1:b≠s.heap.objs.size:=Nat.ne_of_lt hb
       have hb2:b≠(s.heap.push (W5 #[] 0 (.fresh 0 0 led))).objs.size:=by
        rw [Heap.size_push];exact Nat.ne_of_lt (Nat.lt_succ_of_lt hb)
       exact hm.heap b o (by simp only [List.mem_cons,List.mem_singleton,List.not_mem_nil,or_false,not_or];exact⟨hb1,hb2⟩) (Heap.get?_push_of_some _ (Heap.get?_push_of_some _ e))
     ·cases r₂ with
      | error e=>exact hr₂
      | ok fl₂=>
        cases fl₂ with
        | ret r=>
          obtain⟨rfl,h',tk,es,ep,rfl,hS',he',hk'⟩:=hr₂
          repeat (any_goals (first | assumption | wp_step))
          exact h _ _ _ _ hS' he' hk'
        | _=>exact hr₂.elim
   | _=>exact hr.elim
end
section
variable{X:Cx}{cm:Nat->Addr}
theorem aG3{e:Expr}{d:ED}{p1 p2 q1 q2:Pos}(hcalm:X.calm=true)(he:PE X e (EvE X.K cm d))(hg1:Gl X "sorted")(hm1:X.mg "sorted" = none)(hg2:Gl X "set")(hm2:X.mg "set" = none)
 (hs2:starEach [e] X.env=(false,eval e X.env)::starEach [] X.env:=by exact E5 rfl)
 (hs1:starEach [.Call (.Name "set" p2) [e] [] q2] X.env=(false,eval (.Call (.Name "set" p2) [e] [] q2) X.env)::starEach [] X.env:=by rfl) :
 PE X (.Call (.Name "sorted" p1) [.Call (.Name "set" p2) [e] [] q2] [] q1) (EvE X.K cm (ab0 d)):=by
 intro pins s σ H Q I h
 obtain⟨ρ,A,σp,v,A',rl,rs,ev,k⟩:=h
 obtain⟨x,A1,e1,ev1⟩:=B0 ev
 refine Call_ (U1 I hg1 hm1 PyProof.Rows.boot_sorted (callWith_builtin1 (y0 hs1 ?_) hs1 rfl))
 refine Call_ (U1 I hg2 hm2 (show bootBuiltins "set" = some (.type "set") from by rfl) (callWith_type1 (y0 hs2 ?_) hs2 rfl))
 refine thn (he pins s σ H (λv H1=>∃(a:Addr) (ns:List Int),v=.ref a/\SqL X.K H1 a (ns.map V.int)/\(∀x∈ns,0<=x/\x<=5)/\∀l,H1 l=none->Q (.ref l) (upd H1 l (.lst ((setL ns).map V.int)))) I ⟨ρ,A,σp,x,A1,rl,rs,e1,λρ1 H1 v1 x1 rl1 rv1=>?_⟩) λu s1 ⟨w1,H1,I1,r1,a,ns,ew,hq,hsix,q⟩=>?_
 ·cases x with
  | ref n=>
    obtain⟨l,A2,e2,ev2⟩:=B0 ev1
    obtain⟨rfl,hA,a,xs,rfl,hn,hH,r0⟩:=P8 rl1 rv1 e2
    cases hi:J6 l with
    | none=>rw [hi] at ev2;cases ev2
    | some ns=>
      rw [hi] at ev2
      obtain⟨c,ev3⟩:=C8 ev2
      cases ev3
      rw [O0 hi] at r0
      refine⟨a,ns,rfl,by rw [←X5 r0];exact SqL.of hH,c,λD hD=>?_⟩
      have ex:Ext ρ1 H1 (ρ1++[D]) (upd H1 D (.lst ((setL ns).map V.int))):=Ext.new hD
      exact k (ρ1++[D]) _ _ (x1.trans ex) (rl1.alloc hD ⟨_,D8,RVs.ints _⟩ rfl) (.ref (by rw [←rl1.len];simp))
  | _=>cases ev1
 ·subst ew
  obtain rfl:u=Value.ref a:=r1
  obtain⟨its,ri,pl,hz⟩:=I1.list hq
  have hi:IntsAre its ns:=P6 ri
  have hsx:=aA6 hsix
  have h6:=(y3 hsx).2.1
  refine av5 hsix (I1.ok.hd hcalm) pl.isList (by simpa using hi) λh' tk es ep hS hes hold=>?_
  have I2:=I1.kept (h':=h') (t':=tk) (λb ob e=>hold b ob (Heap.lt_size e) e)
  refine Calls.call_function_entry kind_sorted plain_sorted entry_sorted (args_sorted1 _) ?_
  unfold Builtin.«sorted»
  refine wpAny_bind (m:=checkCount "sorted" 1 1 _) (wpAny_pure ?_)
  refine wpAny_bind (kdu_collect (A:=_) (ba6 hsx hes) (I2.ok.hd hcalm) hS (by rw [sizeLine_eq];omega) λhp2 tk2 acc hk hacc=>?_)
  have hacc':acc.toList=b7 X.w s1.heap.objs.size ep es:=by
   refine List.ext_getElem? λj=>?_
   rw [Array.getElem?_toList]
   cases hj:acc[j]? with
   | none=>
     have:acc.size<=j:=by simpa using hj
     rw [List.getElem?_eq_none (by rw [ab9 hes,←hacc.1];exact this)]
   | some v=>exact (hacc.2 j v hj).symm
  obtain⟨ms,hp,hI⟩:=aP8 (aj5 X.w s1.heap.objs.size ep es) hes.vs
  rw [←hacc'] at hI
  have hal:acc.toList.length=(setL ns).length:=by rw [hI.length];exact hp.length_eq
  refine wpAny_bind (wpAny_newList ?_ (by rw [hal,sizeLine_eq];omega))
  have hoL:(hp2.push (seqObj "list" acc.toList.toArray 0)).get? hp2.objs.size=some (seqObj "list" acc.toList.toArray 0):=Heap.get?_push_size _ rfl
  refine wpAny_bind (wpAny_holding (wpAny_call_entry slot_list_sort ⟨_,hoL,rfl⟩ entry_list_sort (list_sort_tree hoL hI (by omega) λout ns' h1 h2 h3=>⟨_,rfl,?_⟩) (args_list_sort _)))
  refine wpAny_pure ⟨_,rfl,?_⟩
  have e:ns'=setL ns:=aa6 (h2.trans hp) h3 ((y3 hsx).2.2.imp λh=>Int.le_of_lt h)
  subst e
  obtain⟨c,hc⟩:=sortedHeap_at (out:=out) hoL
  have I3:=I2.kept (t':=tk2) hk
  refine⟨.ref _,_,I3.laid (t':=tk2) (a:=hp2.objs.size) (o:=.lst ((setL ns).map V.int)) (λb o e2=>?_) (Nat.le_refl _) ?_,rfl,q _ (I3.hok.fresh (Nat.le_refl _))⟩
  ·have hlt:=Heap.lt_size e2
   rw [sortedHeap_old (Nat.ne_of_lt hlt) (by rw [size_push'];exact Nat.lt_succ_of_lt hlt)]
   exact Heap.get?_push_of_some _ e2
  ·refine⟨by rw [List.length_map,sizeLine_eq];omega,out.toList,c,m7 h1,?_⟩
   rw [Array.toArray_toList];exact hc
end
end Ws
namespace Ws
open PySem L2
section
variable{P:Program}{w:World}{K:PySem.W.Frag}{mg:Str->Option Value}{base:Heap}{cm:Nat->Addr}{x qual:Str}{st:Stmt}{f:Addr}{fd:FuncData}{items:Array Value}{N ps:List Str}{k:Nat}{s:SD}
theorem a07{n:Nat}(h:n+64<cLine):n+1<cLine:=Nat.lt_of_le_of_lt (Nat.add_le_add_left (by decide) _) h
theorem D5(F:L2.Fun K x qual st f fd)(S:C7 N ps (C0 st))
 (hb:∀(cdv:Value) (A:Around) (outer:List Env) (s0:Shared) (H:Hp) (E:L2.XK),Room k (A.deeper (PyProof.Rows.envOfC qual (C0 st) s0.heap.objs.size f cdv))->(A.deeper (PyProof.Rows.envOfC qual (C0 st) s0.heap.objs.size f cdv)).units+64<cLine->(A.deeper (PyProof.Rows.envOfC qual (C0 st) s0.heap.objs.size f cdv)).units+1<cLine->
  PSs (an3 CX0 P w K mg base N qual (C0 st) f cdv A outer s0 H E).nox (C4 st) (EvS K cm s)) :
 FnOk P w K mg base CX0 (k+1) f fd ps (SpF K cm (fn N.length ps.length s) ps.length):=bs4 F S λcdv A outer s0 H E hr=>hb cdv A outer s0 H E hr hr.units (a07 hr.units)
theorem bb7(F:FunD K x qual st f fd items)(S:C7 N ps (C0 st))
 (hb:∀(cdv:Value) (A:Around) (outer:List Env) (s0:Shared) (H:Hp) (E:L2.XK),Room k (A.deeper (PyProof.Rows.envOfC qual (C0 st) s0.heap.objs.size f cdv))->(A.deeper (PyProof.Rows.envOfC qual (C0 st) s0.heap.objs.size f cdv)).units+64<cLine->(A.deeper (PyProof.Rows.envOfC qual (C0 st) s0.heap.objs.size f cdv)).units+1<cLine->
  PSs (an3 CX0 P w K mg base N qual (C0 st) f cdv A outer s0 H E).nox (C4 st) (EvS K cm s)) :
 FnOk P w K mg base CX0 (k+1) f fd ps (SpF K cm (fn N.length ps.length s) ps.length):=bm7 F S λcdv A outer s0 H E hr=>hb cdv A outer s0 H E hr hr.units (a07 hr.units)
end
section
variable{X:Cx}{cm:Nat->Addr}{o value:Expr}{d e:ED}{f:Str}{pos pos':Pos}
theorem r_v(i:Nat){x:Str}(hN:X.N[i]?=some x:=by rfl)(hv:Vis X.env.scope x:=by first | exact Or.inl rfl | exact Or.inr (Or.inl rfl) | exact Or.inr (Or.inr rfl))(hd:(x == ("__debug__" : Str))=false:=by decide)
 (hcd:(x == ("__classdict__" : Str))=false:=by decide):PE X (.Name x pos) (EvE X.K cm (eVar i)):=br5 (L2.pv i hN hv hd hcd)
theorem bf9{K:PySem.W.Frag}{mg:Str->Option Value}{i:Nat}(B:K4 K mg cm)(hf:fnm i=f)(hi:i<19):∀c,c<7->NoAttr K (cm c) f:=λc h=>hf ▸ B.na c i hi h
theorem r_fb(i:Nat){mg:Str->Option Value}(B:K4 X.K mg cm)(he:PE X o (EvE X.K cm d))(hf:fnm i=f:=by rfl)(hi:i<19:=by decide)(hb:attributeBase o f X.env (eval o X.env)=eval o X.env:=by rfl):PE X (.Attribute o f pos) (EvE X.K cm (J0 d i)):=bs2 he hf hi B.cls (bf9 B hf hi) hb
theorem o2(i:Nat){mg:Str->Option Value}(B:K4 X.K mg cm)(ho:PE X o (EvE X.K cm d))(hv:PE X value (EvE X.K cm e))(hf:fnm i=f:=by rfl)(hi:i<19:=by decide)(hs:swapsWith value (some (.Attribute o f pos')) pos.line X.env=pure false:=by rfl):PS X (.Assign [.Attribute o f pos'] value pos) (EvS X.K cm (sFld d i e)):=bs3 ho hv hf hi B.cls (bf9 B hf hi) hs
theorem bn9{st:Stmt}{h₀:ExceptHandler}{hs:List ExceptHandler}{b:SD}(hx:X.xe=λ_ _=>False)(hb:PS X st (EvS X.K cm b)):PS X (.Try [st] (h₀::hs) [] [] pos) (EvS X.K cm b):=by
 intro pins s σ H D I h
 refine wpAny_Try_except (wpAny_execs_cons (wpAny_mono (hb pins s σ H D I h) (λfl s1 q=>?_) λe s1 z=>by rw [hx] at z;exact z.elim))
 cases fl with
 | next=>exact wpAny_execs_nil (wpAny_execs_nil q)
 | ret v=>exact q
 | brk=>exact q
 | cont=>exact q
end
end Ws
local macro_rules | `(tactic| walk_at "sc")=>`(tactic| exact⟨rfl,rfl,rfl,by decide +kernel,rfl,by decide +kernel,by decide +kernel⟩)
local macro_rules | `(tactic| walk_at "fb")=>`(tactic| first | exact (λ_=>rfl) | exact (λh=>nomatch h))
local macro_rules | `(tactic| walk_at "o2")=>`(tactic| first | exact Or.inl rfl | exact Or.inr rfl)
local macro_rules | `(tactic| walk_at "o3")=>`(tactic| first | exact Or.inl rfl | exact Or.inr (Or.inl rfl) | exact Or.inr (Or.inr rfl))
namespace Ws
abbrev XP:=Nat->PV->PHp->Prop
def Wp{α:Type}(m:M α)(A:PHp)(Q:α->PHp->Prop)(E:XP):Prop:=match m A with
 | .ok a A'=>Q a A'
 | .ex c v A'=>E c v A'
 | .no=>False
abbrev NoX:XP:=λ_ _ _=>False
section
variable{α β:Type}{m:M α}{f:α->M β}{A A' A1 B:PHp}{a:α}{E E':XP}{σ σ':PSt}
theorem w_eq{Q:α->PHp->Prop}(h:m A=.ok a A')(q:Q a A'):Wp m A Q E:=by unfold Wp;rw [h];exact q
theorem a08{Q:α->PHp->Prop}(h:Wp m A Q NoX):∃a A',m A=.ok a A'/\Q a A':=by
 unfold Wp at h
 cases e:m A with
 | ok a A'=>rw [e] at h;exact⟨a,A',rfl,h⟩
 | ex c v A'=>rw [e] at h;exact h.elim
 | no=>rw [e] at h;exact h.elim
theorem bb8{Q Q':α->PHp->Prop}(h:Wp m A Q E)(hq:∀a A',Q a A'->Q' a A')(he:∀c v A',E c v A'->E' c v A'):Wp m A Q' E':=by
 unfold Wp at h ⊢
 cases e:m A with
 | ok a A'=>rw [e] at h;exact hq _ _ h
 | ex c v A'=>rw [e] at h;exact he _ _ _ h
 | no=>rw [e] at h;exact h.elim
theorem w_mono{Q Q':α->PHp->Prop}(h:Wp m A Q E)(hq:∀a A',Q a A'->Q' a A'):Wp m A Q' E:=bb8 h hq λ_ _ _ z=>z
theorem ad8{Q:α->PHp->Prop}(q:Q a A):Wp (ret a) A Q E:=q
theorem C1{Q:β->PHp->Prop}(h:Wp m A (λa A1=>Wp (f a) A1 Q E) E):Wp (bnd m f) A Q E:=by
 unfold Wp at h ⊢
 unfold bnd
 cases e:m A with
 | ok a A'=>rw [e] at h;exact h
 | ex c v A'=>rw [e] at h;exact h
 | no=>rw [e] at h;exact h
theorem D9{P:Prop}{Q:α->PHp->Prop}(p:P)(h:Wp m A Q E):Wp (J4 P m) A Q E:=by rw [m8 p];exact h
variable{Q:PV->PHp->Prop}{e e1 e2 e3:ED}{es:AD}{v x y:PV}{i j:Int}{k n:Nat}{l:List PV}
theorem w_var(h:σ[k]?=some (some v))(q:Q v A):Wp (eVar k σ) A Q E:=w_eq (a:=v) (by show (eVar k σ) A=_;unfold eVar;rw [h];rfl) q
theorem w_k(q:Q v A):Wp (eK v σ) A Q E:=q
theorem w_nil{Q:List PV->PHp->Prop}(q:Q [] A):Wp (aNil σ) A Q E:=q
theorem w_cons{Q:List PV->PHp->Prop}(h:Wp (e σ) A (λx A1=>Wp (es σ) A1 (λxs A2=>Q (x::xs) A2) E) E):Wp (aCons e es σ) A Q E:=
 C1 (w_mono h λ_ _ h1=>C1 (w_mono h1 λ_ _ h2=>h2))
theorem w_tup(h:Wp (es σ) A (λxs A1=>xs.length<=LIM/\Q (.tup xs) A1) E):Wp (W3 es σ) A Q E:=C1 (w_mono h λ_ _ ⟨h1,h2⟩=>D9 h1 h2)
theorem w_lst(h:Wp (es σ) A (λxs A1=>xs.length<=LIM/\Q (.ref A1.length) (A1++[.lst xs])) E):Wp (eLst es σ) A Q E:=C1 (w_mono h λ_ _ ⟨h1,h2⟩=>D9 h1 h2)
theorem w_bin{f:OD}(h:Wp (e1 σ) A (λx A1=>Wp (e2 σ) A1 (λy A2=>Wp (f x y) A2 Q E) E) E):Wp (eBin f e1 e2 σ) A Q E:=C1 (w_mono h λ_ _ h1=>C1 h1)
theorem w_add(q:Q (.int (i+j)) A):Wp (V6 (.int i) (.int j)) A Q E:=q
theorem Z0{Q:List PV->PHp->Prop}(h:A[n]?=some (.lst l))(q:Q l A):Wp (T8 n) A Q E:=w_eq (aO1 h) q
theorem w_addL{n k:Nat}{l m:List PV}(hn:A[n]?=some (.lst l))(hk:A[k]?=some (.lst m))(hl:l.length+m.length<=LIM)(q:Q (.ref A.length) (A++[.lst (l++m)])):Wp (V6 (.ref n) (.ref k)) A Q E:=
 C1 (Z0 hn (C1 (Z0 hk (D9 hl q))))
theorem w_sub(q:Q (.int (i - j)) A):Wp (bk8 (.int i) (.int j)) A Q E:=q
theorem w_mul(h:(-(2 ^ 64)<i/\i<2 ^ 64)\/(-(2 ^ 64)<j/\j<2 ^ 64))(q:Q (.int (i*j)) A):Wp (aO0 (.int i) (.int j)) A Q E:=D9 h q
theorem w_mod(h:0<j)(q:Q (.int (i%j)) A):Wp (oMod (.int i) (.int j)) A Q E:=D9 h q
theorem w_fdiv(h:0<j/\j<1073741824)(q:Q (.int (i / j)) A):Wp (aV7 (.int i) (.int j)) A Q E:=D9 h q
theorem w_lt(q:Q (.bl (decide (i<j))) A):Wp (oLt (.int i) (.int j)) A Q E:=q
theorem w_gt(q:Q (.bl (decide (j<i))) A):Wp (oGt (.int i) (.int j)) A Q E:=q
theorem w_eqI(q:Q (.bl (decide (i=j))) A):Wp (oEq (.int i) (.int j)) A Q E:=C1 (D9 (.inr ⟨rfl,rfl⟩) q)
theorem w_neI(q:Q (.bl (!decide (i=j))) A):Wp (oNe (.int i) (.int j)) A Q E:=C1 (D9 (.inr ⟨rfl,rfl⟩) q)
theorem w_neB{b c:Bool}(q:Q (.bl (!(b == c))) A):Wp (oNe (.bl b) (.bl c)) A Q E:=C1 (D9 (.inl rfl) q)
theorem bt5{l m:List PV}(h:plain (.tup l)=true/\plain (.tup m)=true)(q:Q (.bl (W2 l m)) A):Wp (oEq (.tup l) (.tup m)) A Q E:=C1 (D9 (.inr h) q)
theorem bt6{l m:List PV}(h:plain (.tup l)=true/\plain (.tup m)=true)(q:Q (.bl (!W2 l m)) A):Wp (oNe (.tup l) (.tup m)) A Q E:=C1 (D9 (.inr h) q)
theorem bg0(hx:plain x=true)(hy:plain y=true)(q:Q (.bl (eqv x y)) A):Wp (oEq x y) A Q E:=by
 cases x with
 | ref n=>cases hx
 | _=>exact C1 (D9 (.inr ⟨hx,hy⟩) q)
theorem bt7(hx:plain x=true)(hy:plain y=true)(q:Q (.bl (!eqv x y)) A):Wp (oNe x y) A Q E:=by
 cases x with
 | ref n=>cases hx
 | _=>exact C1 (D9 (.inr ⟨hx,hy⟩) q)
theorem S6{Q:List PV->PHp->Prop}(h:A[n]?=some (.lst l))(q:Q l A):Wp (D3 n) A Q E:=w_eq (J2 h) q
theorem a09{Q:List PV->PHp->Prop}(h:A[n]?=some (.ro l))(q:Q l A):Wp (D3 n) A Q E:=w_eq (a:=l) (A':=A) (by show D3 n A=_;unfold D3;rw [h]) q
theorem bt8{n k:Nat}{l m:List PV}(hn:A[n]?=some (.lst l))(hk:A[k]?=some (.lst m))(hp:N3 l=true/\N3 m=true)(q:Q (.bl (W2 l m)) A):Wp (oEq (.ref n) (.ref k)) A Q E:=
 C1 (C1 (S6 hn (C1 (S6 hk (D9 hp q)))))
theorem w_inL(hn:A[n]?=some (.lst l))(hp:plain x=true/\N3 l=true)(q:Q (.bl (pIn x l)) A):Wp (oIn x (.ref n)) A Q E:=C1 (S6 hn (D9 hp q))
theorem bt9(hp:plain x=true/\N3 l=true)(q:Q (.bl (pIn x l)) A):Wp (oIn x (.tup l)) A Q E:=C1 (ad8 (D9 hp q))
theorem a10(hp:plain x=true/\N3 l=true)(q:Q (.bl (!pIn x l)) A):Wp (af8 x (.tup l)) A Q E:=C1 (ad8 (D9 hp q))
theorem w_isN(h:Wp (e σ) A (λx A1=>Q (.bl (ax5 x)) A1) E):Wp (aD7 e σ) A Q E:=C1 h
variable{QB:Bool->PHp->Prop}{t t1 t2:TD}{b:Bool}
theorem w_true(q:QB true A):Wp (Q4 σ) A QB E:=q
theorem w_tval(h:Wp (e σ) A (λx A1=>∃b,x=.bl b/\QB b A1) E):Wp (G0 e σ) A QB E:=C1 (w_mono h λx A1 ⟨b,hx,q⟩=>by subst hx;exact q)
theorem w_tand(h:Wp (t1 σ) A (λb A1=>(b=true->Wp (t2 σ) A1 QB E)/\(b=false->QB false A1)) E):Wp (tAnd t1 t2 σ) A QB E:=C1 (w_mono h λb A1 hq=>by
 obtain ⟨h1,h2⟩:=hq
 cases b with
 | true=>exact h1 rfl
 | false=>exact h2 rfl)
theorem w_tor(h:Wp (t1 σ) A (λb A1=>(b=true->QB true A1)/\(b=false->Wp (t2 σ) A1 QB E)) E):Wp (tOr t1 t2 σ) A QB E:=C1 (w_mono h λb A1 hq=>by
 obtain ⟨h1,h2⟩:=hq
 cases b with
 | true=>exact h1 rfl
 | false=>exact h2 rfl)
theorem w_tnot(h:Wp (t σ) A (λb A1=>QB (!b) A1) E):Wp (tNot t σ) A QB E:=C1 h
theorem w_and(h:Wp (e1 σ) A (λx A1=>∃b,x=.bl b/\((b=true->Wp (e2 σ) A1 Q E)/\(b=false->Q (.bl false) A1))) E):Wp (i9 e1 e2 σ) A Q E:=C1 (C1 (w_mono h λx A1 hq=>by
 obtain ⟨b,hx,h1,h2⟩:=hq
 subst hx
 cases b with
 | true=>exact h1 rfl
 | false=>exact h2 rfl))
theorem w_or(h:Wp (e1 σ) A (λx A1=>∃b,x=.bl b/\((b=true->Q (.bl true) A1)/\(b=false->Wp (e2 σ) A1 Q E))) E):Wp (eOr e1 e2 σ) A Q E:=C1 (C1 (w_mono h λx A1 hq=>by
 obtain ⟨b,hx,h1,h2⟩:=hq
 subst hx
 cases b with
 | true=>exact h1 rfl
 | false=>exact h2 rfl))
theorem w_ifE(h:Wp (t σ) A (λb A1=>(b=true->Wp (e1 σ) A1 Q E)/\(b=false->Wp (e2 σ) A1 Q E)) E):Wp (eIf t e1 e2 σ) A Q E:=C1 (w_mono h λb A1 hq=>by
 obtain ⟨h1,h2⟩:=hq
 cases b with
 | true=>exact h1 rfl
 | false=>exact h2 rfl)
theorem w_ixL(hn:A[n]?=some (.lst l))(hi:atI l i=some v)(q:Q v A):Wp (oIx (.ref n) (.int i)) A Q E:=C1 (S6 hn (by rw [hi];exact q))
theorem w_ixR(hn:A[n]?=some (.ro l))(hi:atI l i=some v)(q:Q v A):Wp (oIx (.ref n) (.int i)) A Q E:=C1 (a09 hn (by rw [hi];exact q))
theorem w_ixT(hi:atI l i=some v)(q:Q v A):Wp (oIx (.tup l) (.int i)) A Q E:=by
 refine w_eq (a:=v) (A':=A) ?_ q
 simp [hi]
theorem w_len(h:Wp (e σ) A (λx A1=>Wp (O5 x) A1 (λl A2=>Q (.int l.length) A2) E) E):Wp (aa3 e σ) A Q E:=C1 (w_mono h λ_ _ h1=>C1 h1)
theorem w_seqL{Q:List PV->PHp->Prop}(h:A[n]?=some (.lst l))(q:Q l A):Wp (O5 (.ref n)) A Q E:=S6 h q
theorem w_seqR{Q:List PV->PHp->Prop}(h:A[n]?=some (.ro l))(q:Q l A):Wp (O5 (.ref n)) A Q E:=a09 h q
theorem w_seqT{Q:List PV->PHp->Prop}(q:Q l A):Wp (O5 (.tup l)) A Q E:=q
theorem w_listOf(h:Wp (e σ) A (λx A1=>Wp (O5 x) A1 (λl A2=>Q (.ref A2.length) (A2++[.lst l])) E) E):Wp (u8 e σ) A Q E:=C1 (w_mono h λ_ _ h1=>C1 h1)
theorem w_tupleOf(h:Wp (e σ) A (λx A1=>∃n l,x=.ref n/\A1[n]?=some (.lst l)/\l.length<=LIM/\Q (.tup l) A1) E):Wp (v6 e σ) A Q E:=C1 (w_mono h λx A1 hq=>by
 obtain ⟨n,l,hx,h1,h2,q⟩:=hq
 subst hx
 exact C1 (S6 h1 (D9 h2 q)))
variable{QO:Option Int->PHp->Prop}{lo hi:LD}
theorem w_lno(q:QO none A):Wp (lNo σ) A QO E:=q
theorem w_lat(h:Wp (e σ) A (λx A1=>∃i,x=.int i/\QO (some i) A1) E):Wp (lAt e σ) A QO E:=C1 (w_mono h λx A1 ⟨i,hx,q⟩=>by subst hx;exact q)
theorem w_cut(h:Wp (e σ) A (λx A1=>Wp (lo σ) A1 (λl A2=>Wp (hi σ) A2 (λh A3=>(∃n xs,x=.ref n/\D3 n A3=.ok xs A3/\Q (.ref A3.length) (A3++[.lst (cut xs l h)]))\/
 ∃xs,x=.tup xs/\¬(a7 xs.length 0 l=0/\a7 xs.length xs.length h=xs.length)/\Q (.tup (cut xs l h)) A3) E) E) E):Wp (aD8 e lo hi σ) A Q E:=
 C1 (w_mono h λ_ _ h1=>C1 (w_mono h1 λ_ _ h2=>C1 (w_mono h2 λ_ _ h3=>by
  rcases h3 with ⟨n,xs,rfl,hn,q⟩ | ⟨xs,rfl,hn,q⟩
  ·exact C1 (w_eq hn q)
  ·exact D9 hn q)))
theorem ac2:∀bs:List Bool,a9 (bs.map PV.bl)=some bs
 | []=>rfl
 | b::r=>by rw [List.map_cons];show (a9 (r.map PV.bl)).map (b :: ·)=_;rw [ac2 r];rfl
theorem w_all(h:Wp (e σ) A (λx A1=>∃(n:Nat) (bs:List Bool),x=.ref n/\A1[n]?=some (.lst (bs.map PV.bl))/\Q (.bl (bs.all id)) A1) E):Wp (ay1 e σ) A Q E:=C1 (w_mono h λx A1 hq=>by
 obtain ⟨n,bs,hx,h1,q⟩:=hq
 subst hx
 refine C1 (S6 h1 ?_)
 rw [ac2];exact q)
theorem w_lenSet2(h:Wp (e σ) A (λx A1=>Wp (O5 x) A1 (λl A2=>∃ns,l=ns.map PV.int/\ns.length<1000/\Q (.int (ag5 ns)) A2) E) E):Wp (ag6 e σ) A Q E:=C1 (w_mono h λx A1 h1=>C1 (w_mono h1 λl A2 hq=>by
 obtain ⟨ns,hl,h2,q⟩:=hq
 subst hl
 rw [P7]
 exact D9 h2 q))
theorem w_append{e1 e2:ED}(h:Wp (e1 σ) A (λx A1=>∃n l,x=.ref n/\A1[n]?=some (.lst l)/\Wp (e2 σ) A1 (λv A2=>∃l2,A2[n]?=some (.lst l2)/\l2.length<LIM/\Q .non (A2.set n (.lst (l2++[v])))) E) E):Wp (m9 e1 e2 σ) A Q E:=
 C1 (w_mono h λx A1 hq=>by
  obtain ⟨n,l,hx,h1,h2⟩:=hq
  subst hx
  exact C1 (Z0 h1 (C1 (w_mono h2 λv A2 ⟨l2,h3,h4,q⟩=>C1 (Z0 h3 (D9 h4 q))))))
theorem w_fld(h:Wp (e σ) A (λx A1=>∃n c fs v,x=.ref n/\A1[n]?=some (.ins c fs)/\Z3 k fs=some v/\Q v A1) E):Wp (J0 e k σ) A Q E:=
 C1 (w_mono h λx A1 hq=>by
  obtain ⟨n,c,fs,v,hx,h1,h2,q⟩:=hq
  subst hx
  refine C1 (w_eq (a:=(c,fs)) (A':=A1) (by show i8 n A1=_;unfold i8;rw [h1]) ?_)
  show Wp (match Z3 k fs with | some v=>_ | none=>_) _ _ _
  rw [h2];exact q)
theorem w_call{f:Fun}(h:Wp (es σ) A (λvs A1=>Wp (f vs) A1 Q E) E):Wp (eCall f es σ) A Q E:=C1 h
theorem w_meth{c:Nat}{f:Fun}(h:Wp (e σ) A (λx A1=>∃n fs,x=.ref n/\A1[n]?=some (.ins c fs)/\Wp (es σ) A1 (λvs A2=>Wp (f (.ref n::vs)) A2 Q E) E) E):Wp (J5 c f e es σ) A Q E:=
 C1 (w_mono h λx A1 hq=>by
  obtain ⟨n,fs,hx,h1,h2⟩:=hq
  subst hx
  exact C1 (w_eq (a:=(c,fs)) (A':=A1) (by show i8 n A1=_;unfold i8;rw [h1]) (D9 rfl (C1 h2))))
theorem w_make{c:Nat}{f:Fun}(h:Wp (es σ) A (λvs A1=>Wp (f (.ref A1.length::vs)) (A1++[.ins c []]) (λ_ A2=>Q (.ref A1.length) A2) E) E):Wp (ad0 c f es σ) A Q E:=
 C1 (w_mono h λvs A1 h1=>C1 (w_eq (a:=.ref A1.length) (A':=A1++[.ins c []]) rfl (C1 h1)))
variable{QF:Fl->PHp->Prop}{s s1 s2:SD}{g:GD}{QS:PSt->PHp->Prop}
theorem w_pass(q:QF (.nx σ) A):Wp (sPass σ) A QF E:=q
theorem w_seq(h:Wp (s1 σ) A (λo A1=>match o with | .nx σ'=>Wp (s2 σ') A1 QF E | o=>QF o A1) E):Wp (D7 s1 s2 σ) A QF E:=C1 (w_mono h λo A1 h1=>by
 cases o with
 | nx σ'=>exact h1
 | _=>exact h1)
theorem w_exp(h:Wp (e σ) A (λ_ A1=>QF (.nx σ) A1) E):Wp (Y5 e σ) A QF E:=C1 h
theorem w_retS(h:Wp (e σ) A (λv A1=>QF (.rt v) A1) E):Wp (H8 e σ) A QF E:=C1 h
theorem w_if(h:Wp (t σ) A (λb A1=>(b=true->Wp (s1 σ) A1 QF E)/\(b=false->Wp (s2 σ) A1 QF E)) E):Wp (sIf t s1 s2 σ) A QF E:=C1 (w_mono h λb A1 hq=>by
 obtain ⟨h1,h2⟩:=hq
 cases b with
 | true=>exact h1 rfl
 | false=>exact h2 rfl)
theorem w_asg(h:Wp (e σ) A (λv A1=>Wp (g v σ) A1 (λσ' A2=>QF (.nx σ') A2) E) E):Wp (N4 e g σ) A QF E:=C1 (w_mono h λ_ _ h1=>C1 h1)
theorem w_gname(q:QS (σ.set k (some v)) A):Wp (gName k v σ) A QS E:=q
theorem w_gnil(q:QS σ A):Wp (gNil [] σ) A QS E:=q
theorem w_gcons{r:GDs}{vs:List PV}(h:Wp (g v σ) A (λσ' A1=>Wp (r vs σ') A1 QS E) E):Wp (gCons g r (v::vs) σ) A QS E:=C1 h
theorem w_gtup{r:GDs}(hl:l.length=n)(h:Wp (r l σ) A QS E):Wp (gTup n r (.tup l) σ) A QS E:=D9 hl h
theorem w_sfld(h:Wp (e2 σ) A (λv A1=>Wp (e1 σ) A1 (λx A2=>∃n c fs,x=.ref n/\A2[n]?=some (.ins c fs)/\fs.length<900/\QF (.nx σ) (A2.set n (.ins c (putFld k v fs)))) E) E):Wp (sFld e1 k e2 σ) A QF E:=
 C1 (w_mono h λv A1 h1=>C1 (w_mono h1 λx A2 hq=>by
  obtain ⟨n,c,fs,hx,h2,h3,q⟩:=hq
  subst hx
  exact C1 (w_eq (a:=(c,fs)) (A':=A2) (by show i8 n A2=_;unfold i8;rw [h2]) (D9 h3 q))))
theorem bx2{n p:Nat}{vs:List PV}(hl:vs.length=p)(h:Wp (s (start n vs)) A (λo A1=>match o with | .rt v=>Q v A1 | .nx _=>Q .non A1 | _=>False) E):Wp (fn n p s vs) A Q E:=
 D9 hl (C1 (w_mono h λo A1 h1=>by
  cases o with
  | rt v=>exact h1
  | nx σ'=>exact h1
  | bk σ'=>exact h1.elim
  | ct σ'=>exact h1.elim))
abbrev z0(P:PSt->PHp->Prop)(QF:Fl->PHp->Prop):Fl->PHp->Prop:=λo A=>match o with
 | .nx σ=>P σ A
 | .ct σ=>P σ A
 | .bk σ=>QF (.nx σ) A
 | .rt v=>QF (.rt v) A
theorem o0{J:It}{n:Nat}(P:Nat->PSt->PHp->Prop)(hend:∀σ A,P n σ A->item J n A=.ok none A/\QF (.nx σ) A)
 (hs:∀i σ A,i<n->P i σ A->∃v,item J i A=.ok (some v) A/\Wp (g v σ) A (λσ1 A1=>Wp (s σ1) A1 (z0 (P (i+1)) QF) E) E) :
 ∀k i σ A,i+k=n->P i σ A->∀m,k<m->Wp (a8 J g s m i σ) A QF E
 | _,_,_,_,_,_,0,hm=>absurd hm (Nat.not_lt_zero _)
 | 0,i,σ,A,e,h,m+1,hm=>by
   obtain rfl:i=n:=by omega
   obtain⟨h1,h2⟩:=hend σ A h
   rw [U2]
   exact C1 (w_eq h1 h2)
 | k+1,i,σ,A,e,h,m+1,hm=>by
   obtain⟨v,hv,t⟩:=hs i σ A (by omega) h
   rw [U2]
   refine C1 (w_eq hv ?_)
   refine C1 (w_mono t λσ1 A1 h1=>C1 (w_mono h1 λo A2 h2=>?_))
   cases o with
   | nx σ2=>exact o0 P hend hs k (i+1) σ2 A2 (by omega) h2 m (by omega)
   | ct σ2=>exact o0 P hend hs k (i+1) σ2 A2 (by omega) h2 m (by omega)
   | bk σ2=>exact h2
   | rt v=>exact h2
theorem aG4{it:ID}(P:Nat->PSt->PHp->Prop)(h:Wp (it σ) A (λJ A1=>∃lo n,J=.rng lo n/\P 0 σ A1/\(∀(i:Nat) σ B,i<n->P i σ B->Wp (g (.int (lo+i)) σ) B (λσ1 B1=>Wp (s σ1) B1 (z0 (P (i+1)) QF) E) E)/\∀σ B,P n σ B->QF (.nx σ) B) E) :
 Wp (g8 it g s σ) A QF E:=C1 (w_mono h λJ A1 hq=>by
 obtain ⟨lo,n,hJ,h0,hs,he⟩:=hq
 subst hJ
 exact C1 (ad8 (o0 P (λσ B hP=>⟨by simp,he σ B hP⟩) (λi σ B hi hP=>⟨_,by simp [hi],hs i σ B hi hP⟩) n 0 σ A1 (by omega) h0 (n+1) (Nat.lt_succ_self _))))
theorem a11{it:ID}(P:Nat->PSt->PHp->Prop)(h:Wp (it σ) A (λJ A1=>∃a l,J=.lst a/\P 0 σ A1/\(∀i σ B,P i σ B->D3 a B=.ok l B)/\(∀(i:Nat) v σ B,l[i]?=some v->P i σ B->Wp (g v σ) B (λσ1 B1=>Wp (s σ1) B1 (z0 (P (i+1)) QF) E) E)/\∀σ B,P l.length σ B->QF (.nx σ) B) E) :
 Wp (g8 it g s σ) A QF E:=C1 (w_mono h λJ A1 hq=>by
 obtain ⟨a,l,hJ,h0,hl,hs,he⟩:=hq
 subst hJ
 refine C1 (C1 (w_eq (hl 0 σ A1 h0) (ad8 ?_)))
 refine o0 P (λσ B hP=>⟨by show bnd (D3 a) _ B=_;rw [bnd_ok (hl _ σ B hP)];simp,he σ B hP⟩) (λi σ B hi hP=>?_) l.length 0 σ A1 (by omega) h0 (l.length+1) (Nat.lt_succ_self _)
 exact⟨l[i],by show bnd (D3 a) _ B=_;rw [bnd_ok (hl _ σ B hP),List.getElem?_eq_getElem hi];rfl,hs i l[i] σ B (List.getElem?_eq_getElem hi) hP⟩)
theorem bo0{it:ID}(P:Nat->PSt->PHp->Prop)(h:Wp (it σ) A (λJ A1=>∃l,J=.tup l/\P 0 σ A1/\(∀(i:Nat) v σ B,l[i]?=some v->P i σ B->Wp (g v σ) B (λσ1 B1=>Wp (s σ1) B1 (z0 (P (i+1)) QF) E) E)/\∀σ B,P l.length σ B->QF (.nx σ) B) E) :
 Wp (g8 it g s σ) A QF E:=C1 (w_mono h λJ A1 hq=>by
 obtain ⟨l,hJ,h0,hs,he⟩:=hq
 subst hJ
 refine C1 (ad8 ?_)
 refine o0 P (λσ B hP=>⟨by simp,he σ B hP⟩) (λi σ B hi hP=>?_) l.length 0 σ A1 (by omega) h0 (l.length+1) (Nat.lt_succ_self _)
 exact⟨l[i],by simp [hi],hs i l[i] σ B (List.getElem?_eq_getElem hi) hP⟩)
theorem aj9(P:Nat->PSt->PHp->Prop)(hs:∀m σ A,P m σ A->Wp (t σ) A (λb A1=>(b=true->Wp (s σ) A1 (z0 (λσ' A'=>∃m',m'<m/\P m' σ' A') QF) E)/\(b=false->QF (.nx σ) A1)) E) :
 ∀f m σ A,m<f->P m σ A->Wp (j3 t s f σ) A QF E
 | 0,m,σ,A,hm,_=>absurd hm (by omega)
 | f+1,m,σ,A,hm,h=>by
   rw [ad1]
   refine C1 (w_mono (hs m σ A h) λb A1 ⟨h1,h2⟩=>?_)
   cases b with
   | false=>exact h2 rfl
   | true=>
     refine C1 (w_mono (h1 rfl) λo A2 h3=>?_)
     cases o with
     | nx σ2=>obtain⟨m',hm',h4⟩:=h3;exact aj9 P hs f m' σ2 A2 (by omega) h4
     | ct σ2=>obtain⟨m',hm',h4⟩:=h3;exact aj9 P hs f m' σ2 A2 (by omega) h4
     | bk σ2=>exact h3
     | rt v=>exact h3
theorem bb9(P:Nat->PSt->PHp->Prop){m:Nat}(hm:m<10000)(h0:P m σ A)(hs:∀m σ A,P m σ A->Wp (t σ) A (λb A1=>(b=true->Wp (s σ) A1 (z0 (λσ' A'=>∃m',m'<m/\P m' σ' A') QF) E)/\(b=false->QF (.nx σ) A1)) E) :
 Wp (aE0 t s σ) A QF E:=aj9 P hs LIM m σ A (Z2 hm) h0
theorem ak0{J:It}{g:GD}{t:TD}{e:ED}{l:List PV}{QL:List PV->PHp->Prop}(P:Nat->List PV->PSt->PHp->Prop)(hit:∀i acc σ B,P i acc σ B->item J i B=.ok l[i]? B)
 (hs:∀i v acc σ B,l[i]?=some v->P i acc σ B->Wp (g v σ) B (λσ1 B1=>Wp (t σ1) B1 (λc B2=>(c=true->Wp (e σ1) B2 (λy B3=>P (i+1) (acc++[y]) σ1 B3) E)/\(c=false->P (i+1) acc σ1 B2)) E) E)
 (he:∀acc σ B,P l.length acc σ B->QL acc B):∀k i acc σ B,i<=l.length->l.length<i+k->P i acc σ B->Wp (d7 J g t e k i σ) B (λys B'=>QL (acc++ys) B') E
 | 0,i,acc,σ,B,h1,h2,_=>absurd h2 (by omega)
 | k+1,i,acc,σ,B,h1,h2,h=>by
   rw [Y6]
   refine C1 (w_eq (hit i acc σ B h) ?_)
   cases hv:l[i]? with
   | none=>
     have:l.length=i:=by have:=List.getElem?_eq_none_iff.mp hv;omega
     subst this
     show QL (acc++[]) B
     rw [List.append_nil];exact he acc σ B h
   | some v=>
     have hi:=(List.getElem?_eq_some_iff.mp hv).1
     refine C1 (w_mono (hs i v acc σ B hv h) λσ1 B1 h3=>C1 (w_mono h3 λc B2 ⟨h4,h5⟩=>?_))
     cases c with
     | true=>
       refine C1 (w_mono (h4 rfl) λy B3 h6=>C1 (w_mono (ak0 P hit hs he k (i+1) (acc++[y]) σ1 B3 hi (by omega) h6) λys B4 h7=>?_))
       show QL (acc++(y::ys)) B4
       rw [show acc++(y::ys)=acc++[y]++ys by simp];exact h7
     | false=>exact ak0 P hit hs he k (i+1) acc σ1 B2 hi (by omega) (h5 rfl)
theorem aG5{it:ID}{mk:PSt->PSt}{g:GD}{t:TD}{e:ED}(h:Wp (it σ) A (λJ A1=>∃(l:List PV) (n:Nat) (P:Nat->List PV->PSt->PHp->Prop),s8 J A1=.ok n A1/\l.length<=n/\P 0 [] (mk σ) A1/\(∀i acc σ B,P i acc σ B->item J i B=.ok l[i]? B)/\
 (∀i v acc σ B,l[i]?=some v->P i acc σ B->Wp (g v σ) B (λσ1 B1=>Wp (t σ1) B1 (λc B2=>(c=true->Wp (e σ1) B2 (λy B3=>P (i+1) (acc++[y]) σ1 B3) E)/\(c=false->P (i+1) acc σ1 B2)) E) E)/\
 ∀acc σ B,P l.length acc σ B->acc.length<=LIM/\Q (.ref B.length) (B++[.lst acc])) E):Wp (K5 it mk g t e σ) A Q E:=
 C1 (w_mono h λJ A1 ⟨l,n,P,hf,hn,h0,hit,hs,he⟩=>C1 (w_eq hf (C1 (w_mono (ak0 P hit hs (QL:=λacc B=>acc.length<=LIM/\Q (.ref B.length) (B++[.lst acc])) he (n+1) 0 [] (mk σ) A1 (Nat.zero_le _) (by omega) h0) λys B h12=>by
  obtain⟨h1,h2⟩:=h12
  rw [List.nil_append] at h1 h2
  exact D9 h1 h2))))
theorem J9{it:ID}{mk:PSt->PSt}{g:GD}{t:TD}{e:ED}{l:List PV}(S:PSt->Prop)(p:PV->Bool)(f:PV->PV)(h:Wp (it σ) A (λJ A1=>∃n,s8 J A1=.ok n A1/\l.length<=n/\l.length<=LIM/\S (mk σ)/\(∀i,item J i A1=.ok l[i]? A1)/\
 (∀v σ,v∈l->S σ->Wp (g v σ) A1 (λσ1 B1=>B1=A1/\S σ1/\Wp (t σ1) A1 (λc B2=>B2=A1/\c=p v/\(c=true->Wp (e σ1) A1 (λy B3=>B3=A1/\y=f v) E)) E) E)/\
 Q (.ref A1.length) (A1++[.lst ((l.filter p).map f)])) E):Wp (K5 it mk g t e σ) A Q E:=
 aG5 (w_mono h λJ A1 ⟨n,hf,hn,hL,h0,hit,hs,he⟩=>⟨l,n,λi acc σ B=>B=A1/\S σ/\acc=((l.take i).filter p).map f,hf,hn,⟨rfl,h0,by simp⟩,λi acc σ B ⟨h1,_⟩=>by rw [h1];exact hit i,λi v acc σ B hv hq=>by
  obtain ⟨h1,h2,h3⟩:=hq
  subst h1
  refine w_mono (hs v σ (List.mem_of_getElem? hv) h2) λσ1 B1 ⟨e1,h4,h5⟩=>?_
  subst e1
  refine w_mono h5 λc B2 ⟨e2,h6,h7⟩=>?_
  subst e2
  have tk:l.take (i+1)=l.take i++[v]:=by rw [List.take_succ,hv];rfl
  refine⟨λhc=>w_mono (h7 hc) λy B3 ⟨e3,h8⟩=>⟨e3,h4,?_⟩,λhc=>⟨rfl,h4,?_⟩⟩
  ·rw [tk,List.filter_append,List.map_append,h3,h8,List.filter_cons_of_pos (by rw [←h6];exact hc)];rfl
  ·rw [tk,List.filter_append,List.map_append,h3,List.filter_cons_of_neg (by rw [←h6,hc];simp)];simp,λacc σ B hq=>by
  obtain ⟨h1,_,h3⟩:=hq
  subst h1
  rw [List.take_of_length_le (Nat.le_refl _)] at h3
  subst h3
  exact⟨by rw [List.length_map];exact Nat.le_trans (List.length_filter_le _ _) hL,he⟩⟩)
theorem N5{n:Nat}{l:List PV}(h:A[n]?=some (.lst l)):s8 (.lst n) A=.ok l.length A:=by show bnd (D3 n) _ A=_;rw [bnd_ok (J2 h)];rfl
theorem N6{n:Nat}{l:List PV}(h:A[n]?=some (.lst l))(i:Nat):item (.lst n) i A=.ok l[i]? A:=by show bnd (D3 n) _ A=_;rw [bnd_ok (J2 h)];rfl
theorem k7(n i:Nat):item (.rng 0 n) i A=.ok ((List.range n).map λ(k:Nat)=>PV.int (k:Int))[i]? A:=by
 by_cases hi:i<n <;> simp [hi]
def g9:List PV->List PV->List PV
 | x::xs,y::ys=>.tup [x,y]::g9 xs ys
 | _,_=>[]
theorem av6:∀(l m:List PV) (i:Nat),(match l[i]?,m[i]? with | some u,some v=>some (.tup [u,v]) | _,_=>none)=(g9 l m)[i]?
 | [],m,i=>by simp [g9]
 | x::xs,[],i=>by cases h:(x::xs)[i]? <;> simp [g9]
 | x::xs,y::ys,0=>by simp [g9]
 | x::xs,y::ys,i+1=>by simpa [g9] using av6 xs ys i
theorem aA7:∀(l m:List PV),(g9 l m).length<=l.length
 | [],m=>by simp [g9]
 | x::xs,[]=>by simp [g9]
 | x::xs,y::ys=>by simpa [g9] using aA7 xs ys
theorem aQ8(l m:List PV)(i:Nat):item (.zip (.tup l) (.tup m)) i A=.ok (g9 l m)[i]? A:=by
 rw [←av6];rfl
theorem aQ9{n k:Nat}{l m:List PV}(hn:A[n]?=some (.lst l))(hk:A[k]?=some (.lst m))(i:Nat):item (.zip (.ref n) (.ref k)) i A=.ok (g9 l m)[i]? A:=by
 rw [←av6]
 show bnd (D3 n) _ A=_
 rw [bnd_ok (J2 hn)]
 show bnd (D3 k) _ A=_
 rw [bnd_ok (J2 hk)];rfl
theorem atn{α:Type}{xs:List α}{j:Nat}(h:j<xs.length):atI xs (j:Int)=some xs[j]:=by
 unfold atI ixN
 rw [if_pos (by omega),if_pos (by omega)]
 simp [h]
end
def pv(p:Int×Int):PV:=.tup [.int p.1,.int p.2]
def pvs(ps:List (Int×Int)):List PV:=ps.map pv
theorem a12(p:Int×Int):plain (pv p)=true:=rfl
theorem aq9(ps:List (Int×Int)):N3 (pvs ps)=true:=by
 rw [ag1];intro x hx;obtain⟨p,_,rfl⟩:=List.mem_map.mp hx;rfl
theorem bo1{p q:Int×Int}(h:pv p=pv q):p=q:=by
 obtain⟨a,b⟩:=p;obtain⟨c,d⟩:=q
 simp [pv] at h;simp [h]
theorem aK9(p:Int×Int)(ps:List (Int×Int)):pIn (pv p) (pvs ps)=decide (p∈ps):=by
 induction ps with
 | nil=>simp [pIn,pvs]
 | cons q r ih=>
   have e:eqv (pv q) (pv p)=decide (q=p):=by
    by_cases h:q=p
    ·subst h;simp [(aI1 (pv q) (pv q) rfl).mpr rfl]
    ·have:¬eqv (pv q) (pv p)=true:=λz=>h (bo1 ((aI1 _ _ rfl).mp z))
     simp [h,this]
   show (eqv (pv q) (pv p)||pIn (pv p) (pvs r))=_
   rw [ih,e]
   by_cases h:q=p <;> by_cases h2:p∈r <;> simp [h,h2]
   intro z;exact h z.symm
theorem S7{ps:List (Int×Int)}{v:PV}(h:v∈pvs ps):∃p∈ps,v=pv p:=by
 obtain⟨p,hp,rfl⟩:=List.mem_map.mp h;exact⟨p,hp,rfl⟩
def Z7:PV->Int
 | .tup [.int a,.int b]=>a
 | _=>0
def b8:PV->Int
 | .tup [.int a,.int b]=>b
 | _=>0
@[simp] theorem bu7(p:Int×Int):Z7 (pv p)=p.1:=rfl
@[simp] theorem bu8(p:Int×Int):b8 (pv p)=p.2:=rfl
theorem aL0(x:Int)(M:List Int):pIn (.int x) (M.map .int)=decide (x∈M):=by
 induction M with
 | nil=>rfl
 | cons a r ih=>
   have:pIn (.int x) ((a::r).map .int)=(eqv (.int a) (.int x)||pIn (.int x) (r.map .int)):=rfl
   rw [this,ih]
   show (decide (a=x)||decide (x∈r))=_
   by_cases h:a=x
   ·subst h;simp
   ·have h':¬x=a:=λz=>h z.symm
    simp [h,h']
section
variable{A:PHp}{Q:PV->PHp->Prop}{E:XP}{n:Nat}{x a b:Int}{M:List Int}{ps:List (Int×Int)}
theorem w_inIT(q:Q (.bl (decide (x∈M))) A):Wp (oIn (.int x) (.tup (M.map .int))) A Q E:=bt9 ⟨rfl,Y7 _⟩ (by rw [aL0];exact q)
theorem w_notInIT(q:Q (.bl (!decide (x∈M))) A):Wp (af8 (.int x) (.tup (M.map .int))) A Q E:=a10 ⟨rfl,Y7 _⟩ (by rw [aL0];exact q)
theorem w_inP(hn:A[n]?=some (.lst (pvs ps)))(q:Q (.bl (decide ((a,b)∈ps))) A):Wp (oIn (.tup [.int a,.int b]) (.ref n)) A Q E:=w_inL hn ⟨rfl,aq9 _⟩ (by rw [show PV.tup [.int a,.int b]=pv (a,b) from rfl,aK9];exact q)
theorem ak1(l:List Int):plain (.tup (l.map .int))=true:=by
 show (l.map PV.int).all af7=true
 rw [List.all_eq_true];intro x hx;obtain⟨y,_,rfl⟩:=List.mem_map.mp hx;rfl
theorem w_isA{QB:PV->PHp->Prop}{e:ED}{σ:PSt}{t:Ty}(h:Wp (e σ) A (λx A1=>Wp (ax6 t x) A1 (λb A2=>QB (.bl b) A2) E) E):Wp (j0 e t σ) A QB E:=C1 (w_mono h λ_ _ h1=>C1 h1)
theorem w_isTyV{QB:Bool->PHp->Prop}{t:Ty}{x:PV}{b:Bool}(h:ax6 t x A=.ok b A)(q:QB b A):Wp (ax6 t x) A QB E:=w_eq h q
theorem w_isTyL{QB:Bool->PHp->Prop}{l:List PV}(h:A[n]?=some (.lst l))(q:QB true A):Wp (ax6 .list (.ref n)) A QB E:=C1 (Z0 h q)
theorem ac3(l m:List Int):W2 (l.map .int) (m.map .int)=decide (l=m):=by
 have h:=aV9 (l.map .int) (m.map .int) (Y7 _)
 have inj:l.map PV.int=m.map PV.int↔l=m:=⟨λz=>by
  have:=congrArg J6 z
  rw [P7,P7] at this
  exact Option.some.inj this,λz=>by rw [z]⟩
 cases e:W2 (l.map .int) (m.map .int) with
 | true=>exact (decide_eq_true (inj.mp (h.mp e))).symm
 | false=>exact (decide_eq_false λz=>by rw [h.mpr (inj.mpr z)] at e;cases e).symm
theorem w_eqT0{l:List Int}(q:Q (.bl (decide (l=[]))) A):Wp (oEq (.tup (l.map .int)) (.tup [])) A Q E:=bt5 ⟨ak1 _,rfl⟩ (by rw [show ([]:List PV)=([]:List Int).map .int from rfl,ac3];exact q)
theorem w_neT0{l:List Int}(q:Q (.bl (!decide (l=[]))) A):Wp (oNe (.tup (l.map .int)) (.tup [])) A Q E:=bt6 ⟨ak1 _,rfl⟩ (by rw [show ([]:List PV)=([]:List Int).map .int from rfl,ac3];exact q)
theorem w_eqL0{n k:Nat}{l:List Int}(hn:A[n]?=some (.lst (l.map .int)))(hk:A[k]?=some (.lst []))(q:Q (.bl (decide (l=[]))) A):Wp (oEq (.ref n) (.ref k)) A Q E:=bt8 hn hk ⟨Y7 _,rfl⟩ (by rw [show ([]:List PV)=([]:List Int).map .int from rfl,ac3];exact q)
end
section
variable{A:PHp}{E:XP}{σ:PSt}{e e1 e2:ED}
theorem brT{P R:Prop}(h:P):(true=true->P)/\(true=false->R):=⟨λ_=>h,λz=>nomatch z⟩
theorem brT'{P R:Prop}(h:P):(True->P)/\(true=false->R):=⟨λ_=>h,λz=>nomatch z⟩
theorem brF'{P R:Prop}(h:R):(false=true->P)/\(True->R):=⟨λz=>(nomatch z),λ_=>h⟩
theorem brNT{P R:Prop}(h:R):((!true)=true->P)/\((!true)=false->R):=⟨λz=>(nomatch z),λ_=>h⟩
theorem brF{P R:Prop}(h:R):(false=true->P)/\(false=false->R):=⟨λz=>(nomatch z),λ_=>h⟩
theorem exL{A:PHp}{n:Nat}{l:List PV}{R:Nat->List PV->Prop}(h:A[n]?=some (.lst l))(q:R n l):∃n' l',PV.ref n=.ref n'/\A[n']?=some (.lst l')/\R n' l':=⟨n,l,rfl,h,q⟩
theorem exL1{A:PHp}{n:Nat}{l:List PV}{R:List PV->Prop}(h:A[n]?=some (.lst l))(q:R l):∃l',A[n]?=some (.lst l')/\R l':=⟨l,h,q⟩
theorem exO{A:PHp}{n c:Nat}{l:List (Nat×PV)}{R:Nat->List (Nat×PV)->Prop}(h:A[n]?=some (.ins c l))(q:R n l):∃n' l',PV.ref n=.ref n'/\A[n']?=some (.ins c l')/\R n' l':=⟨n,l,rfl,h,q⟩
theorem exO2{A:PHp}{n c:Nat}{l:List (Nat×PV)}{R:Nat->Nat->List (Nat×PV)->Prop}(h:A[n]?=some (.ins c l))(q:R n c l):∃n' c' l',PV.ref n=.ref n'/\A[n']?=some (.ins c' l')/\R n' c' l':=⟨n,c,l,rfl,h,q⟩
theorem exF{A:PHp}{n c k:Nat}{l:List (Nat×PV)}{v:PV}{R:PV->Prop}(h:A[n]?=some (.ins c l))(hv:Z3 k l=some v)(q:R v):∃n' c' l' v',PV.ref n=.ref n'/\A[n']?=some (.ins c' l')/\Z3 k l'=some v'/\R v':=⟨n,c,l,v,rfl,h,hv,q⟩
theorem exLA{A:PHp}{n:Nat}{l:List PV}{R:Nat->Prop}{R':Prop}(h:A[n]?=some (.lst l))(q:R n):(∃n' l',PV.ref n=.ref n'/\D3 n' A=.ok l' A/\R n')\/R':=.inl ⟨n,l,rfl,J2 h,q⟩
theorem exTA{l:List PV}{R:List PV->Prop}{R':Prop}(q:R l):R'\/∃l',PV.tup l=.tup l'/\R l':=.inr ⟨l,rfl,q⟩
theorem exLC{A:PHp}{n:Nat}{l:List PV}{R:Nat->List PV->Prop}{R':Prop}(h:A[n]?=some (.lst l))(q:R n l):(∃n' l',PV.ref n=.ref n'/\D3 n' A=.ok l' A/\R n' l')\/R':=.inl ⟨n,l,rfl,J2 h,q⟩
theorem exLB{A:PHp}{n:Nat}{l:List PV}{R:Nat->Prop}(h:A[n]?=some (.lst l))(q:R n):∃n' l',PV.ref n=.ref n'/\D3 n' A=.ok l' A/\R n':=⟨n,l,rfl,J2 h,q⟩
variable{QI:It->PHp->Prop}
theorem w_iseq(h:Wp (e σ) A (λx A1=>(∃n l,x=.ref n/\D3 n A1=.ok l A1/\QI (.lst n) A1)\/∃l,x=.tup l/\QI (.tup l) A1) E):Wp (V0 e σ) A QI E:=C1 (w_mono h λx A1 h1=>by
 rcases h1 with ⟨n,l,rfl,h2,q⟩ | ⟨l,rfl,q⟩
 ·exact C1 (w_eq h2 q)
 ·exact q)
theorem w_irng1(h:Wp (e σ) A (λx A1=>∃n:Nat,x=.int n/\n<=1000000/\QI (.rng 0 n) A1) E):Wp (iRng1 e σ) A QI E:=C1 (w_mono h λx A1 hq=>by
 obtain ⟨n,hx,hn,q⟩:=hq
 subst hx
 have l1:(n:Int)<=1000000:=Int.ofNat_le.mpr hn
 refine D9 ⟨Int.le_trans (by decide) (Int.natCast_nonneg n),Int.lt_of_le_of_lt l1 (by decide)⟩ (ad8 ?_)
 rw [Int.toNat_natCast];exact q)
theorem w_irng2(h:Wp (e1 σ) A (λx A1=>Wp (e2 σ) A1 (λy A2=>∃a b:Nat,x=.int a/\y=.int b/\(a<=1000000/\b<=1000000)/\QI (.rng a (b - a)) A2) E) E):Wp (iRng2 e1 e2 σ) A QI E:=
 C1 (w_mono h λx A1 h1=>C1 (w_mono h1 λy A2 hq=>by
  obtain ⟨a,b,hx,hy,hn,q⟩:=hq
  subst hx;subst hy
  have l1:(a:Int)<=1000000:=Int.ofNat_le.mpr hn.1
  have l2:(b:Int)<=1000000:=Int.ofNat_le.mpr hn.2
  refine D9 ⟨⟨Int.le_trans (by decide) (Int.natCast_nonneg a),Int.lt_of_le_of_lt l1 (by decide)⟩,Int.le_trans (by decide) (Int.natCast_nonneg b),Int.lt_of_le_of_lt l2 (by decide)⟩ (ad8 ?_)
  have:((b:Int) - a).toNat=b - a:=by omega
  rw [this];exact q))
theorem w_izip(h:Wp (e1 σ) A (λx A1=>Wp (e2 σ) A1 (λy A2=>Wp (O5 x) A2 (λ_ A3=>Wp (O5 y) A3 (λ_ A4=>QI (.zip x y) A4) E) E) E) E):Wp (a74 e1 e2 σ) A QI E:=
 C1 (w_mono h λ_ _ h1=>C1 (w_mono h1 λ_ _ h2=>C1 (w_mono h2 λ_ _ h3=>C1 h3)))
theorem w_ienm(h:Wp (e σ) A (λx A1=>∃n l,x=.ref n/\D3 n A1=.ok l A1/\QI (.enm n) A1) E):Wp (aV8 e σ) A QI E:=C1 (w_mono h λx A1 hq=>by
 obtain ⟨n,l,hx,h2,q⟩:=hq
 subst hx
 exact C1 (w_eq h2 q))
end
end Ws
local macro_rules | `(tactic| walk_at "st")=>`(tactic| first
 | assumption
 | exact Ws.get_app
 | (refine Ws.get_app_of ?_;walk_at "st")
 | (refine Ws.pre_get (by assumption) ?_;walk_at "st"))
local macro_rules | `(tactic| walk_at "lim")=>`(tactic| first
 | (refine Ws.lim_le ?_;(try simp only [List.length_map,List.length_append,List.length_cons,List.length_nil]);omega)
 | (refine Ws.Z2 ?_;(try simp only [List.length_map,List.length_append,List.length_cons,List.length_nil]);omega))
local macro_rules | `(tactic| walk_at "s1")=>`(tactic| first
 | with_reducible refine Ws.w_seq ?_
 | with_reducible refine Ws.w_asg ?_
 | with_reducible refine Ws.w_if ?_
 | with_reducible refine Ws.w_exp ?_
 | with_reducible refine Ws.w_retS ?_
 | with_reducible refine Ws.w_pass ?_
 | with_reducible refine Ws.w_sfld ?_
 | with_reducible refine Ws.w_tval ?_
 | with_reducible refine Ws.w_tand ?_
 | with_reducible refine Ws.w_tor ?_
 | with_reducible refine Ws.w_tnot ?_
 | with_reducible refine Ws.w_bin ?_
 | with_reducible refine Ws.w_and ?_
 | with_reducible refine Ws.w_or ?_
 | with_reducible refine Ws.w_ifE ?_
 | with_reducible refine Ws.w_isN ?_
 | with_reducible refine Ws.w_cons ?_
 | with_reducible refine Ws.w_tup ?_
 | with_reducible refine Ws.w_lst ?_
 | with_reducible refine Ws.w_call ?_
 | with_reducible refine Ws.w_meth ?_
 | with_reducible refine Ws.w_make ?_
 | with_reducible refine Ws.w_fld ?_
 | with_reducible refine Ws.w_len ?_
 | with_reducible refine Ws.w_listOf ?_
 | with_reducible refine Ws.w_tupleOf ?_
 | with_reducible refine Ws.w_cut ?_
 | with_reducible refine Ws.w_lat ?_
 | with_reducible refine Ws.w_append ?_
 | with_reducible refine Ws.w_isA ?_
 | with_reducible refine Ws.w_all ?_
 | with_reducible refine Ws.w_lenSet2 ?_
 | with_reducible refine Ws.w_izip ?_
 | with_reducible refine Ws.w_iseq ?_
 | with_reducible refine Ws.w_irng1 ?_
 | with_reducible refine Ws.w_irng2 ?_
 | with_reducible refine Ws.w_ienm ?_)
local macro_rules | `(tactic| walk_at "s2")=>`(tactic| first
 | ((with_reducible apply Ws.w_var);(·rfl))
 | with_reducible refine Ws.w_k ?_
 | with_reducible refine Ws.w_true ?_
 | with_reducible refine Ws.w_nil ?_
 | with_reducible refine Ws.w_gname ?_
 | with_reducible refine Ws.w_gnil ?_
 | with_reducible refine Ws.w_gcons ?_
 | ((with_reducible apply Ws.w_gtup);(·rfl))
 | with_reducible refine Ws.w_add ?_
 | with_reducible refine Ws.w_sub ?_
 | ((with_reducible apply Ws.w_mod);(·omega))
 | ((with_reducible apply Ws.w_fdiv);(·omega))
 | with_reducible refine Ws.w_lt ?_
 | with_reducible refine Ws.w_gt ?_
 | with_reducible refine Ws.w_eqI ?_
 | with_reducible refine Ws.w_neI ?_
 | with_reducible refine Ws.w_neB ?_
 | with_reducible refine Ws.w_lno ?_
 | with_reducible refine Ws.w_inIT ?_
 | with_reducible refine Ws.w_notInIT ?_
 | ((with_reducible apply Ws.w_inP);(·walk_at "st"))
 | ((with_reducible apply Ws.w_isTyL);(·walk_at "st"))
 | ((with_reducible apply Ws.w_isTyV);(·rfl))
 | with_reducible refine Ws.w_eqT0 ?_
 | with_reducible refine Ws.w_neT0 ?_
 | ((with_reducible apply Ws.w_eqL0);(·walk_at "st");(·walk_at "st"))
 | ((with_reducible refine Ws.w_seqT ?_);(try dsimp only);(try rw [List.length_map]))
 | ((with_reducible apply Ws.w_seqL);(·walk_at "st");(try dsimp only);(try rw [List.length_map]))
 | ((with_reducible apply Ws.w_seqR);(·walk_at "st"))
 | ((with_reducible apply Ws.w_ixL);(·walk_at "st");(·walk_at "ix"))
 | ((with_reducible apply Ws.w_ixR);(·walk_at "st");(·walk_at "ix"))
 | ((with_reducible apply Ws.w_ixT);(·walk_at "ix")))
local macro_rules | `(tactic| walk_at "ix")=>`(tactic| first
 | assumption
 | rfl
 | exact Ws.atl (by omega))
local macro_rules | `(tactic| walk_at "s3")=>`(tactic| first
 | with_reducible refine Ws.brT ?_
 | with_reducible refine Ws.brF ?_
 | with_reducible refine Ws.brNT ?_
 | with_reducible refine Ws.brT' ?_
 | with_reducible refine Ws.brF' ?_
 | with_reducible refine⟨_,rfl,?_⟩
 | ((with_reducible apply Ws.exL);(·walk_at "st"))
 | ((with_reducible apply Ws.exL1);(·walk_at "st"))
 | ((with_reducible apply Ws.exO);(·walk_at "st"))
 | ((with_reducible apply Ws.exO2);(·walk_at "st"))
 | ((with_reducible apply Ws.exF);(·walk_at "st");(·rfl))
 | ((with_reducible apply Ws.exLA);(·walk_at "st"))
 | ((with_reducible apply Ws.exLB);(·walk_at "st"))
 | ((with_reducible apply Ws.exLC);(·walk_at "st"))
 | with_reducible apply Ws.exTA
 | ((with_reducible refine And.intro ?h1 ?_);(case h1=>first | walk_at "lim" | omega)))
local macro_rules | `(tactic| walk_at "s")=>`(tactic| (first | walk_at "s1" | walk_at "s2" | walk_at "s3");(try dsimp only [List.set,Ws.z0]))
local macro_rules | `(tactic| walk_at "fn")=>`(tactic| (refine Ws.bx2 (by rfl) ?_;simp only [Ws.start,List.map_cons,List.map_nil,List.length_cons,List.length_nil,Nat.reduceAdd,Nat.reduceSub,List.replicate,List.cons_append,List.nil_append]))
local macro_rules | `(tactic| walk_at "go")=>`(tactic| repeat walk_at "s")
namespace Ws
def N0:Fun:=fn 1 1
 (H8 (i9 (j0 (eVar 0) .int) (bk9 (j0 (eVar 0) .bool))))
def K8:Fun:=fn 2 2
 (H8 (i9 (eCall N0 (aCons (eVar 1) aNil)) (at1 oLe oLt (eK (.int 0)) (eVar 1) (eVar 0))))
def H9:Fun:=fn 1 1
 (H8 (i9 (eCall N0 (aCons (eVar 0) aNil)) (at1 oLe oLe (eK (.int 2)) (eVar 0) (eK (.int 6)))))
def M7:Fun:=fn 2 2
 (D7 (sIf (tOr (tNot (G0 (j0 (eVar 1) .tuple))) (G0 (eBin oNe (aa3 (eVar 1)) (eK (.int 2)))))
 (H8 (eK (.bl false)))
 sPass)
 (H8 (i9 (eCall K8 (aCons (eVar 0) (aCons (eBin oIx (eVar 1) (eK (.int 0))) aNil))) (i9 (eCall K8 (aCons (eVar 0) (aCons (eBin oIx (eVar 1) (eK (.int 1))) aNil))) (eBin oNe (eBin oIx (eVar 1) (eK (.int 0))) (eBin oIx (eVar 1) (eK (.int 1))))))))
def R3:SD:=
 (sIf (tOr (tNot (G0 (eCall M7 (aCons (eVar 0) (aCons (eVar 3) aNil))))) (G0 (eBin oIn (eVar 3) (aD8 (eVar 1) lNo (lAt (eVar 2))))))
 (H8 (eVar 2))
 sPass)
def N1:SD:=g8 (aV8 (eVar 1)) (gTup 2 (gCons (gName 2) (gCons (gName 3) gNil))) R3
def G8:Fun:=fn 4 2
 (D7 N1
 (H8 (eK .non)))
def N2:Fun:=fn 3 3
 (D7 (sFld (eVar 0) 6 (eVar 1))
 (D7 (sFld (eVar 0) 7 (eIf (G0 (aD7 (eVar 2))) (eLst aNil) (u8 (eVar 2))))
 (D7 (sFld (eVar 0) 11 (v6 (J0 (eVar 0) 7)))
 (D7 (sFld (eVar 0) 12 (eK (.int 1)))
 (D7 (sFld (eVar 0) 13 ag7)
 (D7 (sFld (eVar 0) 14 ag7)
 (sFld (eVar 0) 15 ag7)))))))
def f_Keeper_init:Fun:=fn 2 2
 (sFld (eVar 0) 17 (eVar 1))
def k8:ED:=K5 (a74 (eVar 0) (aD8 (eVar 0) (lAt (eK (.int 1))) lNo)) (bst [none,none]) (gTup 2 (gCons (gName 0) (gCons (gName 1) gNil))) Q4 (eBin oLt (eVar 0) (eVar 1))
def R8:Fun:=fn 1 1
 (H8 (ay1 k8))
def f_are_leaders_c1:ED:=K5 (V0 (eVar 1)) (bst [none,some 0]) (gName 0) Q4 (eCall K8 (aCons (J0 (eVar 1) 0) (aCons (eVar 0) aNil)))
def O8:Fun:=fn 2 2
 (D7 (sIf (tOr (tNot (G0 (j0 (eVar 1) .list))) (G0 (eBin oEq (eVar 1) (eLst aNil))))
 (H8 (eK (.bl false)))
 sPass)
 (H8 (i9 (ay1 f_are_leaders_c1) (eCall R8 (aCons (eVar 1) aNil)))))
def U4:Fun:=fn 1 1
 (H8 (i9 (eCall N0 (aCons (eVar 0) aNil)) (eBin oGe (eVar 0) (eK (.int 0)))))
def k9:SD:=
 (D7 (sIf (tNot (G0 (eCall U4 (aCons (ag8 (eVar 3) (eVar 5)) aNil))))
 sNever
 sPass)
 (ap4 (eVar 4) (eVar 5) (ad3 (eVar 3) (eVar 5))))
def X7:SD:=g8 (V0 (J0 (eVar 1) 1)) (gName 5) k9
def Q0:Fun:=fn 6 4
 (D7 (sIf (tNot (G0 (eCall O8 (aCons (eVar 1) (aCons (eVar 2) aNil)))))
 sNever
 sPass)
 (D7 (N4 ag7 (gName 4))
 (D7 X7
 (D7 (sFld (eVar 0) 3 (eVar 1))
 (D7 (sFld (eVar 0) 4 (u8 (eVar 2)))
 (D7 (sFld (eVar 0) 5 (aE6 (eVar 4)))
 (D7 (sFld (eVar 0) 9 (v6 (eVar 2)))
 (sFld (eVar 0) 10 (eVar 4)))))))))
def Q1:Fun:=fn 4 3
 (D7 (sIf (tNot (G0 (eCall H9 (aCons (eVar 1) aNil))))
 sNever
 sPass)
 (D7 (N4 (eCall G8 (aCons (eVar 1) (aCons (eVar 2) aNil))) (gName 3))
 (D7 (sIf (G0 (be7 (eVar 3)))
 sNever
 sPass)
 (D7 (sFld (eVar 0) 0 (eVar 1))
 (sFld (eVar 0) 1 (ae5 (eVar 2)))))))
def R5:ED:=K5 (V0 (J0 (eVar 0) 1)) (bst [none,none,some 1]) (gTup 2 (gCons (gName 0) (gCons (gName 1) gNil))) (G0 (eBin oEq (eVar 1) (eVar 2))) (eVar 0)
def M4:Fun:=fn 2 2
 (H8 R5)
def R6:ED:=K5 (V0 (J0 (eVar 0) 1)) (bst [none,none,some 1]) (gTup 2 (gCons (gName 0) (gCons (gName 1) gNil))) (G0 (eBin oEq (eVar 0) (eVar 2))) (eVar 1)
def M5:Fun:=fn 2 2
 (H8 R6)
def f_is_chain_c1:ED:=K5 (V0 (eVar 2)) (bst [none,some 0]) (gName 0) Q4 (eCall K8 (aCons (J0 (eVar 1) 0) (aCons (eVar 0) aNil)))
def f_is_chain_c2:ED:=K5 (a74 (eVar 2) (aD8 (eVar 2) (lAt (eK (.int 1))) lNo)) (bst [none,some 0]) (gName 0) Q4 (eBin oIn (eVar 0) (J0 (eVar 1) 1))
def U5:Fun:=fn 3 3
 (D7 (sIf (tOr (G0 (eBin oEq (eVar 2) (W3 aNil))) (G0 (eBin af8 (eBin oIx (eVar 2) (eK (.int (-1)))) (eVar 1))))
 (H8 (eK (.bl false)))
 sPass)
 (D7 (sIf (tOr (G0 (eBin oLt (ag6 (eVar 2)) (aa3 (eVar 2)))) (tNot (G0 (ay1 f_is_chain_c1))))
 (H8 (eK (.bl false)))
 sPass)
 (H8 (ay1 f_is_chain_c2))))
def b9:Fun:=fn 2 2
 (H8 (i9 (eCall M7 (aCons (J0 (eVar 0) 0) (aCons (eVar 1) aNil))) (eBin oIn (eVar 1) (J0 (eVar 0) 1))))
def c5:ED:=K5 (V0 (eVar 1)) (bst [none,some 0]) (gName 0) Q4 (eCall K8 (aCons (J0 (J0 (eVar 1) 3) 0) (aCons (eVar 0) aNil)))
def O9:Fun:=fn 2 2
 (D7 (sIf (tOr (tNot (G0 (j0 (eVar 1) .tuple))) (tNot (G0 (ay1 c5))))
 (H8 (eK (.bl false)))
 sPass)
 (H8 (eCall U5 (aCons (J0 (eVar 0) 3) (aCons (J0 (eVar 0) 9) (aCons (eVar 1) aNil))))))
def R9:Fun:=fn 2 2
 (D7 (sIf (tOr (tNot (G0 (j0 (eVar 1) .tuple))) (tOr (G0 (eBin oLt (aa3 (eVar 1)) (eK (.int 2)))) (tNot (G0 (eCall b9 (aCons (J0 (eVar 0) 3) (aCons (eBin oIx (eVar 1) (eK (.int 1))) aNil)))))))
 (H8 (eK (.bl false)))
 sPass)
 (D7 (sIf (G0 (eBin oEq (aa3 (eVar 1)) (eK (.int 2))))
 (H8 (eBin oEq (eBin oIx (eVar 1) (eK (.int 0))) (eK (.str "lay"))))
 sPass)
 (D7 (sIf (tOr (G0 (eBin oNe (aa3 (eVar 1)) (eK (.int 3)))) (G0 (eBin oNe (eBin oIx (eVar 1) (eK (.int 0))) (eK (.str "say")))))
 (H8 (eK (.bl false)))
 sPass)
 (H8 (i9 (eCall O9 (aCons (eVar 0) (aCons (eBin oIx (eVar 1) (eK (.int 2))) aNil))) (eBin oEq (eBin oIx (eBin oIx (eVar 1) (eK (.int 2))) (eK (.int 0))) (eBin oIx (eBin oIx (eVar 1) (eK (.int 1))) (eK (.int 1)))))))))
def f_Ledger_turn:Fun:=fn 1 1
 (H8 (J0 (eVar 0) 12))
def P0:Fun:=fn 1 1
 (sFld (eVar 0) 12 (eBin V6 (J0 (eVar 0) 12) (eK (.int 1))))
def f_Ledger_take_lay:Fun:=fn 2 2
 (D7 (sIf (G0 (aE4 (eBin oIx (eVar 1) (eK (.int 1))) (J0 (eVar 0) 13)))
 sNever
 sPass)
 (ap4 (J0 (eVar 0) 13) (eBin oIx (eVar 1) (eK (.int 1))) (J0 (eVar 0) 12)))
def S8:Fun:=fn 2 2
 (H8 (ad3 (J0 (eVar 0) 10) (eVar 1)))
def E7:Fun:=fn 3 3
 (H8 (eBin oGt (J0 (eVar 0) 12) (eBin V6 (J5 1 S8 (J0 (eVar 0) 6) (aCons (eVar 1) aNil)) (aa3 (eVar 2)))))
def G4:Fun:=fn 2 2
 (H8 (i9 (aE4 (eVar 1) (J0 (eVar 0) 13)) (eBin oLt (ad3 (J0 (eVar 0) 13) (eVar 1)) (J0 (eVar 0) 12))))
def G5:Fun:=fn 2 2
 (H8 (i9 (aE4 (eVar 1) (J0 (eVar 0) 15)) (eBin oLt (ad3 (J0 (eVar 0) 15) (eVar 1)) (J0 (eVar 0) 12))))
def S9:SD:=
 (N4 (aD8 (eVar 2) (lAt (eK (.int 1))) lNo) (gName 2))
def O2:SD:=aE0 (tAnd (G0 (eBin oNe (eVar 2) (W3 aNil))) (G0 (eBin oIn (eBin oIx (eVar 2) (eK (.int 0))) (J0 (eVar 0) 11)))) S9
def J3:Fun:=fn 3 2
 (D7 (N4 (aD8 (eVar 1) (lAt (eK (.int 1))) lNo) (gName 2))
 (D7 O2
 (H8 (eOr (eBin oEq (eVar 2) (W3 aNil)) (J5 2 G5 (eVar 0) (aCons (eVar 2) aNil))))))
def f_Ledger_take_say:Fun:=fn 4 2
 (D7 (N4 (eBin oIx (eVar 1) (eK (.int 1))) (gName 2))
 (D7 (N4 (eBin oIx (eVar 1) (eK (.int 2))) (gName 3))
 (D7 (sIf (tNot (G0 (J5 2 G4 (eVar 0) (aCons (eVar 2) aNil))))
 sNever
 sPass)
 (D7 (sIf (G0 (J5 2 E7 (eVar 0) (aCons (eVar 2) (aCons (eVar 3) aNil))))
 sNever
 sPass)
 (D7 (sIf (tNot (G0 (J5 2 J3 (eVar 0) (aCons (eVar 3) aNil))))
 sNever
 sPass)
 (D7 (Y5 (m9 (aa8 (J0 (eVar 0) 14) (eVar 2) (eLst aNil)) (W3 (aCons (J0 (eVar 0) 12) (aCons (eVar 3) aNil)))))
 (Y5 (aa8 (J0 (eVar 0) 15) (eVar 3) (J0 (eVar 0) 12)))))))))
def K7:Fun:=fn 2 2
 (D7 (sIf (tNot (G0 (eCall R9 (aCons (J0 (eVar 0) 6) (aCons (eVar 1) aNil)))))
 sNever
 sPass)
 (sIf (G0 (eBin oEq (eBin oIx (eVar 1) (eK (.int 0))) (eK (.str "lay"))))
 (Y5 (J5 2 f_Ledger_take_lay (eVar 0) (aCons (eVar 1) aNil)))
 (Y5 (J5 2 f_Ledger_take_say (eVar 0) (aCons (eVar 1) aNil)))))
def K3:Fun:=fn 2 2
 (H8 (ag8 (J0 (eVar 0) 13) (eVar 1)))
def P1:Fun:=fn 2 2
 (H8 (u8 (aE5 (J0 (eVar 0) 14) (eVar 1) (eLst aNil))))
def T0:Fun:=fn 2 2
 (H8 (eBin oIn (eVar 1) (J0 (eVar 0) 9)))
def S3:ED:=K5 (V0 (J5 0 M4 (J0 (J0 (eVar 1) 6) 3) (aCons (J0 (eVar 0) 17) aNil))) (bst [none,some 0]) (gName 0) Q4 (W3 (aCons (eVar 0) (aCons (J0 (eVar 1) 17) aNil)))
def D0:Fun:=fn 2 2
 (H8 S3)
def O3:ED:=K5 (V0 (J5 5 D0 (eVar 0) (aCons (eVar 1) aNil))) (bst [none,some 1]) (gName 0) Q4 (J5 2 K3 (eVar 1) (aCons (eVar 0) aNil))
def E8:Fun:=fn 3 2
 (D7 (N4 O3 (gName 2))
 (D7 (sIf (G0 (eBin oIn (eK .non) (eVar 2)))
 (H8 (eK .non))
 sPass)
 (H8 (eBin V6 (eK (.int 1)) (aW0 (eVar 2) (eK (.int 0)))))))
def Q5:ED:=K5 (V0 (J5 0 M5 (J0 (J0 (eVar 1) 6) 3) (aCons (J0 (eVar 0) 17) aNil))) (bst [none,some 0]) (gName 0) Q4 (W3 (aCons (J0 (eVar 1) 17) (aCons (eVar 0) aNil)))
def E1:Fun:=fn 2 2
 (H8 Q5)
def f_Keeper_lays_c1:ED:=K5 (V0 (J5 5 E1 (eVar 0) (aCons (eVar 1) aNil))) (bst [none]) (gName 0) Q4 (W3 (aCons (eK (.str "lay")) (aCons (eVar 0) aNil)))
def P2:Fun:=fn 3 2
 (D7 (N4 (eIf (G0 (J5 1 T0 (J0 (eVar 1) 6) (aCons (J0 (eVar 0) 17) aNil))) (eK (.int 1)) (J5 5 E8 (eVar 0) (aCons (eVar 1) aNil))) (gName 2))
 (D7 (sIf (G0 (eBin oNe (J5 2 f_Ledger_turn (eVar 1) aNil) (eVar 2)))
 (H8 (eLst aNil))
 sPass)
 (H8 f_Keeper_lays_c1)))
def M3:ED:=K5 (V0 (eVar 4)) (bst [none,some 1,some 3]) (gName 0) Q4 (J5 2 E7 (eVar 1) (aCons (eVar 0) (aCons (eVar 2) aNil)))
def Q6:ED:=K5 (V0 (eVar 4)) (bst [none,some 3]) (gName 0) Q4 (W3 (aCons (eK (.str "say")) (aCons (eVar 0) (aCons (eVar 1) aNil))))
def G6:Fun:=fn 5 3
 (D7 (N4 (W3 (aCons (J0 (eVar 0) 17) aNil)) (gName 3))
 (D7 (N4 (J5 5 D0 (eVar 0) (aCons (eVar 1) aNil)) (gName 4))
 (D7 (sIf (tOr (G0 (eBin oNe (J5 2 f_Ledger_turn (eVar 1) aNil) (eVar 2))) (G0 (a75 M3)))
 (H8 (eLst aNil))
 sPass)
 (H8 Q6))))
def X8:SD:=
 (sIf (tAnd (G0 (eBin oLt (eVar 5) (J5 2 f_Ledger_turn (eVar 1) aNil))) (tAnd (G0 (eBin oEq (eBin oIx (eVar 6) (eK (.int (-1)))) (eVar 2))) (G0 (eBin af8 (J0 (eVar 0) 17) (eVar 6)))))
 (Y5 (m9 (eVar 3) (W3 (aCons (eVar 5) (aCons (eVar 6) aNil)))))
 sPass)
def f_Keeper_rows_to_say_on_l2:SD:=g8 (V0 (J5 2 P1 (eVar 1) (aCons (eVar 4) aNil))) (gTup 2 (gCons (gName 5) (gCons (gName 6) gNil))) X8
def f_Keeper_rows_to_say_on_b1:SD:=
 f_Keeper_rows_to_say_on_l2
def L4:SD:=g8 (V0 (J5 5 E1 (eVar 0) (aCons (eVar 1) aNil))) (gName 4) f_Keeper_rows_to_say_on_b1
def G3:Fun:=fn 7 3
 (D7 (N4 (eLst aNil) (gName 3))
 (D7 L4
 (H8 (eVar 3))))
def Z8:ED:=K5 (V0 (eVar 4)) (bst [none,none]) (gTup 2 (gCons (gName 0) (gCons (gName 1) gNil))) Q4 (eVar 0)
def Z9:ED:=K5 (V0 (J5 5 D0 (eVar 0) (aCons (eVar 1) aNil))) (bst [none,some 1,some 6]) (gName 0) (tNot (G0 (J5 2 E7 (eVar 1) (aCons (eVar 0) (aCons (eVar 2) aNil))))) (W3 (aCons (eK (.str "say")) (aCons (eVar 0) (aCons (eVar 2) aNil))))
def G9:Fun:=fn 7 4
 (D7 (N4 (J5 5 G3 (eVar 0) (aCons (eVar 1) (aCons (eVar 2) aNil))) (gName 4))
 (D7 (sIf (tOr (G0 (eBin oEq (eVar 4) (eLst aNil))) (G0 (eBin oNe (J5 2 f_Ledger_turn (eVar 1) aNil) (bf0 (eVar 3) (eBin V6 (eK (.int 1)) (br4 Z8))))))
 (H8 (eLst aNil))
 sPass)
 (D7 sNever
 (D7 (N4 (eBin V6 (W3 (aCons (J0 (eVar 0) 17) aNil)) (eVar 5)) (gName 6))
 (H8 Z9)))))
def f_Keeper_says_b1:SD:=
 (sIf (G0 (eBin oEq (eVar 4) (J0 (eVar 0) 17)))
 (Y5 (ae6 (eVar 3) (J5 5 G6 (eVar 0) (aCons (eVar 1) (aCons (eVar 2) aNil)))))
 (Y5 (ae6 (eVar 3) (J5 5 G9 (eVar 0) (aCons (eVar 1) (aCons (eVar 4) (aCons (eVar 2) aNil)))))))
def U6:SD:=g8 (V0 (J0 (J0 (eVar 1) 6) 9)) (gName 4) f_Keeper_says_b1
def P3:Fun:=fn 5 2
 (D7 (N4 (J5 5 E8 (eVar 0) (aCons (eVar 1) aNil)) (gName 2))
 (D7 (sIf (G0 (aD7 (eVar 2)))
 (H8 (eLst aNil))
 sPass)
 (D7 (N4 (eLst aNil) (gName 3))
 (D7 U6
 (H8 (eVar 3))))))
def N7:Fun:=fn 2 2
 (H8 (eBin V6 (J5 5 P2 (eVar 0) (aCons (eVar 1) aNil)) (J5 5 P3 (eVar 0) (aCons (eVar 1) aNil))))
def K0:Fun:=fn 2 2
 (D7 (sIf (G0 (eBin oLt (eVar 1) (aa3 (eVar 0))))
 (H8 (eBin oIx (eVar 0) (eVar 1)))
 sPass)
 (H8 (eK (.int 0))))
def X9(rec:Fun):ED:=K5 (iRng1 (aa3 (eVar 1))) (bst [none,some 0,some 1]) (gName 0) Q4 (eCall rec (aCons (eBin oIx (eVar 1) (eVar 0)) (aCons (eBin oIx (eVar 2) (eVar 0)) aNil)))
def C9(rec:Fun):Fun:=fn 2 2
 (D7 (sIf (G0 (aD7 (eVar 1)))
 (H8 (aD7 (eVar 0)))
 sPass)
 (D7 (sIf (G0 (j0 (eVar 1) .bool))
 (H8 (i9 (j0 (eVar 0) .bool) (eBin oEq (eVar 0) (eVar 1))))
 sPass)
 (D7 (sIf (G0 (j0 (eVar 1) .int))
 (H8 (i9 (j0 (eVar 0) .int) (i9 (bk9 (j0 (eVar 0) .bool)) (eBin oEq (eVar 0) (eVar 1)))))
 sPass)
 (D7 (sIf (G0 (at6 (eVar 1)))
 (H8 (i9 (at6 (eVar 0)) (eBin oEq (eVar 0) (eVar 1))))
 sPass)
 (D7 (sIf (tOr (G0 (eBin oNe (j0 (eVar 1) .tuple) (j0 (eVar 0) .tuple))) (G0 (eBin oNe (j0 (eVar 1) .list) (j0 (eVar 0) .list))))
 (H8 (eK (.bl false)))
 sPass)
 (D7 (sIf (G0 (eBin oNe (aa3 (eVar 0)) (aa3 (eVar 1))))
 (H8 (eK (.bl false)))
 sPass)
 (H8 (ay1 (X9 rec)))))))))
def a6:Fun:=λ_=>stuck
def o6:Fun:=C9 a6
def o7:Fun:=C9 o6
def o8:Fun:=C9 o7
def o9:Fun:=C9 o8
def l3:Fun:=C9 o9
def f_law_mixed:Fun:=fn 3 2
 (D7 (N4 (eBin oMod (eBin aO0 (eBin V6 (eBin V6 (eVar 0) (eBin aO0 (eK (.int 7919)) (eVar 1))) (eK (.int 1))) (eK (.int 48271))) (eK (.int 2147483647))) (gName 2))
 (H8 (eBin oMod (eBin aO0 (eVar 2) (eBin V6 (eBin aV7 (eVar 2) (eK (.int 1009))) (eK (.int 69621)))) (eK (.int 2147483647)))))
def T1:ED:=K5 (iRng1 (eVar 1)) (bst [none,some 0]) (gName 0) Q4 (W3 (aCons (eCall f_law_mixed (aCons (eVar 1) (aCons (eBin V6 (eK (.int 20)) (eVar 0)) aNil))) (aCons (eVar 0) aNil)))
def T3:ED:=K5 (iRng1 (eVar 1)) (bst [none,some 2]) (gName 0) Q4 (W3 (aCons (eBin oIx (eBin oIx (eVar 1) (eBin bk8 (eVar 0) (eK (.int 1)))) (eK (.int 1))) (aCons (eBin oIx (eBin oIx (eVar 1) (eVar 0)) (eK (.int 1))) aNil)))
def f_law_passings_b2:SD:=
 (D7 (N4 (eCall f_law_mixed (aCons (eVar 0) (aCons (eBin V6 (eBin V6 (eK (.int 40)) (eBin aO0 (eK (.int 6)) (eVar 5))) (eVar 6)) aNil))) (gName 7))
 (sIf (tAnd (G0 (eBin oNe (eVar 5) (eVar 6))) (tOr (G0 (eBin oIn (W3 (aCons (eVar 5) (aCons (eVar 6) aNil))) (eVar 3))) (G0 (eBin oEq (eBin oMod (eVar 7) (eK (.int 3))) (eK (.int 0))))))
 (Y5 (m9 (eVar 4) (W3 (aCons (eVar 5) (aCons (eVar 6) aNil)))))
 sPass))
def T4:SD:=g8 (iRng1 (eVar 1)) (gName 6) f_law_passings_b2
def f_law_passings_b1:SD:=
 T4
def T6:SD:=g8 (iRng1 (eVar 1)) (gName 5) f_law_passings_b1
def N8:Fun:=fn 8 2
 (D7 (N4 (ae5 T1) (gName 2))
 (D7 (N4 T3 (gName 3))
 (D7 (N4 (eLst aNil) (gName 4))
 (D7 T6
 (H8 (eVar 4))))))
def p5:ED:=K5 (iRng1 (eVar 1)) (bst [none,some 0]) (gName 0) (G0 (eBin oEq (eBin bl2 (eBin bl1 (eVar 1) (eVar 0)) (eK (.int 1))) (eK (.int 1)))) (eVar 0)
def U7:Fun:=fn 2 2
 (H8 p5)
def M8:Fun:=fn 2 2
 (D7 (Y5 (J5 2 K7 (eVar 0) (aCons (eVar 1) aNil)))
 (H8 (eK (.bl true))))
def ak2:ED:=K5 (aV8 (eVar 3)) (bst [none,none,some 6,some 1]) (gTup 2 (gCons (gName 0) (gCons (gName 1) gNil))) Q4 (W3 (aCons (eVar 1) (aCons (eBin V6 (eVar 2) (eBin oMod (eCall f_law_mixed (aCons (eVar 3) (aCons (eBin V6 (eK (.int 60)) (eVar 0)) aNil))) (eK (.int 3)))) aNil)))
def ak3:ED:=K5 (iRng1 (eVar 2)) (bst [none,some 4]) (gName 0) (G0 (eBin oNe (eVar 0) (eVar 1))) (eVar 0)
def f_law_b1:SD:=
 (sIf (G0 (eBin oNe (eBin oIx (eVar 12) (eK (.int 0))) (eVar 4)))
 (ap4 (eVar 10) (eVar 12) (eBin V6 (eK (.int 1)) (eBin oMod (eCall f_law_mixed (aCons (eCall K0 (aCons (eVar 0) (aCons (eK (.int 1)) aNil))) (aCons (eVar 11) aNil))) (eBin oIx (eLst (aCons (eK (.int 1)) (aCons (eK (.int 2)) (aCons (eK (.int 4)) (aCons (eK (.int 9)) aNil))))) (eBin oMod (eCall f_law_mixed (aCons (eVar 1) (aCons (eK (.int 3)) aNil))) (eK (.int 4)))))))
 sPass)
def ak4:SD:=g8 (aV8 (eVar 3)) (gTup 2 (gCons (gName 11) (gCons (gName 12) gNil))) f_law_b1
def ak5:ED:=K5 (V0 (eVar 3)) (bst [none,some 4]) (gName 0) (G0 (eBin oEq (eBin oIx (eVar 0) (eK (.int 1))) (eVar 1))) (eVar 0)
def ak6:ED:=K5 (V0 (eVar 13)) (bst [none,some 10]) (gName 0) Q4 (ad3 (eVar 1) (eVar 0))
def ak7:ED:=K5 (V0 (eVar 13)) (bst [none,some 4]) (gName 0) Q4 (W3 (aCons (eK (.str "say")) (aCons (eVar 0) (aCons (W3 (aCons (eVar 1) aNil)) aNil))))
def ak8:ED:=K5 (V0 (eVar 13)) (bst [none,some 14,some 7]) (gName 0) Q4 (eBin oGt (eVar 1) (eBin V6 (ad3 (eVar 2) (eVar 0)) (eK (.int 1))))
def ak9:ED:=K5 (V0 (eVar 17)) (bst [none]) (gName 0) (G0 (eBin oEq (eBin oIx (eVar 0) (eK (.int 0))) (eK (.str "say")))) (eVar 0)
def al0:ED:=K5 (V0 (eVar 3)) (bst [none,some 10,some 16]) (gName 0) (G0 (eBin oEq (ag8 (eVar 1) (eVar 0)) (eVar 2))) (W3 (aCons (eK (.str "lay")) (aCons (eVar 0) aNil)))
def f_law_b3:SD:=
 (sIf (tNot (G0 (eCall M8 (aCons (eVar 8) (aCons (eVar 19) aNil)))))
 (H8 (eK (.bl false)))
 sPass)
def al1:SD:=g8 (V0 (eBin V6 (eVar 17) al0)) (gName 19) f_law_b3
def f_law_b2:SD:=
 (D7 (N4 (J5 5 N7 (eVar 9) (aCons (eVar 8) aNil)) (gName 17))
 (D7 (N4 ak9 (gName 18))
 (D7 (sIf (tNot (G0 (eCall l3 (aCons (eVar 18) (aCons (eBin oIx (eLst (aCons (eLst aNil) (aCons (eVar 15) aNil))) (aW3 (eBin oEq (eVar 16) (eVar 14)))) aNil)))))
 (H8 (eK (.bl false)))
 sPass)
 (D7 al1
 (Y5 (J5 2 P0 (eVar 8) aNil))))))
def al2:SD:=g8 (iRng2 (eK (.int 1)) (eBin V6 (eBin V6 (eK (.int 1)) (eK (.int 2))) (eBin oMod (eCall K0 (aCons (eVar 0) (aCons (eK (.int 2)) aNil))) (eK (.int 9))))) (gName 16) f_law_b2
def aL1:Fun:=fn 20 1
 (D7 (N4 (eCall K0 (aCons (eVar 0) (aCons (eK (.int 0)) aNil))) (gName 1))
 (D7 (N4 (eBin V6 (eK (.int 2)) (eBin oMod (eCall f_law_mixed (aCons (eVar 1) (aCons (eK (.int 0)) aNil))) (eK (.int 4)))) (gName 2))
 (D7 (N4 (eCall N8 (aCons (eVar 1) (aCons (eVar 2) aNil))) (gName 3))
 (D7 (N4 (eBin oMod (eCall f_law_mixed (aCons (eVar 1) (aCons (eK (.int 2)) aNil))) (eVar 2)) (gName 4))
 (D7 (N4 (ab0 (eBin V6 (eCall U7 (aCons (eCall f_law_mixed (aCons (eVar 1) (aCons (eK (.int 1)) aNil))) (aCons (eVar 2) aNil))) (eLst (aCons (eVar 4) aNil)))) (gName 5))
 (D7 (N4 (eBin oIx (eLst (aCons (eK (.int 0)) (aCons (eK (.int 2)) (aCons (eK (.int 3)) (aCons (eK (.int 5)) aNil))))) (eBin oMod (eCall f_law_mixed (aCons (eVar 1) (aCons (eK (.int 4)) aNil))) (eK (.int 4)))) (gName 6))
 (D7 (N4 (ah1 ak2) (gName 7))
 (D7 (N4 (ad0 2 N2 (aCons (ad0 1 Q0 (aCons (ad0 0 Q1 (aCons (eVar 2) (aCons (eVar 3) aNil))) (aCons (eVar 5) (aCons (eVar 7) aNil)))) (aCons ak3 aNil))) (gName 8))
 (D7 (N4 (ad0 5 f_Keeper_init (aCons (eVar 4) aNil)) (gName 9))
 (D7 (N4 ag7 (gName 10))
 (D7 ak4
 (D7 (N4 ak5 (gName 13))
 (D7 (N4 (eBin V6 (eK (.int 1)) (bl0 ak6)) (gName 14))
 (D7 (N4 ak7 (gName 15))
 (D7 (sIf (G0 (a75 ak8))
 (N4 (eLst aNil) (gName 15))
 sPass)
 (D7 al2
 (H8 (eK (.bl true)))))))))))))))))))
@[simp] theorem bg1(i:Int)(A:PHp):N0 [.int i] A=.ok (.bl true) A:=by simp [N0]
theorem is_hand_eq(n h:Int)(A:PHp):K8 [.int n,.int h] A=.ok (.bl (decide (0<=h/\h<n))) A:=by
 by_cases h0:0<=h <;> simp [K8,h0]
theorem av7(n:Int)(A:PHp):H9 [.int n] A=.ok (.bl (decide (2<=n/\n<=6))) A:=by
 by_cases h0:2<=n <;> simp [H9,h0]
def good(n:Int)(p:Int×Int):Prop:=(0<=p.1/\p.1<n)/\(0<=p.2/\p.2<n)/\p.1≠p.2
instance (n:Int) (p:Int×Int):Decidable (good n p):=by unfold good;infer_instance
theorem p6(n:Int)(p:Int×Int)(A:PHp):M7 [.int n,pv p] A=.ok (.bl (decide (good n p))) A:=by
 by_cases h0:0<=p.1/\p.1<n <;> by_cases h1:0<=p.2/\p.2<n <;> simp [M7,pv,good,atI,ixN,plain,eqv,is_hand_eq,h0,h1]
structure V5(n:Int)(ps:List (Int×Int)):Prop where
 lo:2<=n
 hi:n<=6
 good:∀p∈ps,good n p
 nd:ps.Nodup
 len:ps.length<64
theorem bo2{α:Type}(xs:List α)(i:Nat):cut xs none (some (i:Int))=xs.take i:=by
 unfold cut a7
 simp only [List.drop_zero,Nat.sub_zero]
 rw [if_neg (by omega)]
 rw [show (min (i:Int) (xs.length:Int)).toNat=min i xs.length by omega,List.take_eq_take_iff]
 omega
theorem al3{n:Int}{ps:List (Int×Int)}(W:V5 n ps){A:PHp}{r:Nat}(hr:A[r]?=some (.lst (pvs ps))) :
 ∃A',G8 [.int n,.ref r] A=.ok .non A'/\A<+:A':=by
 have hl:Comes (N1 [some (.int n),some (.ref r),none,none] A) (λσ A'=>A<+:A') (λ_ _=>False):=by
  unfold N1
  refine (a73 (l:=pvs ps) (a:=r) (A1:=A) (by simp [hr]) (λi σ A'=>A<+:A'/\∃x y,σ=[some (.int n),some (.ref r),x,y]) (λ_ _=>False) ⟨List.prefix_refl _,_,_,rfl⟩ ?_ ?_).mono (λ_ _ h=>h.1) (λ_ _ h=>h)
  ·rintro i σ A' ⟨hp,_⟩
   simp [pre_get hp hr]
  ·rintro i v σ A' hv ⟨hp,x,y,rfl⟩
   have hr':=pre_get hp hr
   obtain⟨p,hp1,rfl⟩:∃p,ps[i]?=some p/\v=pv p:=by
    simp only [pvs,List.getElem?_map] at hv
    cases e:ps[i]? with
    | none=>rw [e] at hv;cases hv
    | some p=>rw [e] at hv;exact⟨p,rfl,(Option.some.inj hv).symm⟩
   have hmem:p∈ps:=List.mem_of_getElem? hp1
   have hg:=W.good p hmem
   have hnin:p∉ps.take i:=by
    intro hm
    have hlt:=(List.getElem?_eq_some_iff.mp hp1).1
    obtain⟨j,hj,e⟩:=List.mem_iff_getElem.mp hm
    rw [List.length_take] at hj
    rw [List.getElem_take] at e
    have e2:ps[i]=p:=(List.getElem?_eq_some_iff.mp hp1).2
    exact List.pairwise_iff_getElem.mp W.nd j i (by omega) hlt (by omega) (e.trans e2.symm)
   have hc:cut (pvs ps) none (some (i:Int))=pvs (ps.take i):=by rw [bo2];simp [pvs,List.map_take]
   refine Turns.nx (σ:=[some (.int n),some (.ref r),some (.int i),some (pv p)]) (A:=A'++[.lst (pvs (ps.take i))]) ?_ ⟨U8 hp,_,_,rfl⟩
   simp [R3,p6,hg,hr',hc,a12,aq9,aK9,hnin]
 obtain⟨σ,A',e,h⟩:=hl.end
 refine⟨A',?_,h⟩
 simp [G8,e]
def l2(p:Int×Int):List Int:=[p.1,p.2]
def ltP(p q:Int×Int):Bool:=E6 (l2 p) (l2 q)
def srt(ps:List (Int×Int)):List (Int×Int):=G1 ltP ps
theorem ar0{α β:Type}(f:α->β)(lt:β->β->Bool)(a:α):∀l:List α,g6 lt (f a) (l.map f)=(g6 (λx y=>lt (f x) (f y)) a l).map f
 | []=>rfl
 | b::r=>by
   have ih:=ar0 f lt a r
   simp only [List.map_cons,g6]
   split
   ·rw [ih];rfl
   ·rfl
theorem al4{α β:Type}(f:α->β)(lt:β->β->Bool):∀l:List α,G1 lt (l.map f)=(G1 (λx y=>lt (f x) (f y)) l).map f
 | []=>rfl
 | a::r=>by
   simp only [List.map_cons,G1]
   rw [al4 f lt r,ar0]
theorem a13(ps:List (Int×Int)):pvs ps=(ps.map l2).map λt=>PV.tup (t.map .int):=by
 simp [pvs,pv,l2]
theorem aG6{ps:List (Int×Int)}{A:PHp}(h:ps.length<64):d6 (pvs ps) A=.ok (pvs (srt ps)) A:=by
 rw [a13,u9 (by simpa using h) (by intro t ht;obtain⟨p,_,rfl⟩:=List.mem_map.mp ht;simp [l2]),al4,a13]
 rfl
theorem R4(ps:List (Int×Int)):(srt ps).Perm ps:=M6 _ _
structure WebAt(A:PHp)(w r:Nat)(n:Int)(ps:List (Int×Int)):Prop where
 ob:A[w]?=some (.ins 0 [(0,.int n),(1,.ref r)])
 ls:A[r]?=some (.lst (pvs (srt ps)))
theorem WebAt.mono{A B:PHp}{w r:Nat}{n:Int}{ps:List (Int×Int)}(h:WebAt A w r n ps)(e:A<+:B):WebAt B w r n ps:=⟨pre_get e h.ob,pre_get e h.ls⟩
theorem a14{n:Int}{ps:List (Int×Int)}(W:V5 n ps){A B:PHp}{w q:Nat}(hA:A<+:B)(hw:A.length<=w)(ho:B[w]?=some (.ins 0 []))(hq:B[q]?=some (.lst (pvs ps))) :
 ∃B' r,Q1 [.ref w,.int n,.ref q] B=.ok .non B'/\A<+:B'/\WebAt B' w r n ps/\w<r:=by
 obtain⟨B1,e1,h1⟩:=al3 W hq
 have ho1:=pre_get h1 ho
 have hq1:=pre_get h1 hq
 have hwl:=J1 ho1
 have nqw:q≠w:=by rintro rfl;rw [hq] at ho;cases ho
 have hq2:(B1.set w (.ins 0 [(0,.int n)]))[q]?=some (.lst (pvs ps)):=by rw [G7 nqw];exact hq1
 have ho2:(B1.set w (.ins 0 [(0,.int n)]))[w]?=some (.ins 0 [(0,.int n)]):=get_set ho1
 have ho3:=get_app_of (o:=PO.lst (pvs (srt ps))) ho2
 refine⟨((B1.set w (PO.ins 0 [(0,.int n)]))++[PO.lst (pvs (srt ps))]).set w (PO.ins 0 [(0,.int n),(1,.ref B1.length)]),B1.length,?_,?_,⟨get_set ho3,?_⟩,hwl⟩
 ·simp [Q1,av7,W.lo,W.hi,e1,ho1,ho2,hq2,ho3,aG6 W.len]
 ·exact W4 (U8 (W4 (hA.trans h1) hw)) hw
 ·rw [G7 (Nat.ne_of_gt hwl)]
  have:=get_app (A:=B1.set w (.ins 0 [(0,.int n)])) (o:=.lst (pvs (srt ps)))
  rwa [List.length_set] at this
theorem a15{n:Int}{ps:List (Int×Int)}(W:V5 n ps){A:PHp}{q:Nat}(hq:A[q]?=some (.lst (pvs ps))) :
 ∃A' r,Q1 [.ref A.length,.int n,.ref q] (A++[.ins 0 []])=.ok .non A'/\A<+:A'/\WebAt A' A.length r n ps/\A.length<r:=
 a14 W (List.prefix_append _ _) (Nat.le_refl _) get_app (get_app_of hq)
def l4(ps:List (Int×Int))(h:Int):List Int:=(ps.filter λp=>decide (p.2=h)).map (·.1)
def l5(ps:List (Int×Int))(h:Int):List Int:=(ps.filter λp=>decide (p.1=h)).map (·.2)
theorem bo3(ps:List (Int×Int))(h:Int):((pvs ps).filter λv=>decide (b8 v=h)).map (λv=>PV.int (Z7 v))=(l4 ps h).map .int:=by
 simp only [pvs,l4,List.filter_map,List.map_map];rfl
theorem bo4(ps:List (Int×Int))(h:Int):((pvs ps).filter λv=>decide (Z7 v=h)).map (λv=>PV.int (b8 v))=(l5 ps h).map .int:=by
 simp only [pvs,l5,List.filter_map,List.map_map];rfl
theorem a16{α:Type}{xs:List α}{j:Nat}(h:j<xs.length):atI xs (j:Int)=some xs[j]:=by
 unfold atI ixN
 rw [if_pos (by omega),if_pos (by omega)]
 simp [h]
theorem aA8{α:Type}(xs:List α)(i:Nat):cut xs (some (i:Int)) none=xs.drop i:=by
 unfold cut a7
 simp only
 rw [if_neg (by omega)]
 rw [show (min (i:Int) (xs.length:Int)).toNat=min i xs.length by omega]
 by_cases h:i<=xs.length
 ·rw [Nat.min_eq_left h,List.take_of_length_le (by simp)]
 ·rw [Nat.min_eq_right (by omega),List.drop_length,List.drop_eq_nil_of_le (by omega)];simp
def Y0(N:Nat):List Int:=(List.range N).map λ(k:Nat)=>(k:Int)
theorem mem_hands{N:Nat}{x:Int}:x∈Y0 N↔0<=x/\x<N:=by
 unfold Y0
 rw [List.mem_map]
 constructor
 ·rintro⟨k,hk,rfl⟩
  have:=List.mem_range.mp hk
  omega
 ·rintro⟨h1,h2⟩
  exact⟨x.toNat,List.mem_range.mpr (by omega),by omega⟩
theorem hands_len(N:Nat):(Y0 N).length=N:=by simp [Y0]
theorem z5(N:Nat):(Y0 N).Pairwise (·< ·):=by
 unfold Y0
 rw [List.pairwise_map]
 exact List.pairwise_lt_range.imp λh=>by omega
theorem a17(N:Nat):(Y0 N).Nodup:=(z5 N).imp λh z=>by omega
section
variable{A:PHp}{Q:PV->PHp->Prop}{E:XP}{σ:PSt}{i j:Int}{n k:Nat}{e e1 e2 e3 e4:ED}
theorem w_shr(h:0<=j)(q:Q (.int (i / 2 ^ j.toNat)) A):Wp (bl1 (.int i) (.int j)) A Q E:=D9 h q
theorem w_andB(q:Q (.int (PySem.Builtin.bitAnd i j)) A):Wp (bl2 (.int i) (.int j)) A Q E:=q
theorem w_max(h:Wp (e σ) A (λx A1=>∃(n:Nat) (i:Int) (r:List Int),x=.ref n/\A1[n]?=some (.lst ((i::r).map .int))/\Q (.int (V2 i r)) A1) E):Wp (bl0 e σ) A Q E:=
 C1 (w_mono h λx A1 hq=>by
  obtain ⟨n,i,r,hx,h0,q⟩:=hq
  subst hx
  refine C1 (S6 h0 ?_)
  rw [P7]
  exact q)
def bu0(d:PV):List Int->PV
 | []=>d
 | i::r=>.int (V2 i r)
theorem w_maxD(h:Wp (e1 σ) A (λx A1=>Wp (e2 σ) A1 (λd A2=>∃(n:Nat) (ns:List Int),x=.ref n/\A2[n]?=some (.lst (ns.map .int))/\Q (bu0 d ns) A2) E) E):Wp (aW0 e1 e2 σ) A Q E:=
 C1 (w_mono h λx A1 h1=>C1 (w_mono h1 λd A2 hq=>by
  obtain ⟨n,ns,hx,h0,q⟩:=hq
  subst hx
  refine C1 (S6 h0 ?_)
  rw [P7]
  cases ns with
  | nil=>exact q
  | cons i r=>exact q))
abbrev DT:=List (List Int×PV)
variable{m:DT}
theorem q9{QM:DT->PHp->Prop}(h:A[n]?=some (.dT m))(q:QM m A):Wp (V9 n) A QM E:=w_eq (a:=m) (by unfold V9;rw [h]) q
theorem w_tnew(q:Q (.ref A.length) (A++[.dT []])):Wp (ag7 σ) A Q E:=q
theorem w_tin(h:Wp (e1 σ) A (λk A1=>Wp (e2 σ) A1 (λx A2=>∃n i m,x=.ref n/\Q8 k=some i/\A2[n]?=some (.dT m)/\Q (.bl (J8 m i).isSome) A2) E) E):Wp (aE4 e1 e2 σ) A Q E:=
 C1 (w_mono h λk A1 h1=>C1 (w_mono h1 λx A2 ⟨n,i,m,hx,hk,hn,q⟩=>by subst hx;rw [hk];exact C1 (q9 hn q)))
theorem w_tget(h:Wp (e1 σ) A (λx A1=>Wp (e2 σ) A1 (λk A2=>∃n i m v,x=.ref n/\Q8 k=some i/\A2[n]?=some (.dT m)/\J8 m i=some v/\Q v A2) E) E):Wp (ad3 e1 e2 σ) A Q E:=
 C1 (w_mono h λx A1 h1=>C1 (w_mono h1 λk A2 ⟨n,i,m,v,hx,hk,hn,hv,q⟩=>by subst hx;rw [hk];exact C1 (q9 hn (by rw [hv];exact q))))
theorem w_tget1(h:Wp (e1 σ) A (λx A1=>∃n m0,x=.ref n/\A1[n]?=some (.dT m0)/\Wp (e2 σ) A1 (λk A2=>∃i m,Q8 k=some i/\A2[n]?=some (.dT m)/\Q ((J8 m i).getD .non) A2) E) E):Wp (ag8 e1 e2 σ) A Q E:=
 C1 (w_mono h λx A1 hq=>by
  obtain ⟨n,m0,hx,h0,h1⟩:=hq
  subst hx
  exact C1 (q9 h0 (C1 (w_mono h1 λk A2 ⟨i,m,hk,hn,q⟩=>by rw [hk];exact C1 (q9 hn q)))))
theorem w_tget2(h:Wp (e1 σ) A (λx A1=>∃n m0,x=.ref n/\A1[n]?=some (.dT m0)/\Wp (e2 σ) A1 (λk A2=>Wp (e3 σ) A2 (λv A3=>∃i m,Q8 k=some i/\A3[n]?=some (.dT m)/\Q ((J8 m i).getD v) A3) E) E) E):Wp (aE5 e1 e2 e3 σ) A Q E:=
 C1 (w_mono h λx A1 hq=>by
  obtain ⟨n,m0,hx,h0,h1⟩:=hq
  subst hx
  exact C1 (q9 h0 (C1 (w_mono h1 λk A2 h2=>C1 (w_mono h2 λv A3 ⟨i,m,hk,hn,q⟩=>by rw [hk];exact C1 (q9 hn q))))))
theorem w_tput{QF:Fl->PHp->Prop}(h:Wp (e3 σ) A (λv A1=>Wp (e1 σ) A1 (λx A2=>Wp (e2 σ) A2 (λk A3=>∃n i m,x=.ref n/\Q8 k=some i/\A3[n]?=some (.dT m)/\m.length<LIM/\QF (.nx σ) (A3.set n (.dT (W8 m i v)))) E) E) E):Wp (ap4 e1 e2 e3 σ) A QF E:=
 C1 (w_mono h λv A1 h1=>C1 (w_mono h1 λx A2 h2=>C1 (w_mono h2 λk A3 hq=>by
  obtain ⟨n,i,m,hx,hk,hn,hm,q⟩:=hq
  subst hx;rw [hk]
  exact C1 (q9 hn (D9 hm (C1 (w_eq (a:=()) rfl q)))))))
theorem w_tcopy(h:Wp (e σ) A (λx A1=>∃n m,x=.ref n/\A1[n]?=some (.dT m)/\((m.map (·.1)).Nodup/\∀p∈m,p.1∈small)/\Q (.ref A1.length) (A1++[.dT m])) E):Wp (aE6 e σ) A Q E:=
 C1 (w_mono h λx A1 ⟨n,m,hx,h0,h1,q⟩=>by subst hx;exact C1 (q9 h0 (D9 h1 q)))
theorem w_eqS{x y:PySem.Str}(q:Q (.bl (decide (x=y))) A):Wp (oEq (.str x) (.str y)) A Q E:=bg0 rfl rfl q
theorem w_neS{x y:PySem.Str}(q:Q (.bl (!decide (x=y))) A):Wp (oNe (.str x) (.str y)) A Q E:=bt7 rfl rfl q
theorem w_intB(h:Wp (e σ) A (λx A1=>∃b:Bool,x=.bl b/\Q (.int (if b then 1 else 0)) A1) E):Wp (aW3 e σ) A Q E:=C1 (w_mono h λx A1 ⟨b,hx,q⟩=>by subst hx;exact q)
theorem w_isStr(h:Wp (e σ) A (λx A1=>Wp (ag9 x) A1 (λb A2=>Q (.bl b) A2) E) E):Wp (at6 e σ) A Q E:=C1 (w_mono h λ_ _ h1=>C1 h1)
theorem w_sorted(h:Wp (e σ) A (λx A1=>∃n l l',x=.ref n/\A1[n]?=some (.lst l)/\d6 l A1=.ok l' A1/\Q (.ref A1.length) (A1++[.lst l'])) E):Wp (ae5 e σ) A Q E:=C1 (w_mono h λx A1 ⟨n,l,l',hx,h0,h1,q⟩=>by subst hx;exact C1 (S6 h0 (C1 (w_eq h1 q))))
end
theorem z6{m:DT}{i:List Int}{v:PV}(h:i∉m.map (·.1)):W8 m i v=m++[(i,v)]:=by
 unfold W8
 rw [if_neg]
 rw [List.any_eq_true]
 rintro⟨p,hp,hd⟩
 exact h (List.mem_map.mpr ⟨p,hp,by simpa using hd⟩)
theorem a18{m:DT}{i:List Int}{v:PV}(h:J8 m i=some v):(i,v)∈m:=by
 induction m with
 | nil=>cases h
 | cons p r ih=>
   unfold J8 at h
   by_cases c:p.1=i
   ·rw [if_pos c] at h;cases h;rw [←c];exact List.mem_cons_self
   ·rw [if_neg c] at h;exact List.mem_cons_of_mem _ (ih h)
theorem bc0{m:DT}{i:List Int}{v:PV}(nd:(m.map (·.1)).Nodup)(h:(i,v)∈m):J8 m i=some v:=by
 induction m with
 | nil=>cases h
 | cons p r ih=>
   unfold J8
   rcases List.mem_cons.mp h with z | z
   ·rw [←z,if_pos rfl]
   ·have nd':=List.nodup_cons.mp nd
    have:p.1≠i:=λe=>nd'.1 (List.mem_map.mpr ⟨_,z,e.symm⟩)
    rw [if_neg this];exact ih nd'.2 z
section
variable{A:PHp}{E:XP}{n:Nat}{l:List PV}{m:DT}
theorem w_isStrV{QB:Bool->PHp->Prop}{x:PV}{b:Bool}(h:ag9 x A=.ok b A)(q:QB b A):Wp (ag9 x) A QB E:=w_eq h q
theorem w_isStrL{QB:Bool->PHp->Prop}(h:A[n]?=some (.lst l))(q:QB false A):Wp (ag9 (.ref n)) A QB E:=C1 (Z0 h q)
theorem w_isTyI{QB:Bool->PHp->Prop}(h:A[n]?=some (.lst l))(q:QB false A):Wp (ax6 .int (.ref n)) A QB E:=C1 (Z0 h q)
theorem w_isTyB{QB:Bool->PHp->Prop}(h:A[n]?=some (.lst l))(q:QB false A):Wp (ax6 .bool (.ref n)) A QB E:=C1 (Z0 h q)
theorem w_isTyT{QB:Bool->PHp->Prop}(h:A[n]?=some (.lst l))(q:QB false A):Wp (ax6 .tuple (.ref n)) A QB E:=C1 (Z0 h q)
theorem exD1{R:Nat->DT->Prop}(h:A[n]?=some (.dT m))(q:R n m):∃n' m',PV.ref n=.ref n'/\A[n']?=some (.dT m')/\R n' m':=⟨n,m,rfl,h,q⟩
theorem exD2{k:PV}{i:List Int}{R:List Int->DT->Prop}(hk:Q8 k=some i)(h:A[n]?=some (.dT m))(q:R i m):∃i' m',Q8 k=some i'/\A[n]?=some (.dT m')/\R i' m':=⟨i,m,hk,h,q⟩
theorem exD3{k:PV}{i:List Int}{R:Nat->List Int->DT->Prop}(hk:Q8 k=some i)(h:A[n]?=some (.dT m))(q:R n i m):∃n' i' m',PV.ref n=.ref n'/\Q8 k=some i'/\A[n']?=some (.dT m')/\R n' i' m':=⟨n,i,m,rfl,hk,h,q⟩
theorem exD4{k:PV}{i:List Int}{v:PV}{R:PV->Prop}(hk:Q8 k=some i)(h:A[n]?=some (.dT m))(hv:J8 m i=some v)(q:R v):∃n' i' m' v',PV.ref n=.ref n'/\Q8 k=some i'/\A[n']?=some (.dT m')/\J8 m' i'=some v'/\R v':=⟨n,i,m,v,rfl,hk,h,hv,q⟩
theorem get_appL{o:PO}{k:Nat}(h:A.length=k):(A++[o])[k]?=some o:=by subst h;exact get_app
theorem brC{c:Bool}{P R:Prop}(h:c=false)(q:R):(c=true->P)/\(c=false->R):=⟨λz=>(by rw [h] at z;cases z),λ_=>q⟩
theorem brD{c:Bool}{P R:Prop}(h:c=true)(q:P):(c=true->P)/\(c=false->R):=⟨λ_=>q,λz=>by rw [h] at z;cases z⟩
end
section
variable{A:PHp}{E:XP}{σ:PSt}{Q:PV->PHp->Prop}{QF:Fl->PHp->Prop}{g:GD}{s b:SD}{es:AD}{e:ED}
theorem bo5{it:ID}(P:Nat->PSt->PHp->Prop)(h:Wp (it σ) A (λJ A1=>∃a l,J=.enm a/\P 0 σ A1/\(∀i σ B,P i σ B->D3 a B=.ok l B)/\(∀(i:Nat) v σ B,l[i]?=some v->P i σ B->Wp (g (.tup [.int i,v]) σ) B (λσ1 B1=>Wp (s σ1) B1 (z0 (P (i+1)) QF) E) E)/\∀σ B,P l.length σ B->QF (.nx σ) B) E) :
 Wp (g8 it g s σ) A QF E:=C1 (w_mono h λJ A1 hq=>by
 obtain ⟨a,l,hJ,h0,hl,hs,he⟩:=hq
 subst hJ
 refine C1 (C1 (w_eq (hl 0 σ A1 h0) (ad8 ?_)))
 refine o0 P (λσ B hP=>⟨by show bnd (D3 a) _ B=_;rw [bnd_ok (hl _ σ B hP)];simp,he σ B hP⟩) (λi σ B hi hP=>?_) l.length 0 σ A1 (by omega) h0 (l.length+1) (Nat.lt_succ_self _)
 exact⟨.tup [.int i,l[i]],by show bnd (D3 a) _ B=_;rw [bnd_ok (hl _ σ B hP),List.getElem?_eq_getElem hi];rfl,hs i l[i] σ B (List.getElem?_eq_getElem hi) hP⟩)
end
end Ws
local macro_rules | `(tactic| walk_at "s1")=>`(tactic| first
 | with_reducible refine Ws.w_isV ?_)
local macro_rules | `(tactic| walk_at "s3")=>`(tactic| ((with_reducible apply Ws.exX);(·walk_at "st");(·decide)))
local macro_rules | `(tactic| walk_at "s1")=>`(tactic| first
 | with_reducible refine Ws.w_isStr ?_
 | with_reducible refine Ws.w_tget ?_
 | with_reducible refine Ws.w_tget1 ?_
 | with_reducible refine Ws.w_tget2 ?_
 | with_reducible refine Ws.w_tput ?_
 | with_reducible refine Ws.w_tin ?_
 | with_reducible refine Ws.w_tcopy ?_
 | with_reducible refine Ws.w_intB ?_
 | with_reducible refine Ws.w_sorted ?_
 | with_reducible refine Ws.w_max ?_
 | with_reducible refine Ws.w_maxD ?_
 | with_reducible refine Ws.w_raise ?_)
local macro_rules | `(tactic| walk_at "s2")=>`(tactic| first
 | with_reducible refine Ws.w_andB ?_
 | with_reducible refine Ws.w_tnew ?_
 | with_reducible refine Ws.w_eqS ?_
 | with_reducible refine Ws.w_neS ?_
 | ((with_reducible apply Ws.w_shr);(·omega))
 | ((with_reducible apply Ws.w_isStrL);(·walk_at "st"))
 | ((with_reducible apply Ws.w_isStrV);(·rfl))
 | ((with_reducible apply Ws.w_isTyI);(·walk_at "st"))
 | ((with_reducible apply Ws.w_isTyB);(·walk_at "st"))
 | ((with_reducible apply Ws.w_isTyT);(·walk_at "st")))
local macro_rules | `(tactic| walk_at "s3")=>`(tactic| first
 | ((with_reducible apply Ws.exD1);(·walk_at "st"))
 | ((with_reducible apply Ws.exD2);(·rfl);(·walk_at "st"))
 | ((with_reducible apply Ws.exD3);(·rfl);(·walk_at "st"))
 | ((with_reducible apply Ws.exD4);(·rfl);(·walk_at "st");(·first | assumption | rfl)))
local macro_rules | `(tactic| walk_at "pre")=>`(tactic| first
 | assumption
 | exact List.prefix_refl _
 | (refine Ws.U8 ?_;walk_at "pre")
 | ((refine Ws.W4 ?pp ?nn);(case nn=>walk_at "ne");(case pp=>walk_at "pre"))
 | (refine List.IsPrefix.trans (by assumption) ?_;walk_at "pre"))
local macro_rules | `(tactic| walk_at "s3")=>`(tactic| ((with_reducible refine And.intro (a:=List.IsPrefix _ _) ?h1 ?_);(case h1=>walk_at "pre")))
local macro_rules | `(tactic| walk_at "s3")=>`(tactic| ((with_reducible refine And.intro (a:=_<900) ?h1 ?_);(case h1=>((simp only [List.length_cons,List.length_nil,Ws.putFld,Nat.reduceEqDiff,if_false]);(try omega)))))
local macro_rules | `(tactic| walk_at "ne")=>`(tactic| first
 | assumption
 | omega
 | ((simp only [List.length_set,List.length_append,List.length_cons,List.length_nil]);omega))
local macro_rules | `(tactic| walk_at "st")=>`(tactic| first
 | ((with_reducible refine Ws.get_appL ?_);(first | rfl | ((simp only [List.length_set,List.length_append,List.length_cons,List.length_nil]);done) | ((simp only [List.length_set,List.length_append,List.length_cons,List.length_nil]);omega)))
 | ((with_reducible apply Ws.get_set);walk_at "st")
 | ((with_reducible apply Ws.get_app_of);walk_at "st")
 | ((refine (Ws.G7 ?ne).trans ?_);(case ne=>walk_at "ne");walk_at "st"))
local macro_rules | `(tactic| walk_at "br")=>`(tactic| first
 | ((with_reducible refine Ws.brC ?_ ?_);(·first | rfl | (simp;done) | decide))
 | ((with_reducible refine Ws.brD ?_ ?_);(·first | rfl | (simp;done) | decide)))
local macro_rules | `(tactic| walk_at "gb")=>`(tactic| repeat (first | walk_at "s" | walk_at "br"))
namespace Ws
section
variable{A:PHp}{Q:PV->PHp->Prop}{E:XP}{σ:PSt}{e e1 e2 e3:ED}
theorem w_any(h:Wp (e σ) A (λx A1=>∃n bs,x=.ref n/\A1[n]?=some (.lst (List.map .bl bs))/\Q (.bl (bs.any id)) A1) E):Wp (a75 e σ) A Q E:=
 C1 (w_mono h λx A1 hh=>by
  obtain⟨n,bs,hx,h0,q⟩:=hh
  subst hx
  refine C1 (S6 h0 ?_)
  rw [ac2]
  exact q)
theorem w_tsetd(h:Wp (e1 σ) A (λx A1=>∃n m0,x=.ref n/\A1[n]?=some (.dT m0)/\Wp (e2 σ) A1 (λk A2=>Wp (e3 σ) A2 (λv A3=>∃i m,Q8 k=some i/\A3[n]?=some (.dT m)/\
 (∀w,J8 m i=some w->Q w A3)/\(J8 m i=none->m.length<LIM/\Q v (A3.set n (.dT (W8 m i v))))) E) E) E):Wp (aa8 e1 e2 e3 σ) A Q E:=
 C1 (w_mono h λx A1 hh=>by
  obtain⟨n,m0,hx,h0,h1⟩:=hh
  subst hx
  refine C1 (q9 h0 (C1 (w_mono h1 λk A2 h2=>C1 (w_mono h2 λv A3 hh=>?_))))
  obtain⟨i,m,hk,hn,q1,q2⟩:=hh
  rw [hk]
  refine C1 (q9 hn ?_)
  cases hv:J8 m i with
  | some w=>exact q1 w hv
  | none=>exact D9 (q2 hv).1 (C1 (w_eq (a:=()) rfl (q2 hv).2)))
theorem w_tdictOf(h:Wp (e σ) A (λx A1=>∃n l m,x=.ref n/\A1[n]?=some (.lst l)/\ah0 l=some m/\m.length<LIM/\Q (.ref A1.length) (A1++[.dT (m.foldl (λacc p=>W8 acc p.1 p.2) [])])) E):Wp (ah1 e σ) A Q E:=
 C1 (w_mono h λx A1 hh=>by
  obtain⟨n,l,m,hx,h0,hp,hm,q⟩:=hh
  subst hx
  refine C1 (Z0 h0 ?_)
  rw [hp]
  exact D9 hm q)
end
end Ws
local macro_rules | `(tactic| walk_at "s1")=>`(tactic| first
 | with_reducible refine Ws.w_any ?_
 | with_reducible refine Ws.w_tsetd ?_
 | with_reducible refine Ws.w_tdictOf ?_)
namespace Ws
section
theorem a19{α β:Type}(f:α->β)(xs:List α)(lo hi:Option Int):cut (xs.map f) lo hi=(cut xs lo hi).map f:=by
 unfold cut
 rw [List.length_map,List.map_take,List.map_drop]
end
def f8:List Int->Bool
 | a::b::r=>decide (a<b)&&f8 (b::r)
 | _=>true
def l6(n:Int)(L:List Int):Bool:=!decide (L=[])&&(L.all λh=>decide (0<=h/\h<n))&&f8 L
theorem al5:∀L:List Int,(((g9 (L.map .int) ((L.drop 1).map .int)).map λv=>decide (Z7 v<b8 v)).all id)=f8 L
 | []=>rfl
 | [a]=>rfl
 | a::b::r=>by
   have ih:=al5 (b::r)
   show (decide (a<b)&&_)=_
   rw [f8,←ih];rfl
theorem a20{L M:List Int}{v:PV}(h:v∈g9 (L.map .int) (M.map .int)):∃a b:Int,v=.tup [.int a,.int b]:=by
 induction L generalizing M with
 | nil=>cases h
 | cons a r ih=>
   cases M with
   | nil=>cases h
   | cons b s=>
     rcases List.mem_cons.mp h with z | z
     ·exact⟨a,b,z⟩
     ·exact ih z
theorem is_rising_ok{A:PHp}{l:Nat}{L:List Int}(hl:A[l]?=some (.lst (L.map .int)))(hL:L.length<=1000):Wp (R8 [.ref l]) A (λv A'=>A<+:A'/\v=.bl (f8 L)) NoX:=by
 unfold R8
 walk_at "fn"
 walk_at "go"
 unfold k8
 refine J9 (l:=g9 (L.map .int) ((L.drop 1).map .int)) (λσ=>∃x y,σ=[x,y]) (λ_=>true) (λv=>.bl (decide (Z7 v<b8 v))) ?_
 walk_at "go"
 have hc:cut (L.map PV.int) (some 1) none=(L.drop 1).map .int:=by rw [a19];exact congrArg _ (aA8 L 1)
 rw [hc]
 have hl1:(A++[PO.lst ((L.drop 1).map .int)])[l]?=some (.lst (L.map .int)):=get_app_of hl
 have hzl:=aA7 (L.map .int) ((L.drop 1).map .int)
 rw [List.length_map] at hzl
 walk_at "go"
 refine⟨L.length,?_,hzl,lim_le (by omega),⟨_,_,rfl⟩,λi=>aQ9 hl1 get_app i,?_,?_⟩
 ·show bnd (D3 l) _ _=_
  rw [bnd_ok (J2 hl1)];simp
 ·rintro v σ hv ⟨x,y,rfl⟩
  obtain⟨a,b,rfl⟩:=a20 hv
  walk_at "go"
  refine⟨rfl,⟨_,_,rfl⟩,?_⟩
  walk_at "go"
  refine⟨rfl,rfl,λ_=>?_⟩
  walk_at "go"
  exact⟨rfl,rfl⟩
 ·refine⟨_,(g9 (L.map .int) ((L.drop 1).map .int)).map λv=>decide (Z7 v<b8 v),rfl,?_,?_⟩
  ·rw [get_app,List.filter_eq_self.mpr (by simp),List.map_map];rfl
  ·rw [al5];exact⟨U8 (List.prefix_append _ _),rfl⟩
theorem are_leaders_ok{A:PHp}{w r l:Nat}{n:Int}{ps:List (Int×Int)}(W:WebAt A w r n ps){L:List Int}(hl:A[l]?=some (.lst (L.map .int)))(hL:L.length<=1000):Wp (O8 [.ref w,.ref l]) A (λv A'=>A<+:A'/\v=.bl (l6 n L)) NoX:=by
 unfold O8
 walk_at "fn"
 walk_at "gb"
 refine⟨λh1=>?_,λh1=>?_⟩
 ·walk_at "go"
  have:L=[]:=of_decide_eq_true h1
  simp [l6,this]
 have hne:L≠[]:=of_decide_eq_false h1
 walk_at "go"
 unfold f_are_leaders_c1
 have W1:=W.mono (List.prefix_append A [PO.lst []])
 have hob:=W1.ob
 have hl1:(A++[PO.lst []])[l]?=some (.lst (L.map .int)):=get_app_of hl
 refine J9 (l:=L.map .int) (λσ=>∃x,σ=[x,some (.ref w)]) (λ_=>true) (λv=>match v with | .int h=>.bl (decide (0<=h/\h<n)) | _=>.non) ?_
 walk_at "go"
 refine⟨L.length,by rw [N5 hl1];simp,by simp,by simp;exact lim_le (by omega),⟨_,rfl⟩,λi=>N6 hl1 i,?_,?_⟩
 ·rintro v σ hv ⟨x,rfl⟩
  obtain⟨h,hh,rfl⟩:=List.mem_map.mp hv
  walk_at "go"
  refine⟨rfl,⟨_,rfl⟩,?_⟩
  walk_at "go"
  refine⟨rfl,rfl,λ_=>?_⟩
  walk_at "go"
  exact w_eq (is_hand_eq _ _ _) ⟨rfl,rfl⟩
 ·refine⟨_,L.map λh=>decide (0<=h/\h<n),rfl,?_,?_⟩
  ·rw [get_app,List.filter_eq_self.mpr (by simp),List.map_map,List.map_map];rfl
  ·refine⟨_,rfl,λh2=>?_,λh2=>?_⟩
   ·walk_at "go"
    refine w_mono (is_rising_ok (get_app_of hl1) hL) λv A1 ⟨h3,h4⟩=>⟨(U8 (List.prefix_append _ _)).trans h3,?_⟩
    rw [h4]
    have:(L.all λh=>decide (0<=h/\h<n))=true:=by rw [List.all_map] at h2;exact h2
    simp only [l6,this,hne];simp
   ·refine⟨U8 (List.prefix_append _ _),?_⟩
    have:(L.all λh=>decide (0<=h/\h<n))=false:=by rw [List.all_map] at h2;exact h2
    simp only [l6,this];simp
theorem ar5:∀{L:List Int},f8 L=true->L.Pairwise (·< ·)
 | [],_=>.nil
 | [a],_=>by simp
 | a::b::r,h=>by
   rw [f8,Bool.and_eq_true] at h
   have ih:=ar5 h.2
   have hab:a<b:=of_decide_eq_true h.1
   refine List.pairwise_cons.mpr ⟨λx hx=>?_,ih⟩
   rcases List.mem_cons.mp hx with z | z
   ·rw [z];exact hab
   ·have:=(List.pairwise_cons.mp ih).1 x z;omega
theorem ar6:∀{L:List Int},L.Pairwise (·< ·)->f8 L=true
 | [],_=>rfl
 | [a],_=>rfl
 | a::b::r,h=>by
   rw [f8,Bool.and_eq_true]
   have h':=List.pairwise_cons.mp h
   exact⟨decide_eq_true (h'.1 b List.mem_cons_self),ar6 h'.2⟩
theorem av8:∀{L M:List Int},L.Pairwise (·< ·)->M.Pairwise (·< ·)->(∀x,x∈L↔x∈M)->L=M
 | [],[],_,_,_=>rfl
 | [],b::s,_,_,h=>by have:=(h b).mpr List.mem_cons_self;cases this
 | a::r,[],_,_,h=>by have:=(h a).mp List.mem_cons_self;cases this
 | a::r,b::s,h1,h2,h=>by
   have k1:=List.pairwise_cons.mp h1
   have k2:=List.pairwise_cons.mp h2
   have e:a=b:=by
    have m1:=(h a).mp List.mem_cons_self
    have m2:=(h b).mpr List.mem_cons_self
    rcases List.mem_cons.mp m1 with z | z
    ·exact z
    ·rcases List.mem_cons.mp m2 with y | y
     ·exact y.symm
     ·have:=k2.1 a z;have:=k1.1 b y;omega
   subst e
   rw [av8 k1.2 k2.2 λx=>⟨λhx=>?_,λhx=>?_⟩]
   ·rcases List.mem_cons.mp ((h x).mp (List.mem_cons_of_mem _ hx)) with z | z
    ·have:=k1.1 x hx;omega
    ·exact z
   ·rcases List.mem_cons.mp ((h x).mpr (List.mem_cons_of_mem _ hx)) with z | z
    ·have:=k2.1 x hx;omega
    ·exact z
theorem lead_iff{N:Nat}{L:List Int}:l6 N L=true↔L=(Y0 N).filter (λh=>decide (h∈L))/\L≠[]:=by
 unfold l6
 constructor
 ·intro h
  rw [Bool.and_eq_true,Bool.and_eq_true] at h
  refine⟨av8 (ar5 h.2) ((z5 N).filter _) λx=>?_,by simpa using h.1.1⟩
  have ha:=List.all_eq_true.mp h.1.2
  rw [List.mem_filter,mem_hands]
  exact⟨λhx=>⟨of_decide_eq_true (ha x hx),decide_eq_true hx⟩,λhx=>of_decide_eq_true hx.2⟩
 ·rintro⟨h,hne⟩
  have hp:L.Pairwise (·< ·):=by rw [h];exact (z5 N).filter _
  rw [Bool.and_eq_true,Bool.and_eq_true]
  refine⟨⟨by simpa using hne,List.all_eq_true.mpr λx hx=>?_⟩,ar6 hp⟩
  rw [h,List.mem_filter] at hx
  exact decide_eq_true (mem_hands.mp hx.1)
theorem aR0{a b:Int}(ha:0<=a/\a<10)(hb:0<=b/\b<10):[a,b]∈small:=by
 unfold small
 rw [List.mem_flatten]
 refine⟨_,List.mem_map.mpr ⟨a.toNat,List.mem_range.mpr (by omega),rfl⟩,List.mem_map.mpr ⟨b.toNat,List.mem_range.mpr (by omega),?_⟩⟩
 rw [Int.toNat_of_nonneg ha.1,Int.toNat_of_nonneg hb.1]
theorem t5{p q:Int×Int}(h:l2 p=l2 q):p=q:=by
 obtain⟨a,b⟩:=p;obtain⟨c,d⟩:=q
 simp [l2] at h;simp [h]
def limOf(m:DT)(p:Int×Int):Int:=match J8 m (l2 p) with
 | some (.int z)=>z
 | _=>0
def limD(qs:List (Int×Int))(f:Int×Int->Int):DT:=qs.map λp=>(l2 p,PV.int (f p))
theorem ar7(qs:List (Int×Int))(f:Int×Int->Int):(limD qs f).map (·.1)=qs.map l2:=by unfold limD;rw [List.map_map];rfl
theorem aL2{qs:List (Int×Int)}{f:Int×Int->Int}(h:qs.Nodup):((limD qs f).map (·.1)).Nodup:=by
 rw [ar7]
 exact List.Pairwise.map _ (λa b hab z=>hab (t5 z)) h
theorem ae8{qs:List (Int×Int)}{f:Int×Int->Int}(h:qs.Nodup){p:Int×Int}(hp:p∈qs):J8 (limD qs f) (l2 p)=some (.int (f p)):=bc0 (aL2 h) (List.mem_map.mpr ⟨p,hp,rfl⟩)
theorem bc1{qs:List (Int×Int)}{f:Int×Int->Int}{p:Int×Int}(hp:p∉qs):J8 (limD qs f) (l2 p)=none:=by
 cases h:J8 (limD qs f) (l2 p) with
 | none=>rfl
 | some v=>
   obtain⟨q,hq,e⟩:=List.mem_map.mp (a18 h)
   cases t5 (congrArg Prod.fst e)
   exact absurd hq hp
theorem aG7{qs:List (Int×Int)}{f:Int×Int->Int}{n:Int}(hn:n<=6)(hg:∀p∈qs,good n p):∀p∈limD qs f,p.1∈small:=λp hp=>by
 obtain⟨q,hq,rfl⟩:=List.mem_map.mp hp
 have:=hg q hq
 exact aR0 ⟨this.1.1,by have:=this.1.2;omega⟩ ⟨this.2.1.1,by have:=this.2.1.2;omega⟩
theorem aA9{qs:List (Int×Int)}{f:Int×Int->Int}{p:Int×Int}(hp:p∉qs):W8 (limD qs f) (l2 p) (.int (f p))=limD (qs++[p]) f:=by
 rw [z6]
 ·simp [limD]
 ·rw [ar7];intro z
  obtain⟨q,hq,e⟩:=List.mem_map.mp z
  rw [←t5 e] at hp;exact hp hq
structure PlanAt(A:PHp)(P w r:Nat)(n:Int)(ps:List (Int×Int))(L:List Int)(f:Int×Int->Int)(ll dl dk:Nat):Prop where
 web:WebAt A w r n ps
 ob:A[P]?=some (.ins 1 [(3,.ref w),(4,.ref ll),(5,.ref dl),(9,.tup (L.map .int)),(10,.ref dk)])
 ls:A[ll]?=some (.lst (L.map .int))
 ld:A[dl]?=some (.dT (limD (srt ps) f))
 lk:A[dk]?=some (.dT (limD (srt ps) f))
theorem PlanAt.mono{A B:PHp}{P w r:Nat}{n:Int}{ps:List (Int×Int)}{L:List Int}{f:Int×Int->Int}{ll dl dk:Nat}(h:PlanAt A P w r n ps L f ll dl dk)(e:A<+:B):PlanAt B P w r n ps L f ll dl dk:=
 ⟨h.web.mono e,pre_get e h.ob,pre_get e h.ls,pre_get e h.ld,pre_get e h.lk⟩
theorem aR1{z:Int}(h:0<=z)(A:PHp):U4 [.int z] A=.ok (.bl true) A:=by simp [U4,h]
section
variable{A:PHp}{w r l d:Nat}{n:Int}{ps:List (Int×Int)}{L:List Int}{m:DT}
theorem srt_nd(h:ps.Nodup):(srt ps).Nodup:=(R4 ps).nodup_iff.mpr h
theorem plan_l1{B:PHp}{P k:Nat}(W:WebAt A w r n ps)(hd:A[d]?=some (.dT m))(hnd:ps.Nodup)(hlen:ps.length<64)(hm:∀p∈ps,∃z,0<=z/\J8 m (l2 p)=some (.int z))
 (pB:A<+:B) (hk:A.length<=k) (hB:B[k]?=some (.dT [])) (hPk:P≠k) {po:PO} (hP:B[P]?=some po) :
 Wp (X7 [some (.ref P),some (.ref w),some (.ref l),some (.ref d),some (.ref k),none]) B (λo B'=>(∃x,o=.nx [some (.ref P),some (.ref w),some (.ref l),some (.ref d),some (.ref k),x])/\A<+:B'/\B'[P]?=some po/\B'.length=B.length/\B'[k]?=some (.dT (limD (srt ps) (limOf m)))) NoX:=by
 unfold X7
 have hs:∀p∈srt ps,p∈ps:=λp hp=>(R4 ps).mem_iff.mp hp
 refine a11 (λi σ B'=>(∃x,σ=[some (.ref P),some (.ref w),some (.ref l),some (.ref d),some (.ref k),x])/\A<+:B'/\B'[P]?=some po/\B'.length=B.length/\B'[k]?=some (.dT (limD ((srt ps).take i) (limOf m)))) ?_
 have WB:=W.mono pB
 have hwo:=WB.ob
 have hwl:=WB.ls
 walk_at "go"
 refine⟨r,pvs (srt ps),rfl,⟨⟨_,rfl⟩,pB,hP,rfl,hB⟩,λi σ B' ⟨_,h,_⟩=>J2 (W.mono h).ls,?_,?_⟩
 ·rintro i v σ B1 hv ⟨⟨x,rfl⟩,p1,hP1,hl1,hk1⟩
  simp only [pvs,List.getElem?_map] at hv
  cases hp:(srt ps)[i]? with
  | none=>rw [hp] at hv;cases hv
  | some p=>
    rw [hp] at hv;cases hv
    have hmem:p∈srt ps:=List.mem_of_getElem? hp
    have hd1:=pre_get p1 hd
    have hkey:Q8 (pv p)=some (l2 p):=rfl
    have tk:(srt ps).take (i+1)=(srt ps).take i++[p]:=by rw [List.take_succ,hp];rfl
    unfold k9
    walk_at "go"
    obtain⟨z,hz,h0⟩:=hm p (hs p hmem)
    have h0':J8 m [p.1,p.2]=some (.int z):=h0
    rw [h0']
    refine w_eq (aR1 hz _) ?_
    walk_at "gb"
    have hnin:p∉(srt ps).take i:=by
     intro hm'
     have hlt:=(List.getElem?_eq_some_iff.mp hp).1
     obtain⟨j,hj,e⟩:=List.mem_iff_getElem.mp hm'
     rw [List.length_take] at hj
     rw [List.getElem_take] at e
     have e2:(srt ps)[i]=p:=(List.getElem?_eq_some_iff.mp hp).2
     exact List.pairwise_iff_getElem.mp (srt_nd hnd) j i (by omega) hlt (by omega) (e.trans e2.symm)
    have hval:limOf m p=z:=by unfold limOf;rw [h0]
    refine⟨?_,?_⟩
    ·refine Z2 ?_
     rw [limD,List.length_map,List.length_take]
     have:=(R4 ps).length_eq;omega
    ·refine⟨⟨_,rfl⟩,W4 p1 hk,by rw [G7 hPk];exact hP1,by simpa using hl1,?_⟩
     rw [get_set hk1,tk,←aA9 hnin,hval];rfl
 ·rintro σ B1 ⟨⟨x,rfl⟩,p1,hP1,hl1,hk1⟩
  rw [pvs,List.length_map,List.take_length] at hk1
  exact⟨⟨x,rfl⟩,p1,hP1,hl1,hk1⟩
theorem plan_init(W:WebAt A w r n ps)(hl:A[l]?=some (.lst (L.map .int)))(hL:L.length<=1000)(hd:A[d]?=some (.dT m))(hg:V5 n ps)(hle:l6 n L=true)(hm:∀p∈ps,∃z,0<=z/\J8 m (l2 p)=some (.int z)) :
 Wp (Q0 [.ref A.length,.ref w,.ref l,.ref d]) (A++[.ins 1 []]) (λv A'=>v=.non/\A<+:A'/\∃ll dl dk,PlanAt A' A.length w r n ps L (limOf m) ll dl dk/\A.length<ll/\A.length<dl/\A.length<dk) NoX:=by
 unfold Q0
 walk_at "fn"
 have p0:A<+:A++[PO.ins 1 []]:=List.prefix_append _ _
 walk_at "go"
 refine w_mono (are_leaders_ok (W.mono p0) (pre_get p0 hl) hL) λv A1 ⟨p1,hv⟩=>?_
 subst hv
 have ho1:A1[A.length]?=some (.ins 1 []):=pre_get p1 get_app
 have pA1:A<+:A1:=p0.trans p1
 have hlt1:=J1 ho1
 rw [hle]
 walk_at "gb"
 refine w_mono (plan_l1 (l:=l) (P:=A.length) (k:=A1.length) W hd hg.nd hg.len hm (U8 pA1) (by omega) get_app (by omega) (get_app_of ho1)) λo B ⟨⟨x,ho⟩,pB,hoB,hlB,hkB⟩=>?_
 subst ho
 have hlB':B.length=A1.length+1:=by rw [hlB];simp
 have WB:=W.mono pB
 have hlB1:=pre_get pB hl
 have hlA:=J1 hl
 have hsm:((limD (srt ps) (limOf m)).map (·.1)).Nodup/\∀p∈limD (srt ps) (limOf m),p.1∈small:=⟨aL2 (srt_nd hg.nd),aG7 hg.hi λp hp=>hg.good p ((R4 ps).mem_iff.mp hp)⟩
 walk_at "go"
 simp only [putFld,Nat.reduceEqDiff,if_false,List.length_set,List.length_append,List.length_cons,List.length_nil,Nat.zero_add]
 refine⟨trivial,?pre,B.length,B.length+1,A1.length,⟨W.mono ?pre,?ob,?ls,?ld,?lk⟩,?_,?_,hlt1⟩
 case pre=>walk_at "pre"
 case ob=>walk_at "st"
 case ls=>walk_at "st"
 case ld=>walk_at "st"
 case lk=>walk_at "st"
 ·omega
 ·omega
end
theorem bc2{α:Type}{A:PHp}{Q:PV->PHp->Prop}{E:XP}{σ:PSt}{it:ID}{mk:PSt->PSt}{g:GD}{e:ED}(xs:List α)(vi vo:α->PV)(S:PSt->Prop)
 (h:Wp (it σ) A (λJ A1=>s8 J A1=.ok xs.length A1/\xs.length<=LIM/\S (mk σ)/\(∀i B,A1<+:B->item J i B=.ok (xs.map vi)[i]? B)/\
  (∀x σ B,x∈xs->S σ->A1<+:B->Wp (g (vi x) σ) B (λσ1 B1=>B1=B/\S σ1/\Wp (e σ1) B (λy B3=>y=vo x/\B<+:B3) E) E)/\
  ∀B,A1<+:B->Q (.ref B.length) (B++[.lst (xs.map vo)])) E):Wp (K5 it mk g Q4 e σ) A Q E:=
 aG5 (w_mono h λJ A1 ⟨hf,hL,h0,hit,hs,he⟩=>⟨xs.map vi,xs.length,λi acc σ B=>A1<+:B/\S σ/\acc=(xs.take i).map vo,hf,by simp,⟨List.prefix_refl _,h0,by simp⟩,λi acc σ B ⟨h1,_⟩=>hit i B h1,λi v acc σ B hv hq=>by
  obtain ⟨h1,h2,h3⟩:=hq
  rw [List.getElem?_map] at hv
  obtain⟨x,hx,rfl⟩:=Option.map_eq_some_iff.mp hv
  refine w_mono (hs x σ B (List.mem_of_getElem? hx) h2 h1) λσ1 B1 ⟨e1,h4,h5⟩=>?_
  subst e1
  refine w_true ⟨λ_=>w_mono h5 λy B3 ⟨h8,h7⟩=>⟨h1.trans h7,h4,?_⟩,λhc=>by cases hc⟩
  rw [h3,h8,List.take_succ,hx];simp,λacc σ B hq=>by
  obtain ⟨h1,_,h3⟩:=hq
  rw [List.length_map,List.take_of_length_le (Nat.le_refl _)] at h3
  subst h3
  exact⟨by rw [List.length_map];exact hL,he B h1⟩⟩)
theorem bu1{α:Type}(xs:List α):(xs.map λ_=>true).all id=true:=by simp
end Ws
local macro_rules | `(tactic| walk_at "s1")=>`(tactic| first
 | with_reducible refine Ws.w_sortedT ?_)
local macro_rules | `(tactic| walk_at "s2")=>`(tactic| with_reducible refine Ws.w_mk0 ?_)
namespace Ws
def al:Nat->Fun
 | 0=>a6
 | k+1=>C9 (al k)
inductive aB0:Nat->PV->Prop
 | int {k:Nat} {i:Int}:aB0 (k+1) (.int i)
 | str {k:Nat} {x:PySem.Str}:aB0 (k+1) (.str x)
 | tup {k:Nat} {l:List PV}:l.length<=1000->(∀v∈l,aB0 k v)->aB0 (k+1) (.tup l)
theorem atN{α:Type}{xs:List α}{i:Nat}{x:α}(h:xs[i]?=some x):atI xs (i:Int)=some x:=by
 obtain⟨h1,h2⟩:=List.getElem?_eq_some_iff.mp h
 rw [a16 h1,h2]
theorem ar8{k:Nat}{l:List PV}{a b:PV}{A:PHp}(hl:l.length<=1000)(hv:∀v∈l,∀B,Wp (al k [v,v]) B (λv A'=>v=.bl true/\B<+:A') NoX)
 (ha:∀B (i:Nat) v {Q:PV->PHp->Prop},A<+:B->l[i]?=some v->Q v B->Wp (oIx a (.int (i:Int))) B Q NoX) (hb:∀B (i:Nat) v {Q:PV->PHp->Prop},A<+:B->l[i]?=some v->Q v B->Wp (oIx b (.int (i:Int))) B Q NoX)
 (hlen:∀{QI:It->PHp->Prop},QI (.rng 0 l.length) A->Wp (iRng1 (aa3 (eVar 1)) [some a,some b]) A QI NoX) :
 Wp (X9 (al k) [some a,some b]) A (λx A1=>∃n bs,x=.ref n/\A1[n]?=some (.lst (List.map .bl bs))/\PV.bl (bs.all id)=.bl true/\A<+:A1) NoX:=by
 unfold X9
 refine bc2 (List.range l.length) (λi=>.int (i:Int)) (λ_=>.bl true) (λσ=>∃x,σ=[x,some a,some b]) (hlen ?_)
 refine⟨by simp,by simp;exact lim_le (by omega),⟨_,rfl⟩,λi B p=>k7 _ _,?_,λB hB=>?_⟩
 ·rintro i σ B hi ⟨x,rfl⟩ pB
  rw [List.mem_range] at hi
  have hx:l[i]?=some l[i]:=List.getElem?_eq_getElem hi
  walk_at "go"
  refine⟨rfl,⟨_,rfl⟩,?_⟩
  walk_at "go"
  refine ha B i _ pB hx ?_
  walk_at "go"
  refine hb B i _ pB hx ?_
  walk_at "go"
  exact hv _ (List.getElem_mem hi) B
 ·refine⟨_,(List.range l.length).map λ_=>true,rfl,by rw [get_app,List.map_map];rfl,?_⟩
  rw [bu1]
  exact⟨rfl,hB.trans (List.prefix_append _ _)⟩
theorem al6:∀(k:Nat) (x:PV),aB0 k x->∀A,Wp (al k [x,x]) A (λv A'=>v=.bl true/\A<+:A') NoX
 | 0,_,h,_=>by cases h
 | k+1,_,.int (i:=i),A=>by
   refine w_eq (A':=A) (a:=.bl true) ?_ ⟨rfl,List.prefix_refl _⟩
   show C9 (al k) [.int i,.int i] A=_
   simp [C9,plain,eqv]
 | k+1,_,.str (x:=x),A=>by
   show Wp (C9 (al k) [.str x,.str x]) A _ _
   unfold C9
   walk_at "fn"
   walk_at "gb"
   exact⟨by simp,List.prefix_refl _⟩
 | k+1,_,.tup (l:=l) hl hv,A=>by
   show Wp (C9 (al k) [.tup l,.tup l]) A _ _
   unfold C9
   walk_at "fn"
   walk_at "gb"
   refine ar8 hl (λv hm B=>al6 k v (hv v hm) B) (λB i v Q p h q=>?_) (λB i v Q p h q=>?_) λ{QI} q=>?_
   ·exact w_ixT (atN h) q
   ·exact w_ixT (atN h) q
   ·walk_at "go"
    exact q
theorem alike_lists{k:Nat}{l:List PV}{n m:Nat}{A:PHp}(hl:l.length<=1000)(hv:∀v∈l,aB0 k v)(hn:A[n]?=some (.lst l))(hm:A[m]?=some (.lst l)):Wp (al (k+1) [.ref n,.ref m]) A (λv A'=>v=.bl true/\A<+:A') NoX:=by
 show Wp (C9 (al k) [.ref n,.ref m]) A _ _
 unfold C9
 walk_at "fn"
 walk_at "gb"
 refine ar8 hl (λv hm B=>al6 k v (hv v hm) B) (λB i v Q p h q=>?_) (λB i v Q p h q=>?_) λ{QI} q=>?_
 ·exact w_ixL (pre_get p hn) (atN h) q
 ·exact w_ixL (pre_get p hm) (atN h) q
 ·walk_at "go"
  exact q
theorem al7{A:PHp}(o:PO):A<+:A++[o]:=List.prefix_append _ _
theorem bc3{c:List Int}(h:c≠[]):atI (c.map PV.int) (-1)=some (.int (c.getLast h)):=by
 have hl:0<c.length:=List.length_pos_iff.mpr h
 unfold atI ixN
 rw [if_neg (by omega),List.length_map,if_pos (by omega)]
 show (c.map PV.int)[((-1:Int)+c.length).toNat]?=_
 rw [show ((-1:Int)+c.length).toNat=c.length - 1 by omega,List.getElem?_map,←List.getLast?_eq_getElem?,List.getLast?_eq_getLast h];rfl
section
variable{A:PHp}{N:Nat}{ps:List (Int×Int)}
def z7(N:Nat)(ps:List (Int×Int))(ld c:List Int):Prop:=(∃h:c≠[],c.getLast h∈ld)/\c.Nodup/\(∀x∈c,0<=x/\x<N)/\∀(i:Nat) a b,c[i]?=some a->c[i+1]?=some b->(a,b)∈ps
theorem lt_cut{c:List Int}(h:c≠[]):¬(a7 (c.map PV.int).length 0 (some 1)=0/\a7 (c.map PV.int).length (c.map PV.int).length none=(c.map PV.int).length):=by
 have:0<c.length:=List.length_pos_iff.mpr h
 unfold a7
 rw [List.length_map]
 intro z
 have:=z.1
 simp at this
 omega
theorem cut_1(c:List PV):cut c (some 1) none=c.drop 1:=by
 have:=aA8 c 1
 exact this
theorem all_map{α:Type}(f:α->Bool)(l:List α):((l.map f).all id=true)↔∀x∈l,f x=true:=by simp
theorem ar9:∀(c:List Int),g9 (c.map PV.int) ((c.map PV.int).drop 1)=(c.zip (c.drop 1)).map pv
 | []=>rfl
 | [a]=>rfl
 | a::b::r=>by
   have ih:=ar9 (b::r)
   simp only [List.map_cons,List.drop_succ_cons,List.drop_zero,g9,List.zip_cons_cons,List.map_cons] at ih ⊢
   exact congrArg _ ih
theorem mem_steps{c:List Int}{a b:Int}:(a,b)∈c.zip (c.drop 1)↔∃i:Nat,c[i]?=some a/\c[i+1]?=some b:=by
 rw [List.mem_iff_getElem?]
 constructor
 ·rintro⟨i,h⟩
  rw [List.getElem?_zip_eq_some] at h
  exact⟨i,h.1,by rw [←h.2,List.getElem?_drop,Nat.add_comm]⟩
 ·rintro⟨i,h1,h2⟩
  refine⟨i,?_⟩
  rw [List.getElem?_zip_eq_some]
  exact⟨h1,by rw [List.getElem?_drop,Nat.add_comm];exact h2⟩
theorem chain_okT{w r:Nat}{ld c:List Int}(W:WebAt A w r N ps)(hc:c.length<100) :
 Wp (U5 [.ref w,.tup (ld.map .int),.tup (c.map .int)]) A (λv A'=>A<+:A'/\∃b,v=.bl b/\(b=true↔z7 N ps ld c)) NoX:=by
 unfold U5
 have hw:=W.ob
 have hr:=W.ls
 walk_at "fn"
 walk_at "go"
 refine⟨λhb=>?_,λhb=>?_⟩
 ·walk_at "go"
  refine⟨λz=>(nomatch z),λz=>?_⟩
  obtain⟨⟨h,_⟩,_⟩:=z
  exact absurd (of_decide_eq_true hb) h
 have hne:c≠[]:=of_decide_eq_false hb
 have hlast:=bc3 hne
 walk_at "go"
 refine⟨λhb2=>?_,λhb2=>?_⟩
 ·walk_at "go"
  refine⟨λz=>(nomatch z),λz=>?_⟩
  obtain⟨⟨h,h1⟩,_⟩:=z
  simp [h1] at hb2
 have hin:c.getLast hne∈ld:=by simpa using hb2
 walk_at "go"
 refine⟨λhb3=>?_,λhb3=>?_⟩
 ·walk_at "go"
  refine⟨λz=>(nomatch z),λz=>?_⟩
  have:=(aW2 c).mp (by have:=of_decide_eq_true hb3;omega)
  exact absurd z.2.1 this
 have hnd:c.Nodup:=by
  by_cases z:c.Nodup
  ·exact z
  ·have:=(aW2 c).mpr z
   have:=of_decide_eq_false hb3
   omega
 walk_at "go"
 unfold f_is_chain_c1
 refine J9 (l:=c.map .int) (λσ=>∃x,σ=[x,some (.ref w)]) (λ_=>true) (λv=>.bl (match v with | .int x=>decide (0<=x/\x<N) | _=>false)) ?_
 walk_at "go"
 refine⟨⟨_,rfl⟩,λi=>rfl,?_,?_⟩
 ·rintro v σ hv ⟨x,rfl⟩
  obtain⟨y,hy,rfl⟩:=List.mem_map.mp hv
  walk_at "go"
  refine⟨rfl,⟨_,rfl⟩,?_⟩
  walk_at "go"
  refine⟨rfl,rfl,λ_=>?_⟩
  walk_at "go"
  exact w_eq (is_hand_eq N y A) ⟨rfl,rfl⟩
 have e1:((c.map PV.int).filter λ_=>true).map (λv=>PV.bl (match v with | .int x=>decide (0<=x/\x<N) | _=>false))=(c.map λx=>decide (0<=x/\x<(N:Int))).map PV.bl:=by
  rw [List.filter_eq_self.mpr (by simp),List.map_map,List.map_map];rfl
 refine⟨_,_,rfl,by rw [get_app,e1],?_⟩
 walk_at "go"
 refine⟨λhb4=>?_,λhb4=>?_⟩
 ·walk_at "go"
  refine⟨λz=>(nomatch z),λz=>?_⟩
  have:((c.map λx=>decide (0<=x/\x<(N:Int))).all id)=true:=(all_map _ _).mpr λx hx=>decide_eq_true (z.2.2.1 x hx)
  rw [this] at hb4;cases hb4
 have hr4:∀x∈c,0<=x/\x<(N:Int):=by
  have:((c.map λx=>decide (0<=x/\x<(N:Int))).all id)=true:=by
   cases z:((c.map λx=>decide (0<=x/\x<(N:Int))).all id) with
   | true=>rfl
   | false=>rw [z] at hb4;cases hb4
  exact λx hx=>of_decide_eq_true ((all_map _ _).mp this x hx)
 rw [e1]
 generalize hA1:A++[PO.lst ((c.map λx=>decide (0<=x/\x<(N:Int))).map PV.bl)]=A1
 have p1:A<+:A1:=by rw [←hA1];exact al7 _
 have hwB:=pre_get p1 hw
 have hrB:=pre_get p1 hr
 walk_at "go"
 unfold f_is_chain_c2
 refine J9 (l:=(c.zip (c.drop 1)).map pv) (λσ=>∃x,σ=[x,some (.ref w)]) (λ_=>true) (λv=>.bl (decide ((Z7 v,b8 v)∈srt ps))) ?_
 walk_at "go"
 refine⟨lt_cut hne,?_⟩
 walk_at "go"
 refine⟨by simp,lim_le (by simp;omega),⟨_,rfl⟩,λi=>by rw [aQ8,cut_1,ar9],?_,?_⟩
 ·rintro v σ hv ⟨x,rfl⟩
  obtain⟨y,hy,rfl⟩:=List.mem_map.mp hv
  walk_at "go"
  refine⟨rfl,⟨_,rfl⟩,?_⟩
  walk_at "go"
  refine⟨rfl,rfl,λ_=>?_⟩
  unfold pv
  walk_at "go"
  exact⟨rfl,rfl⟩
 have e2:(((c.zip (c.drop 1)).map pv).filter λ_=>true).map (λv=>PV.bl (decide ((Z7 v,b8 v)∈srt ps)))=((c.zip (c.drop 1)).map λp=>decide (p∈srt ps)).map PV.bl:=by
  rw [List.filter_eq_self.mpr (by simp),List.map_map,List.map_map];rfl
 refine⟨_,_,rfl,by rw [get_app,e2],?_⟩
 refine⟨p1.trans (al7 _),_,rfl,?_⟩
 rw [all_map]
 constructor
 ·intro h
  refine⟨⟨hne,hin⟩,hnd,hr4,λi a b ha hb=>?_⟩
  exact (R4 ps).mem_iff.mp (of_decide_eq_true (h (a,b) (mem_steps.mpr ⟨i,ha,hb⟩)))
 ·rintro⟨_,_,_,h⟩ ⟨a,b⟩ hab
  obtain⟨i,h1,h2⟩:=mem_steps.mp hab
  exact decide_eq_true ((R4 ps).mem_iff.mpr (h i a b h1 h2))
end
structure LS where
 now:Int
 lays:List ((Int×Int)×Int)
 says:List ((Int×Int)×Nat×List (Int×List Int))
 first:List (List Int×Int)
 m:Nat
structure Cfg where
 N:Nat
 ps:List (Int×Int)
 L:List Int
 f:Int×Int->Int
 fr:List Int
 P:Nat
 w:Nat
 r:Nat
 ll:Nat
 dl:Nat
 dk:Nat
 G:Nat
def rowS(q:Int×List Int):PV:=.tup [.int q.1,.tup (q.2.map .int)]
def i3(S:LS):DT:=S.lays.map λp=>(l2 p.1,PV.int p.2)
def V8(S:LS):DT:=S.says.map λp=>(l2 p.1,PV.ref p.2.1)
def an8(S:LS):DT:=S.first.map λp=>(p.1,PV.int p.2)
def sadr(S:LS):List Nat:=S.says.map λe=>e.2.1
def own(c:Cfg)(S:LS):List Nat:=c.G::(c.G+2)::(c.G+3)::(c.G+4)::sadr S
def dom(c:Cfg)(S:LS):List Nat:=c.P::c.w::c.r::c.ll::c.dl::c.dk::(c.G+1)::own c S
structure Led(A:PHp)(c:Cfg)(S:LS):Prop where
 plan:PlanAt A c.P c.w c.r c.N c.ps c.L c.f c.ll c.dl c.dk
 ob:A[c.G]?=some (.ins 2 [(6,.ref c.P),(7,.ref (c.G+1)),(11,.tup (c.fr.map .int)),(12,.int S.now),(13,.ref (c.G+2)),(14,.ref (c.G+3)),(15,.ref (c.G+4))])
 fl:A[c.G+1]?=some (.lst (c.fr.map .int))
 tl:A[c.G+2]?=some (.dT (i3 S))
 sl:A[c.G+3]?=some (.dT (V8 S))
 ul:A[c.G+4]?=some (.dT (an8 S))
 rows:∀e∈S.says,A[e.2.1]?=some (.lst (e.2.2.map rowS))
 lt:c.P<c.G/\c.w<c.G/\c.r<c.G/\c.ll<c.G/\c.dl<c.G/\c.dk<c.G
 hi:∀a∈sadr S,c.G+4<a
 an:(sadr S).Nodup
 kn:(S.says.map (·.1)).Nodup
 ln:(S.lays.map (·.1)).Nodup
 lp:∀p∈S.lays.map (·.1),p∈c.ps
 pg:V5 c.N c.ps
 sz:S.m<=2000/\S.says.length<=S.m/\S.first.length<=S.m/\∀e∈S.says,e.2.2.length<=S.m
theorem Led.keep{A B:PHp}{c:Cfg}{S:LS}(h:Led A c S)(k:∀a∈dom c S,∀o,A[a]?=some o->B[a]?=some o):Led B c S:=by
 have hd:∀a,a∈[c.P,c.w,c.r,c.ll,c.dl,c.dk,c.G+1,c.G,c.G+2,c.G+3,c.G+4]->a∈dom c S:=λa ha=>by
  simp only [List.mem_cons,List.not_mem_nil,or_false] at ha
  simp only [dom,own,List.mem_cons]
  rcases ha with z | z | z | z | z | z | z | z | z | z | z <;> simp [z]
 refine⟨⟨⟨k _ (hd _ (by simp)) _ h.plan.web.ob,k _ (hd _ (by simp)) _ h.plan.web.ls⟩,k _ (hd _ (by simp)) _ h.plan.ob,k _ (hd _ (by simp)) _ h.plan.ls,k _ (hd _ (by simp)) _ h.plan.ld,k _ (hd _ (by simp)) _ h.plan.lk⟩,k _ (hd _ (by simp)) _ h.ob,k _ (hd _ (by simp)) _ h.fl,k _ (hd _ (by simp)) _ h.tl,k _ (hd _ (by simp)) _ h.sl,k _ (hd _ (by simp)) _ h.ul,λe he=>?_,h.lt,h.hi,h.an,h.kn,h.ln,h.lp,h.pg,h.sz⟩
 refine k _ ?_ _ (h.rows e he)
 simp only [dom,own,List.mem_cons]
 have:e.2.1∈sadr S:=List.mem_map.mpr ⟨e,he,rfl⟩
 simp [this]
theorem Led.mono{A B:PHp}{c:Cfg}{S:LS}(h:Led A c S)(e:A<+:B):Led B c S:=h.keep λa _ o q=>pre_get e q
theorem Led.dlt{A:PHp}{c:Cfg}{S:LS}(h:Led A c S):∀a∈dom c S,a<A.length:=λa ha=>by
 simp only [dom,own,List.mem_cons] at ha
 have hG:=J1 h.ul
 have hl:=h.lt
 rcases ha with z | z | z | z | z | z | z | z | z | z | z | z
 ·omega
 ·omega
 ·omega
 ·omega
 ·omega
 ·omega
 ·omega
 ·omega
 ·omega
 ·omega
 ·omega
 ·obtain⟨e,he,rfl⟩:=List.mem_map.mp z
  exact J1 (h.rows e he)
structure Stp(c:Cfg)(S S':LS)(A A':PHp):Prop where
 len:A.length<=A'.length
 keep:∀a o,A[a]?=some o->a∉own c S->A'[a]?=some o
 new:∀a∈sadr S',a∈sadr S\/A.length<=a
theorem Stp.pre{c:Cfg}{S:LS}{A A':PHp}(h:A<+:A'):Stp c S S A A':=⟨h.length_le,λa o q _=>pre_get h q,λa h=>.inl h⟩
theorem Stp.refl{c:Cfg}{S:LS}{A:PHp}:Stp c S S A A:=.pre (List.prefix_refl _)
theorem aL3{c:Cfg}{S S':LS}{A A':PHp}(h:Stp c S S' A A'){a:Nat}(ha:a<A.length)(hn:a∉own c S):a∉own c S':=λz=>hn (by
 simp only [own,List.mem_cons] at z ⊢
 rcases z with z | z | z | z | z
 ·simp [z]
 ·simp [z]
 ·simp [z]
 ·simp [z]
 ·rcases h.new a z with z | z
  ·simp [z]
  ·omega)
theorem Stp.trans{c:Cfg}{S S' S'':LS}{A A' A'':PHp}(h:Stp c S S' A A')(h':Stp c S' S'' A' A''):Stp c S S'' A A'':=
 ⟨Nat.le_trans h.len h'.len,λa o q n=>h'.keep a o (h.keep a o q n) (aL3 h (J1 q) n),λa ha=>by
  rcases h'.new a ha with z | z
  ·exact h.new a z
  ·exact .inr (Nat.le_trans h.len z)⟩
section
variable{A:PHp}{c:Cfg}{S:LS}
theorem move_ok(H:Led A c S):Wp (P0 [.ref c.G]) A (λv A'=>v=.non/\Led A' c { S with now:=S.now+1 }/\Stp c S { S with now:=S.now+1 } A A') NoX:=by
 unfold P0
 have h1:=H.ob
 walk_at "fn"
 walk_at "gb"
 have hl:=H.lt
 have k:∀a o,A[a]?=some o->a≠c.G->(A.set c.G (PO.ins 2 (putFld 12 (PV.int (S.now+1)) [(6,.ref c.P),(7,.ref (c.G+1)),(11,.tup (c.fr.map .int)),(12,.int S.now),(13,.ref (c.G+2)),(14,.ref (c.G+3)),(15,.ref (c.G+4))])))[a]?=some o:=λa o q n=>(G7 n).trans q
 refine⟨trivial,⟨⟨⟨k _ _ H.plan.web.ob (by omega),k _ _ H.plan.web.ls (by omega)⟩,k _ _ H.plan.ob (by omega),k _ _ H.plan.ls (by omega),k _ _ H.plan.ld (by omega),k _ _ H.plan.lk (by omega)⟩,get_set h1,k _ _ H.fl (by omega),k _ _ H.tl (by omega),k _ _ H.sl (by omega),k _ _ H.ul (by omega),λe he=>k _ _ (H.rows e he) ?_,H.lt,H.hi,H.an,H.kn,H.ln,H.lp,H.pg,H.sz⟩,⟨by simp,λa o q n=>k a o q (λz=>n (by rw [z];exact List.mem_cons_self)),λa h=>.inl h⟩⟩
 have:=H.hi e.2.1 (List.mem_map.mpr ⟨e,he,rfl⟩)
 omega
theorem a21{w r:Nat}{N:Nat}{ps:List (Int×Int)}(W:WebAt A w r N ps)(hg:V5 N ps)(p:Int×Int):Wp (b9 [.ref w,pv p]) A (λv A'=>v=.bl (decide (p∈ps))/\A'=A) NoX:=by
 unfold b9
 have h1:=W.ob
 have h2:=W.ls
 walk_at "fn"
 walk_at "gb"
 refine w_eq (p6 _ _ _) ⟨_,rfl,λhb=>?_,λhb=>?_⟩
 ·walk_at "gb"
  refine w_inP h2 ?_
  exact⟨by simp [(R4 ps).mem_iff],rfl⟩
 ·refine⟨?_,rfl⟩
  have:p∉ps:=λz=>by have:=hg.good p z;simp [this] at hb
  simp [this]
def Q3(p:Int×Int):PV:=.tup [.str "lay",pv p]
def T7(p:Int×Int)(ch:List Int):PV:=.tup [.str "say",pv p,.tup (ch.map .int)]
theorem a22(H:Led A c S)(p:Int×Int):Wp (R9 [.ref c.P,Q3 p]) A (λv A'=>v=.bl (decide (p∈c.ps))/\A'=A) NoX:=by
 unfold R9 Q3
 have h1:=H.plan.ob
 walk_at "fn"
 walk_at "gb"
 refine w_mono (a21 H.plan.web H.pg p) λv A1 hh=>?_
 obtain⟨rfl,rfl⟩:=hh
 walk_at "gb"
 refine⟨λhb=>?_,λhb=>?_⟩
 ·walk_at "gb"
  have:p∉c.ps:=by simpa using hb
  simp [this]
 ·walk_at "gb"
  have:p∈c.ps:=by simpa using hb
  simp [this]
theorem chain_of(H:Led A c S){ch:List Int}(hc:ch.length<100):Wp (O9 [.ref c.P,.tup (ch.map .int)]) A (λv A'=>A<+:A'/\∃b,v=.bl b/\(b=true↔z7 c.N c.ps c.L ch)) NoX:=by
 unfold O9
 have h1:=H.plan.ob
 have h2:=H.plan.web.ob
 walk_at "fn"
 walk_at "gb"
 unfold c5
 refine J9 (l:=ch.map .int) (λσ=>∃x,σ=[x,some (.ref c.P)]) (λ_=>true) (λv=>.bl (match v with | .int x=>decide (0<=x/\x<(c.N:Int)) | _=>false)) ?_
 walk_at "go"
 refine⟨⟨_,rfl⟩,λi=>rfl,?_,?_⟩
 ·rintro v σ hv ⟨x,rfl⟩
  obtain⟨y,hy,rfl⟩:=List.mem_map.mp hv
  walk_at "go"
  refine⟨rfl,⟨_,rfl⟩,?_⟩
  walk_at "go"
  refine⟨rfl,rfl,λ_=>?_⟩
  walk_at "go"
  exact w_eq (is_hand_eq c.N y A) ⟨rfl,rfl⟩
 have e1:((ch.map PV.int).filter λ_=>true).map (λv=>PV.bl (match v with | .int x=>decide (0<=x/\x<(c.N:Int)) | _=>false))=(ch.map λx=>decide (0<=x/\x<(c.N:Int))).map PV.bl:=by
  rw [List.filter_eq_self.mpr (by simp),List.map_map,List.map_map];rfl
 refine⟨_,_,rfl,by rw [get_app,e1],?_⟩
 walk_at "go"
 refine⟨λhb=>?_,λhb=>?_⟩
 ·walk_at "gb"
  refine⟨λz=>(nomatch z),λz=>?_⟩
  have:((ch.map λx=>decide (0<=x/\x<(c.N:Int))).all id)=true:=(all_map _ _).mpr λx hx=>decide_eq_true (z.2.2.1 x hx)
  rw [this] at hb;cases hb
 ·rw [e1]
  generalize hA1:A++[PO.lst ((ch.map λx=>decide (0<=x/\x<(c.N:Int))).map PV.bl)]=A1
  have p1:A<+:A1:=by rw [←hA1];exact al7 _
  have h1:=pre_get p1 h1
  walk_at "gb"
  refine w_mono (chain_okT (H.plan.web.mono p1) hc) λv A2 hh=>?_
  obtain⟨p2,b,rfl,hb⟩:=hh
  exact⟨p1.trans p2,b,rfl,hb⟩
theorem at0{ch:List Int}{x:Int}(h:ch.head?=some x):atI (ch.map PV.int) 0=some (.int x):=by
 cases ch with
 | nil=>cases h
 | cons a r=>cases h;unfold atI ixN;simp
theorem a23(H:Led A c S)(p:Int×Int){ch:List Int}(hc:ch.length<100):Wp (R9 [.ref c.P,T7 p ch]) A (λv A'=>A<+:A'/\∃b,v=.bl b/\(b=true↔p∈c.ps/\z7 c.N c.ps c.L ch/\ch.head?=some p.2)) NoX:=by
 unfold R9 T7
 have h1:=H.plan.ob
 walk_at "fn"
 walk_at "gb"
 refine w_mono (a21 H.plan.web H.pg p) λv A1 hh=>?_
 obtain⟨rfl,rfl⟩:=hh
 walk_at "gb"
 refine⟨λhb=>?_,λhb=>?_⟩
 ·walk_at "gb"
  have:p∉c.ps:=by simpa using hb
  simp [this]
 ·have hp:p∈c.ps:=by simpa using hb
  walk_at "gb"
  refine w_mono (chain_of H hc) λv A2 hh=>?_
  obtain⟨p2,b,rfl,hb⟩:=hh
  refine⟨b,rfl,λhbt=>?_,λhbf=>?_⟩
  ·have hch:=hb.mp hbt
   obtain⟨x,hx⟩:∃x,ch.head?=some x:=by
    obtain⟨⟨hne,_⟩,_⟩:=hch
    cases ch with
    | nil=>exact absurd rfl hne
    | cons a r=>exact⟨a,rfl⟩
   have h0:=at0 hx
   unfold pv
   walk_at "gb"
   rw [hx]
   simp [hp,hch]
  ·refine⟨p2,false,rfl,λz=>(nomatch z),λz=>?_⟩
   rw [hb.mpr z.2.1] at hbf;cases hbf
end
def look{α β:Type}[DecidableEq α]:List (α×β)->α->Option β
 | [],_=>none
 | e::r,k=>if e.1=k then some e.2 else look r k
def I9(S:LS)(p:Int×Int):Option Int:=look S.lays p
def r6(S:LS)(ch:List Int):Option Int:=look S.first ch
def T9(S:LS)(p:Int×Int):Option (Nat×List (Int×List Int)):=look S.says p
def Q7(S:LS)(p:Int×Int):List (Int×List Int):=((T9 S p).map (·.2)).getD []
theorem av9{β:Type}(f:β->PV):∀(l:List ((Int×Int)×β)) (p:Int×Int),J8 (l.map λe=>(l2 e.1,f e.2)) (l2 p)=(look l p).map f
 | [],_=>rfl
 | e::r,p=>by
   show (if l2 e.1=l2 p then some (f e.2) else J8 (r.map _) (l2 p))=(if e.1=p then some e.2 else look r p).map f
   by_cases h:e.1=p
   ·rw [if_pos (by rw [h]),if_pos h];rfl
   ·rw [if_neg (λz=>h (t5 z)),if_neg h];exact av9 f r p
theorem a24{β:Type}(f:β->PV):∀(l:List (List Int×β)) (p:List Int),J8 (l.map λe=>(e.1,f e.2)) p=(look l p).map f
 | [],_=>rfl
 | e::r,p=>by
   show (if e.1=p then some (f e.2) else J8 (r.map _) p)=(if e.1=p then some e.2 else look r p).map f
   by_cases h:e.1=p
   ·rw [if_pos h,if_pos h];rfl
   ·rw [if_neg h,if_neg h];exact a24 f r p
theorem aw0(S:LS)(p:Int×Int):J8 (i3 S) (l2 p)=(I9 S p).map .int:=av9 _ _ _
theorem aL4(S:LS)(ch:List Int):J8 (an8 S) ch=(r6 S ch).map .int:=a24 _ _ _
theorem aL5(S:LS)(p:Int×Int):J8 (V8 S) (l2 p)=(T9 S p).map λe=>.ref e.1:=av9 (λe:Nat×List (Int×List Int)=>PV.ref e.1) _ _
section
variable{α β:Type}[DecidableEq α]
theorem al8:∀{l:List (α×β)} {k:α} {v:β},look l k=some v->(k,v)∈l
 | e::r,k,v,h=>by
   unfold look at h
   by_cases c:e.1=k
   ·rw [if_pos c] at h;cases h;rw [←c];exact List.mem_cons_self
   ·rw [if_neg c] at h;exact List.mem_cons_of_mem _ (al8 h)
theorem aL6:∀{l:List (α×β)} {k:α} {v:β},(l.map (·.1)).Nodup->(k,v)∈l->look l k=some v
 | e::r,k,v,nd,h=>by
   have nd':=List.nodup_cons.mp nd
   unfold look
   rcases List.mem_cons.mp h with z | z
   ·rw [←z,if_pos rfl]
   ·rw [if_neg (λq=>nd'.1 (by show e.1∈_;rw [q];exact List.mem_map.mpr ⟨_,z,rfl⟩)),aL6 nd'.2 z]
theorem look_none:∀{l:List (α×β)} {k:α},look l k=none↔k∉l.map (·.1)
 | [],k=>by simp [look]
 | e::r,k=>by
   unfold look
   by_cases c:e.1=k
   ·rw [if_pos c];simp [c]
   ·rw [if_neg c,look_none]
    have:k≠e.1:=λz=>c z.symm
    simp [this]
theorem aB1{l m:List (α×β)}{k:α}:look (l++m) k=(look l k).or (look m k):=by
 induction l with
 | nil=>rfl
 | cons e r ih=>
   show (if e.1=k then some e.2 else look (r++m) k)=(if e.1=k then some e.2 else look r k).or _
   by_cases c:e.1=k
   ·rw [if_pos c,if_pos c];rfl
   ·rw [if_neg c,if_neg c,ih]
theorem al9{k j:α}{v:β}:look [(k,v)] j=if k=j then some v else none:=rfl
end
def aheadB(S:LS)(p:Int×Int):Bool:=match I9 S p with
 | some t=>decide (t<S.now)
 | none=>false
def U0(c:Cfg)(S:LS)(p:Int×Int)(ch:List Int):Bool:=decide (c.f p+ch.length<S.now)
def am0(fr ch:List Int):List Int:=(ch.drop 1).dropWhile λh=>decide (h∈fr)
def saidB(S:LS)(ch:List Int):Bool:=match r6 S ch with
 | some t=>decide (t<S.now)
 | none=>false
def aw1(c:Cfg)(S:LS)(ch:List Int):Bool:=decide (am0 c.fr ch=[])||saidB S (am0 c.fr ch)
open Classical in
def aR2(c:Cfg)(S:LS)(p:Int×Int)(ch:List Int):Nat:=
 if p∈c.ps/\z7 c.N c.ps c.L ch/\ch.head?=some p.2 then (if aheadB S p=true then (if U0 c S p ch=true then 15 else if aw1 c S ch=true then 0 else 16) else 14) else 12
def layS(S:LS)(p:Int×Int):LS:={ S with lays:=S.lays++[(p,S.now)] }
def P4(S:LS)(p:Int×Int)(ch:List Int):(Int×Int)×Nat×List (Int×List Int)->(Int×Int)×Nat×List (Int×List Int):=λe=>if e.1=p then (e.1,e.2.1,e.2.2++[(S.now,ch)]) else e
def sayS(S:LS)(p:Int×Int)(ch:List Int)(a:Nat):LS:=
 { S with says:=if (T9 S p).isSome=true then S.says.map (P4 S p ch) else S.says++[(p,a,[(S.now,ch)])],
          first:=if (r6 S ch).isSome=true then S.first else S.first++[(ch,S.now)],m:=S.m+1 }
section
variable{A:PHp}{c:Cfg}{S:LS}
theorem bx3(p:Int×Int):Q8 (pv p)=some (l2 p):=rfl
theorem bo6(ch:List Int):Q8 (.tup (ch.map .int))=some ch:=P7 ch
theorem a25(H:Led A c S)(p:Int×Int):Wp (G4 [.ref c.G,pv p]) A (λv A'=>v=.bl (aheadB S p)/\A'=A) NoX:=by
 unfold G4
 have h1:=H.ob
 have h2:=H.tl
 walk_at "fn"
 walk_at "gb"
 have hv:J8 (i3 S) [p.1,p.2]=(I9 S p).map .int:=aw0 S p
 refine⟨λhb=>?_,λhb=>?_⟩
 ·rw [hv] at hb
  obtain⟨t,ht⟩:∃t,I9 S p=some t:=by
   cases h:I9 S p with
   | none=>rw [h] at hb;cases hb
   | some t=>exact⟨t,rfl⟩
  rw [ht] at hv
  have hv':J8 (i3 S) [p.1,p.2]=some (.int t):=hv
  walk_at "gb"
  exact⟨by unfold aheadB;rw [ht],rfl⟩
 ·rw [hv] at hb
  refine⟨?_,rfl⟩
  unfold aheadB
  cases h:I9 S p with
  | none=>rfl
  | some t=>rw [h] at hb;cases hb
theorem late_ok(H:Led A c S){p:Int×Int}(hp:p∈c.ps)(ch:List Int):Wp (E7 [.ref c.G,pv p,.tup (ch.map .int)]) A (λv A'=>v=.bl (U0 c S p ch)/\A'=A) NoX:=by
 unfold E7
 have h1:=H.ob
 have h2:=H.plan.ob
 walk_at "fn"
 walk_at "gb"
 unfold S8
 walk_at "fn"
 walk_at "gb"
 have hs:p∈srt c.ps:=(R4 c.ps).mem_iff.mpr hp
 refine⟨_,_,_,_,rfl,bx3 p,H.plan.lk,ae8 (srt_nd H.pg.nd) hs,?_⟩
 walk_at "gb"
 exact⟨rfl,rfl⟩
theorem said_ahead(H:Led A c S)(ch:List Int):Wp (G5 [.ref c.G,.tup (ch.map .int)]) A (λv A'=>v=.bl (saidB S ch)/\A'=A) NoX:=by
 unfold G5
 have h1:=H.ob
 have h2:=H.ul
 walk_at "fn"
 walk_at "gb"
 have hv:=aL4 S ch
 refine⟨_,_,_,rfl,bo6 ch,h2,_,rfl,λhb=>?_,λhb=>?_⟩
 ·rw [hv] at hb
  obtain⟨t,ht⟩:∃t,r6 S ch=some t:=by
   cases h:r6 S ch with
   | none=>rw [h] at hb;cases hb
   | some t=>exact⟨t,rfl⟩
  rw [ht] at hv
  walk_at "gb"
  refine⟨_,_,_,_,rfl,bo6 ch,h2,hv,?_⟩
  walk_at "gb"
  exact⟨by unfold saidB;rw [ht],rfl⟩
 ·rw [hv] at hb
  refine⟨?_,rfl⟩
  unfold saidB
  cases h:r6 S ch with
  | none=>rfl
  | some t=>rw [h] at hb;cases hb
theorem can_ok(H:Led A c S){ch:List Int}(hne:ch≠[])(hc:ch.length<100):Wp (J3 [.ref c.G,.tup (ch.map .int)]) A (λv A'=>v=.bl (aw1 c S ch)/\A'=A) NoX:=by
 unfold J3
 have h1:=H.ob
 walk_at "fn"
 walk_at "gb"
 refine⟨lt_cut hne,?_⟩
 walk_at "gb"
 rw [cut_1,←List.map_drop]
 have hw:Wp (O2 [some (.ref c.G),some (.tup (ch.map .int)),some (.tup ((ch.drop 1).map .int))]) A (λo A'=>o=.nx [some (.ref c.G),some (.tup (ch.map .int)),some (.tup ((am0 c.fr ch).map .int))]/\A'=A) NoX:=by
  unfold O2
  refine bb9 (λm σ B=>B=A/\∃l:List Int,l.length<=m/\σ=[some (.ref c.G),some (.tup (ch.map .int)),some (.tup (l.map .int))]/\l.dropWhile (λh=>decide (h∈c.fr))=am0 c.fr ch) (m:=100) (by decide) ⟨rfl,ch.drop 1,by rw [List.length_drop];omega,rfl,rfl⟩ ?_
  rintro m σ B ⟨rfl,l,hl,rfl,hr⟩
  walk_at "gb"
  refine⟨λhb=>?_,λhb=>?_⟩
  ·cases l with
   | nil=>cases hb
   | cons a l=>
     have h0:atI ((a::l).map PV.int) 0=some (.int a):=at0 rfl
     walk_at "gb"
     refine⟨λhb2=>?_,λhb2=>?_⟩
     ·unfold S9
      walk_at "gb"
      refine⟨lt_cut (by simp),?_⟩
      walk_at "gb"
      rw [cut_1,←List.map_drop]
      have hmem:a∈c.fr:=of_decide_eq_true hb2
      rw [List.dropWhile_cons_of_pos (by simpa using hmem)] at hr
      exact⟨m - 1,by simp at hl;omega,rfl,l,by simp at hl;omega,rfl,hr⟩
     ·have hmem:a∉c.fr:=of_decide_eq_false hb2
      rw [List.dropWhile_cons_of_neg (by simpa using hmem)] at hr
      exact⟨by rw [←hr],rfl⟩
  ·have:l=[]:=by simpa using hb
   subst this
   refine brF ⟨by rw [←hr];rfl,rfl⟩
 refine w_mono hw λo A1 hh=>?_
 obtain⟨rfl,rfl⟩:=hh
 walk_at "gb"
 refine⟨λhb=>?_,λhb=>?_⟩
 ·refine⟨?_,rfl⟩
  unfold aw1;rw [hb];rfl
 ·walk_at "gb"
  refine w_mono (said_ahead H _) λv A2 hh=>?_
  obtain⟨rfl,rfl⟩:=hh
  exact⟨by unfold aw1;rw [hb];rfl,rfl⟩
end
theorem a26{S:LS}{p:Int×Int}(h:I9 S p=none):W8 (i3 S) (l2 p) (.int S.now)=i3 (layS S p):=by
 rw [z6]
 ·simp [i3,layS]
 ·intro z
  have e:(i3 S).map (·.1)=(S.lays.map (·.1)).map l2:=by unfold i3;simp [Function.comp_def]
  rw [e] at z
  obtain⟨q,hq,e⟩:=List.mem_map.mp z
  rw [t5 e] at hq
  exact look_none.mp h hq
theorem a27{S:LS}{ch:List Int}{p:Int×Int}{a:Nat}(h:T9 S p=none):W8 (V8 S) (l2 p) (.ref a)=V8 (sayS S p ch a):=by
 rw [z6]
 ·unfold V8 sayS;simp only;rw [h];simp
 ·intro z
  have e:(V8 S).map (·.1)=(S.says.map (·.1)).map l2:=by unfold V8;simp [Function.comp_def]
  rw [e] at z
  obtain⟨q,hq,e⟩:=List.mem_map.mp z
  rw [t5 e] at hq
  exact look_none.mp h hq
theorem l8{S:LS}{p:Int×Int}{ch:List Int}(e:(Int×Int)×Nat×List (Int×List Int)):(P4 S p ch e).1=e.1/\(P4 S p ch e).2.1=e.2.1:=by
 unfold P4
 by_cases h:e.1=p
 ·rw [if_pos h];exact⟨rfl,rfl⟩
 ·rw [if_neg h];exact⟨rfl,rfl⟩
theorem aR3{S:LS}{ch:List Int}{p:Int×Int}{a:Nat}(h:(T9 S p).isSome=true):V8 (sayS S p ch a)=V8 S:=by
 unfold V8 sayS;simp only;rw [if_pos h,List.map_map]
 refine List.map_congr_left λe _=>?_
 show (l2 (P4 S p ch e).1,PV.ref (P4 S p ch e).2.1)=_
 rw [(l8 e).1,(l8 e).2]
theorem aR4{S:LS}{ch:List Int}{p:Int×Int}{a:Nat}(h:(T9 S p).isSome=true):sadr (sayS S p ch a)=sadr S:=by
 unfold sadr sayS;simp only;rw [if_pos h,List.map_map]
 exact List.map_congr_left λe _=>(l8 e).2
theorem a28{S:LS}{ch:List Int}{p:Int×Int}{a:Nat}(h:T9 S p=none):sadr (sayS S p ch a)=sadr S++[a]:=by
 unfold sadr sayS;simp only;rw [h];simp
theorem bo7{α:Type}{l:List α}(nd:l.Nodup){i j:Nat}(hi:i<l.length)(hj:j<l.length)(e:l[i]=l[j]):i=j:=by
 rcases Nat.lt_trichotomy i j with z | z | z
 ·exact absurd e (List.pairwise_iff_getElem.mp nd i j hi hj z)
 ·exact z
 ·exact absurd e.symm (List.pairwise_iff_getElem.mp nd j i hj hi z)
section
variable{A:PHp}{c:Cfg}{S:LS}
def W0(S:LS)(p:Int×Int)(ch:List Int)(a:Nat):LS:=
 { S with says:=if (T9 S p).isSome=true then S.says.map (P4 S p ch) else S.says++[(p,a,[(S.now,ch)])],m:=S.m+1 }
def z8(S:LS)(ch:List Int):LS:={ S with first:=if (r6 S ch).isSome=true then S.first else S.first++[(ch,S.now)] }
theorem bu2(p:Int×Int)(ch:List Int)(a:Nat):z8 (W0 S p ch a) ch=sayS S p ch a:=rfl
theorem a29{p:Int×Int}{ch:List Int}{a:Nat}:V8 (W0 S p ch a)=V8 (sayS S p ch a):=rfl
theorem a30{p:Int×Int}{ch:List Int}{a:Nat}:sadr (W0 S p ch a)=sadr (sayS S p ch a):=rfl
theorem bc4(H:Led A c S){p:Int×Int}{ch:List Int}(hm:S.m<2000){d:PV}:Wp (Y5 (m9 (aa8 (J0 (eVar 0) 14) (eVar 2) (eLst aNil)) (W3 (aCons (J0 (eVar 0) 12) (aCons (eVar 3) aNil)))) [some (.ref c.G),some d,some (pv p),some (.tup (ch.map .int))]) A
 (λo A'=>o=.nx [some (.ref c.G),some d,some (pv p),some (.tup (ch.map .int))]/\∃a,Led A' c (W0 S p ch a)/\Stp c S (W0 S p ch a) A A') NoX:=by
 have h1:=H.ob
 have h2:=H.sl
 have hl:=H.lt
 have hv:J8 (V8 S) (l2 p)=(T9 S p).map λe=>.ref e.1:=aL5 S p
 have hG:=J1 H.ul
 have hsz:=H.sz
 refine w_exp (w_append (w_tsetd ?_))
 walk_at "gb"
 have h3:(A++[PO.lst []])[c.G+3]?=some (.dT (V8 S)):=get_app_of h2
 have h1':(A++[PO.lst []])[c.G]?=some _:=get_app_of h1
 have hv':J8 (V8 S) [p.1,p.2]=(T9 S p).map λe=>.ref e.1:=hv
 refine⟨λw hw=>?_,λhw=>?_⟩
 ·rw [hv'] at hw
  obtain⟨⟨a0,rows⟩,hs,rfl⟩:=Option.map_eq_some_iff.mp hw
  have hmem:(p,a0,rows)∈S.says:=al8 hs
  have hr:A[a0]?=some (.lst (rows.map rowS)):=H.rows _ hmem
  have hr':(A++[PO.lst []])[a0]?=some (.lst (rows.map rowS)):=get_app_of hr
  have hisS:(T9 S p).isSome=true:=by rw [hs];rfl
  refine⟨_,_,rfl,hr',?_⟩
  walk_at "gb"
  have hlen:(rows.map rowS).length<LIM:=by
   refine Z2 ?_
   have:=hsz.2.2.2 _ hmem
   rw [List.length_map];simp at this;omega
  refine⟨hlen,rfl,a0,?_⟩
  have ha0:=H.hi a0 (List.mem_map.mpr ⟨_,hmem,rfl⟩)
  have ha0l:=J1 hr
  have e1:rows.map rowS++[PV.tup [.int S.now,.tup (ch.map .int)]]=(rows++[(S.now,ch)]).map rowS:=by rw [List.map_append];rfl
  rw [e1]
  have k:∀a o,A[a]?=some o->a≠a0->((A++[PO.lst []]).set a0 (PO.lst ((rows++[(S.now,ch)]).map rowS)))[a]?=some o:=λa o q n=>(G7 n).trans (get_app_of q)
  have hD:V8 (W0 S p ch a0)=V8 S:=by rw [a29];exact aR3 hisS
  have hA:sadr (W0 S p ch a0)=sadr S:=by rw [a30];exact aR4 hisS
  have hS:(W0 S p ch a0).says=S.says.map (P4 S p ch):=by unfold W0;simp only;rw [if_pos hisS]
  refine⟨⟨⟨⟨k _ _ H.plan.web.ob (by omega),k _ _ H.plan.web.ls (by omega)⟩,k _ _ H.plan.ob (by omega),k _ _ H.plan.ls (by omega),k _ _ H.plan.ld (by omega),k _ _ H.plan.lk (by omega)⟩,k _ _ H.ob (by omega),k _ _ H.fl (by omega),k _ _ H.tl (by omega),(by rw [hD];exact k _ _ H.sl (by omega)),k _ _ H.ul (by omega),?_,H.lt,(by rw [hA];exact H.hi),(by rw [hA];exact H.an),?_,H.ln,H.lp,H.pg,?_⟩,?_⟩
  ·rw [hS]
   intro e he
   obtain⟨e0,he0,rfl⟩:=List.mem_map.mp he
   unfold P4
   by_cases hk:e0.1=p
   ·rw [if_pos hk]
    have:look S.says e0.1=some e0.2:=aL6 H.kn he0
    rw [hk] at this
    have e2:e0.2=(a0,rows):=Option.some.inj (this.symm.trans hs)
    rw [e2]
    exact get_set hr'
   ·rw [if_neg hk]
    refine k _ _ (H.rows e0 he0) λz=>hk ?_
    obtain⟨i,hi,e3⟩:=List.mem_iff_getElem.mp he0
    obtain⟨j,hj,e4⟩:=List.mem_iff_getElem.mp hmem
    by_cases hij:i=j
    ·subst hij;rw [e3] at e4;rw [e4]
    ·exfalso
     refine hij (bo7 H.an (i:=i) (j:=j) (by unfold sadr;rw [List.length_map];exact hi) (by unfold sadr;rw [List.length_map];exact hj) ?_)
     unfold sadr
     rw [List.getElem_map,List.getElem_map,e3,e4];exact z
  ·rw [hS,List.map_map]
   have:S.says.map ((·.1) ∘ P4 S p ch)=S.says.map (·.1):=List.map_congr_left λe _=>(l8 e).1
   rw [this];exact H.kn
  ·refine⟨show S.m+1<=2000 by omega,?_,show S.first.length<=S.m+1 by omega,?_⟩
   ·rw [hS,List.length_map];show S.says.length<=S.m+1;omega
   ·rw [hS]
    intro e he
    obtain⟨e0,he0,rfl⟩:=List.mem_map.mp he
    have:=hsz.2.2.2 e0 he0
    show (P4 S p ch e0).2.2.length<=S.m+1
    unfold P4
    by_cases hk:e0.1=p
    ·rw [if_pos hk];simp;omega
    ·rw [if_neg hk];omega
  ·refine⟨by simp,λa o q n=>k a o q λz=>n ?_,λa h=>.inl (by rw [hA] at h;exact h)⟩
   rw [z]
   refine .tail _ (.tail _ (.tail _ (.tail _ ?_)))
   exact List.mem_map.mpr ⟨_,hmem,rfl⟩
 ·rw [hv'] at hw
  have hn:T9 S p=none:=by simpa using hw
  have hlenS:(V8 S).length<LIM:=by
   refine Z2 ?_
   unfold V8;rw [List.length_map];omega
  refine⟨hlenS,?_⟩
  have hput:W8 (V8 S) [p.1,p.2] (.ref A.length)=V8 (W0 S p ch A.length):=by rw [a29];exact a27 hn
  rw [hput]
  have hne:A.length≠c.G+3:=by omega
  have h4:((A++[PO.lst []]).set (c.G+3) (PO.dT (V8 (W0 S p ch A.length))))[A.length]?=some (.lst []):=(G7 hne).trans get_app
  have h5:((A++[PO.lst []]).set (c.G+3) (PO.dT (V8 (W0 S p ch A.length))))[c.G]?=some _:=(G7 (by omega)).trans h1'
  refine⟨_,_,rfl,h4,?_⟩
  walk_at "gb"
  refine⟨rfl,A.length,?_⟩
  have k:∀a o,A[a]?=some o->a≠c.G+3->(((A++[PO.lst []]).set (c.G+3) (PO.dT (V8 (W0 S p ch A.length)))).set A.length (PO.lst ([]++[PV.tup [.int S.now,.tup (ch.map .int)]])))[a]?=some o:=λa o q n=>(G7 (by have:=J1 q;omega)).trans ((G7 n).trans (get_app_of q))
  have hA:sadr (W0 S p ch A.length)=sadr S++[A.length]:=by rw [a30];exact a28 hn
  have hS:(W0 S p ch A.length).says=S.says++[(p,A.length,[(S.now,ch)])]:=by unfold W0;simp only;rw [hn];rfl
  have hlt:∀e∈S.says,e.2.1<A.length:=λe he=>J1 (H.rows e he)
  refine⟨⟨⟨⟨k _ _ H.plan.web.ob (by omega),k _ _ H.plan.web.ls (by omega)⟩,k _ _ H.plan.ob (by omega),k _ _ H.plan.ls (by omega),k _ _ H.plan.ld (by omega),k _ _ H.plan.lk (by omega)⟩,k _ _ H.ob (by omega),k _ _ H.fl (by omega),k _ _ H.tl (by omega),(G7 (Ne.symm hne)).trans (get_set h3),k _ _ H.ul (by omega),?_,H.lt,?_,?_,?_,H.ln,H.lp,H.pg,?_⟩,?_⟩
  ·rw [hS]
   intro e he
   rcases List.mem_append.mp he with z | z
   ·have:=H.hi e.2.1 (List.mem_map.mpr ⟨e,z,rfl⟩)
    exact k _ _ (H.rows e z) (by omega)
   ·rw [List.mem_singleton.mp z]
    exact get_set h4
  ·rw [hA]
   intro a ha
   rcases List.mem_append.mp ha with z | z
   ·exact H.hi a z
   ·rw [List.mem_singleton.mp z];omega
  ·rw [hA,List.nodup_append]
   refine⟨H.an,by simp,λx hx y hy z=>?_⟩
   rw [List.mem_singleton.mp hy] at z
   obtain⟨e,he,rfl⟩:=List.mem_map.mp hx
   have:=hlt e he
   omega
  ·rw [hS,List.map_append,List.nodup_append]
   refine⟨H.kn,by simp,λx hx y hy z=>?_⟩
   have hy':y=p:=by simpa using hy
   rw [z,hy'] at hx
   exact look_none.mp hn hx
  ·refine⟨show S.m+1<=2000 by omega,?_,show S.first.length<=S.m+1 by omega,?_⟩
   ·rw [hS,List.length_append];show S.says.length+1<=S.m+1;omega
   ·rw [hS]
    intro e he
    show e.2.2.length<=S.m+1
    rcases List.mem_append.mp he with z | z
    ·have:=hsz.2.2.2 e z;omega
    ·rw [List.mem_singleton.mp z];simp
  ·refine⟨by simp,λa o q n=>k a o q λz=>n ?_,λa h=>?_⟩
   ·rw [z];exact .tail _ (.tail _ List.mem_cons_self)
   ·rw [hA] at h
    rcases List.mem_append.mp h with z | z
    ·exact .inl z
    ·rw [List.mem_singleton.mp z];exact .inr (Nat.le_refl _)
theorem bc5(H:Led A c S){ch:List Int}(hf:S.first.length<S.m){d x:PV}:Wp (Y5 (aa8 (J0 (eVar 0) 15) (eVar 3) (J0 (eVar 0) 12)) [some (.ref c.G),some d,some x,some (.tup (ch.map .int))]) A
 (λo A'=>o=.nx [some (.ref c.G),some d,some x,some (.tup (ch.map .int))]/\Led A' c (z8 S ch)/\Stp c S (z8 S ch) A A') NoX:=by
 have h1:=H.ob
 have h2:=H.ul
 have hl:=H.lt
 have hv:J8 (an8 S) ch=(r6 S ch).map .int:=aL4 S ch
 have hsz:=H.sz
 refine w_exp (w_tsetd ?_)
 walk_at "gb"
 refine⟨_,_,bo6 ch,h2,λw hw=>?_,λhw=>?_⟩
 ·rw [hv] at hw
  have hi:(r6 S ch).isSome=true:=by
   obtain⟨t,ht,_⟩:=Option.map_eq_some_iff.mp hw
   rw [ht];rfl
  have e:z8 S ch=S:=by unfold z8;rw [if_pos hi]
  rw [e]
  exact⟨rfl,H,.refl⟩
 ·rw [hv] at hw
  have hn:r6 S ch=none:=by simpa using hw
  refine⟨Z2 (by unfold an8;rw [List.length_map];omega),rfl,?_⟩
  have e:(z8 S ch).first=S.first++[(ch,S.now)]:=by unfold z8;simp only;rw [hn];rfl
  have hput:W8 (an8 S) ch (.int S.now)=an8 (z8 S ch):=by
   rw [z6]
   ·unfold an8;rw [e];simp
   ·intro z
    have e:(an8 S).map (·.1)=S.first.map (·.1):=by unfold an8;simp [Function.comp_def]
    rw [e] at z
    exact look_none.mp hn z
  rw [hput]
  have k:∀a o,A[a]?=some o->a≠c.G+4->(A.set (c.G+4) (PO.dT (an8 (z8 S ch))))[a]?=some o:=λa o q n=>(G7 n).trans q
  refine⟨⟨⟨⟨k _ _ H.plan.web.ob (by omega),k _ _ H.plan.web.ls (by omega)⟩,k _ _ H.plan.ob (by omega),k _ _ H.plan.ls (by omega),k _ _ H.plan.ld (by omega),k _ _ H.plan.lk (by omega)⟩,k _ _ H.ob (by omega),k _ _ H.fl (by omega),k _ _ H.tl (by omega),k _ _ H.sl (by omega),get_set h2,λe he=>k _ _ (H.rows e he) ?_,H.lt,H.hi,H.an,H.kn,H.ln,H.lp,H.pg,⟨hsz.1,hsz.2.1,?_,hsz.2.2.2⟩⟩,⟨by simp,λa o q n=>k a o q λz=>n ?_,λa h=>.inl h⟩⟩
  ·have:=H.hi e.2.1 (List.mem_map.mpr ⟨e,he,rfl⟩)
   omega
  ·rw [e,List.length_append];show S.first.length+1<=S.m;omega
  ·rw [z];exact .tail _ (.tail _ (.tail _ List.mem_cons_self))
def aL7(c:Cfg)(S:LS)(p:Int×Int)(ch:List Int):Nat:=if aheadB S p=true then (if U0 c S p ch=true then 15 else if aw1 c S ch=true then 0 else 16) else 14
theorem aL8{p:Int×Int}{ch:List Int}(h:p∈c.ps/\z7 c.N c.ps c.L ch/\ch.head?=some p.2):aR2 c S p ch=aL7 c S p ch:=by
 unfold aR2 aL7;rw [if_pos h]
theorem said_ok(H:Led A c S)(p:Int×Int):Wp (P1 [.ref c.G,pv p]) A (λv A'=>∃n,v=.ref n/\A.length<=n/\A<+:A'/\A'[n]?=some (.lst ((Q7 S p).map rowS))/\A'.length=n+1) NoX:=by
 unfold P1
 have h1:=H.ob
 have h2:=H.sl
 walk_at "fn"
 refine w_retS (w_listOf (w_tget2 ?_))
 walk_at "gb"
 have hv:J8 (V8 S) [p.1,p.2]=(T9 S p).map λe=>.ref e.1:=aL5 S p
 rw [hv]
 cases hs:T9 S p with
 | none=>
   have e:Q7 S p=[]:=by unfold Q7;rw [hs];rfl
   rw [e]
   show Wp (O5 (.ref A.length)) _ _ _
   refine w_seqL get_app ?_
   exact⟨_,rfl,by simp,(List.prefix_append _ _).trans (List.prefix_append _ _),get_app,by simp⟩
 | some e=>
   have hmem:(p,e)∈S.says:=al8 hs
   have hr:=H.rows _ hmem
   have e1:Q7 S p=e.2:=by unfold Q7;rw [hs];rfl
   rw [e1]
   show Wp (O5 (.ref e.1)) _ _ _
   refine w_seqL (get_app_of hr) ?_
   exact⟨_,rfl,by simp,(List.prefix_append _ _).trans (List.prefix_append _ _),get_app,by simp⟩
end
def mx(x k:Int):Int:=((x+7919*k+1)*48271%2147483647)*((x+7919*k+1)*48271%2147483647 / 1009+69621)%2147483647
theorem a31(x k:Int):0<=mx x k/\mx x k<2147483647:=by
 unfold mx
 exact⟨Int.emod_nonneg _ (by decide),Int.emod_lt_of_pos _ (by decide)⟩
theorem a32(x k:Int)(A:PHp):Wp (f_law_mixed [.int x,.int k]) A (λv A'=>v=.int (mx x k)/\A'=A) NoX:=by
 unfold f_law_mixed
 walk_at "fn"
 walk_at "gb"
 refine w_mul (.inl (by decide)) ?_
 walk_at "gb"
 refine w_mul (.inr (by decide)) ?_
 walk_at "gb"
 refine w_mul (.inl ?_) ?_
 ·have h1:=Int.emod_nonneg ((x+7919*k+1)*48271) (by decide:(2147483647:Int)≠0)
  have h2:=Int.emod_lt_of_pos ((x+7919*k+1)*48271) (by decide:(0:Int)<2147483647)
  omega
 walk_at "gb"
 exact⟨rfl,rfl⟩
theorem mixed_eq(x k:Int)(A:PHp):f_law_mixed [.int x,.int k] A=.ok (.int (mx x k)) A:=by
 obtain⟨v,A',e,rfl,rfl⟩:=a08 (a32 x k A)
 exact e
set_option maxHeartbeats 2000000 in
theorem led_make{A:PHp}{P w r ll dl dk N l:Nat}{ps:List (Int×Int)}{L fr:List Int}{f:Int×Int->Int}(HP:PlanAt A P w r N ps L f ll dl dk)(hg:V5 N ps)(hl:A[l]?=some (.lst (fr.map .int)))(hfr:fr.length<=1000) :
 Wp (N2 [.ref A.length,.ref P,.ref l]) (A++[.ins 2 []]) (λv A'=>v=.non/\A<+:A'/\Led A' ⟨N,ps,L,f,fr,P,w,r,ll,dl,dk,A.length⟩ ⟨1,[],[],[],0⟩) NoX:=by
 unfold N2
 have hlt:=J1 hl
 have k1:=J1 HP.web.ob;have k2:=J1 HP.web.ls;have k3:=J1 HP.ob;have k4:=J1 HP.ls;have k5:=J1 HP.ld;have k6:=J1 HP.lk
 walk_at "fn"
 walk_at "gb"
 simp only [putFld,Nat.reduceEqDiff,if_false,List.length_set,List.length_append,List.length_cons,List.length_nil,Nat.zero_add]
 refine⟨trivial,?pre,⟨HP.mono (A:=A) ?pr2,?ob,?fl,?tl,?sl,?ul,λe he=>(nomatch he),⟨k3,k1,k2,k4,k5,k6⟩,λa ha=>(nomatch ha),.nil,.nil,.nil,λa ha=>(nomatch ha),hg,by simp⟩⟩
 case pre=>walk_at "pre"
 case pr2=>walk_at "pre"
 case ob=>
  show _=some (PO.ins 2 [(6,.ref P),(7,.ref (A.length+1)),(11,.tup (fr.map .int)),(12,.int 1),(13,.ref (A.length+1+1)),(14,.ref (A.length+1+1+1)),(15,.ref (A.length+1+1+1+1))])
  walk_at "st"
 case fl=>walk_at "st"
 case tl=>show (_:PHp)[A.length+1+1]?=some (PO.dT []);walk_at "st"
 case sl=>show (_:PHp)[A.length+1+1+1]?=some (PO.dT []);walk_at "st"
 case ul=>show (_:PHp)[A.length+1+1+1+1]?=some (PO.dT []);walk_at "st"
section
variable{A:PHp}{c:Cfg}{S:LS}
theorem bc6(H:Led A c S){p:Int×Int}(hp:p∈c.ps)(hn:I9 S p=none):Led (A.set (c.G+2) (.dT (i3 (layS S p)))) c (layS S p)/\Stp c S (layS S p) A (A.set (c.G+2) (.dT (i3 (layS S p)))):=by
 have h2:=H.tl
 have hl:=H.lt
 have k:∀a o,A[a]?=some o->a≠c.G+2->(A.set (c.G+2) (PO.dT (i3 (layS S p))))[a]?=some o:=λa o q n=>(G7 n).trans q
 refine⟨⟨⟨⟨k _ _ H.plan.web.ob (by omega),k _ _ H.plan.web.ls (by omega)⟩,k _ _ H.plan.ob (by omega),k _ _ H.plan.ls (by omega),k _ _ H.plan.ld (by omega),k _ _ H.plan.lk (by omega)⟩,k _ _ H.ob (by omega),k _ _ H.fl (by omega),get_set h2,k _ _ H.sl (by omega),k _ _ H.ul (by omega),λe he=>k _ _ (H.rows e he) ?_,H.lt,H.hi,H.an,H.kn,?_,?_,H.pg,H.sz⟩,⟨by simp,λa o q n=>k a o q (λz=>n (by rw [z];exact .tail _ List.mem_cons_self)),λa h=>.inl h⟩⟩
 ·have:=H.hi e.2.1 (List.mem_map.mpr ⟨e,he,rfl⟩)
  omega
 ·show ((S.lays++[(p,S.now)]).map (·.1)).Nodup
  rw [List.map_append,List.nodup_append]
  refine⟨H.ln,by simp,λx hx y hy z=>look_none.mp hn ?_⟩
  have hy':y=p:=by simpa using hy
  rw [←hy',←z];exact hx
 ·show ∀q∈(S.lays++[(p,S.now)]).map (·.1),q∈c.ps
  intro q hq
  rw [List.map_append,List.mem_append] at hq
  rcases hq with z | z
  ·exact H.lp q z
  ·simp at z;rw [z];exact hp
theorem bu3(H:Led A c S){p:Int×Int}(hp:p∈c.ps)(hn:I9 S p=none):Wp (K7 [.ref c.G,Q3 p]) A (λv A'=>v=.non/\Led A' c (layS S p)/\Stp c S (layS S p) A A') NoX:=by
 unfold K7
 have h1:=H.ob
 have h2:=H.tl
 walk_at "fn"
 walk_at "gb"
 refine w_mono (a22 H p) λv A1 hh=>?_
 obtain⟨rfl,rfl⟩:=hh
 have e0:Q3 p=.tup [.str "lay",pv p]:=rfl
 have hv:J8 (i3 S) [p.1,p.2]=(I9 S p).map .int:=aw0 S p
 rw [decide_eq_true hp,e0]
 walk_at "gb"
 unfold f_Ledger_take_lay
 walk_at "fn"
 walk_at "gb"
 rw [hv,hn]
 walk_at "gb"
 have hlen:(i3 S).length<LIM:=by
  refine Z2 ?_
  have:=H.ln.length_le_of_subset (l₂:=c.ps) H.lp
  rw [List.length_map] at this
  have:=H.pg.len
  unfold i3;rw [List.length_map];omega
 have hput:W8 (i3 S) [p.1,p.2] (.int S.now)=i3 (layS S p):=a26 hn
 rw [hput]
 exact⟨hlen,trivial,bc6 H hp hn⟩
theorem bu4(H:Led A c S){p:Int×Int}{ch:List Int}(hc:ch.length<100)(hm:S.m<2000)(hv:aR2 c S p ch=0):Wp (K7 [.ref c.G,T7 p ch]) A (λv A'=>v=.non/\∃a,Led A' c (sayS S p ch a)/\Stp c S (sayS S p ch a) A A') NoX:=by
 have hall:p∈c.ps/\z7 c.N c.ps c.L ch/\ch.head?=some p.2:=by
  unfold aR2 at hv
  by_cases h:p∈c.ps/\z7 c.N c.ps c.L ch/\ch.head?=some p.2
  ·exact h
  ·rw [if_neg h] at hv;cases hv
 rw [aL8 hall] at hv
 unfold aL7 at hv
 have g1:aheadB S p=true:=by
  cases h:aheadB S p with
  | true=>rfl
  | false=>rw [h] at hv;cases hv
 rw [g1,if_pos rfl] at hv
 have g2:U0 c S p ch=false:=by
  cases h:U0 c S p ch with
  | false=>rfl
  | true=>rw [h] at hv;cases hv
 rw [g2,if_neg (by simp)] at hv
 have g3:aw1 c S ch=true:=by
  cases h:aw1 c S ch with
  | true=>rfl
  | false=>rw [h] at hv;cases hv
 obtain⟨⟨hne,_⟩,_⟩:=hall.2.1
 unfold K7
 have h1:=H.ob
 walk_at "fn"
 walk_at "gb"
 refine w_mono (a23 H p hc) λv A1 hh=>?_
 obtain⟨p1,b,rfl,hb⟩:=hh
 rw [hb.mpr hall]
 have H1:=H.mono p1
 have h1:=H1.ob
 have e0:T7 p ch=.tup [.str "say",pv p,.tup (ch.map .int)]:=rfl
 rw [e0]
 walk_at "gb"
 unfold f_Ledger_take_say
 walk_at "fn"
 walk_at "gb"
 refine w_mono (a25 H1 p) λv A2 hh=>?_
 obtain⟨rfl,rfl⟩:=hh
 rw [g1]
 walk_at "gb"
 refine w_mono (late_ok H1 hall.1 ch) λv A2 hh=>?_
 obtain⟨rfl,rfl⟩:=hh
 rw [g2]
 walk_at "gb"
 refine w_mono (can_ok H1 hne hc) λv A2 hh=>?_
 obtain⟨rfl,rfl⟩:=hh
 rw [g3]
 refine⟨_,rfl,brNT (w_pass ?_)⟩
 refine w_seq (w_mono (bc4 H1 hm) λo A2 hh=>?_)
 obtain⟨rfl,a,H2,st1⟩:=hh
 refine w_mono (bc5 H2 (ch:=ch) (by show S.first.length<S.m+1;have:=H.sz;omega)) λo A3 hh=>?_
 obtain⟨rfl,H3,st2⟩:=hh
 rw [bu2] at H3 st2
 exact⟨trivial,a,H3,(Stp.pre p1).trans (st1.trans st2)⟩
end
theorem aR5(N:Nat)(i:Nat):((Y0 N).map PV.int)[i]?=((List.range N).map λ(k:Nat)=>PV.int (k:Int))[i]?:=by unfold Y0;rw [List.map_map];rfl
theorem aL9(f:Int×Int->PV):∀ps:List (Int×Int),ah0 (ps.map λp=>.tup [pv p,f p])=some (ps.map λp=>(l2 p,f p))
 | []=>rfl
 | p::r=>by
   show (Q8 (pv p)).bind (λi=>(ah0 (r.map λp=>.tup [pv p,f p])).map ((i,f p) :: ·))=_
   rw [aL9 f r];rfl
theorem aB2:∀(m acc:DT),(m.map (·.1)).Nodup->(∀k∈m.map (·.1),k∉acc.map (·.1))->m.foldl (λacc p=>W8 acc p.1 p.2) acc=acc++m
 | [],acc,_,_=>by simp
 | p::r,acc,nd,h=>by
   have nd':=List.nodup_cons.mp nd
   show r.foldl _ (W8 acc p.1 p.2)=_
   rw [z6 (h p.1 (by simp)),aB2 r _ nd'.2 λk hk=>?_]
   ·simp
   ·rw [List.map_append,List.mem_append]
    rintro (z | z)
    ·exact h k (List.mem_cons_of_mem _ hk) z
    ·have:k=p.1:=by simpa using z
     rw [this] at hk;exact nd'.1 hk
theorem a33{ps:List (Int×Int)}(nd:ps.Nodup)(f:Int×Int->PV):(ps.map λp=>(l2 p,f p)).foldl (λacc p=>W8 acc p.1 p.2) []=ps.map λp=>(l2 p,f p):=by
 rw [aB2 _ [] ?_ (λ_ _ z=>nomatch z)]
 ·rfl
 ·rw [List.map_map]
  exact List.Pairwise.map _ (λa b hab z=>hab (t5 z)) nd
theorem mem_insM{M:List Int}{x y:Int}:y∈W9 M x↔y=x\/y∈M:=by
 unfold W9
 have e:=List.takeWhile_append_dropWhile (p:=λy:Int=>decide (y<x)) (l:=M)
 rw [List.mem_append,List.mem_cons]
 have:y∈M↔y∈M.takeWhile (λy=>decide (y<x))\/y∈M.dropWhile (λy=>decide (y<x)):=by rw [←List.mem_append,e]
 rw [this]
 constructor
 ·rintro (z | z | z)
  ·exact .inr (.inl z)
  ·exact .inl z
  ·exact .inr (.inr z)
 ·rintro (z | z | z)
  ·exact .inr (.inl z)
  ·exact .inl z
  ·exact .inr (.inr z)
theorem a34{M:List Int}{x y:Int}:y∈aa9 M x↔y=x\/y∈M:=by
 unfold aa9
 by_cases h:x∈M
 ·rw [if_pos h]
  exact⟨.inr,λz=>z.elim (λe=>e ▸ h) id⟩
 ·rw [if_neg h];exact mem_insM
theorem mem_setL{l:List Int}{y:Int}:y∈setL l↔y∈l:=by
 have key:∀(l M:List Int),y∈l.foldl aa9 M↔y∈l\/y∈M:=by
  intro l
  induction l with
  | nil=>intro M;simp
  | cons a r ih=>
    intro M
    rw [List.foldl_cons,ih,a34,List.mem_cons]
    constructor
    ·rintro (z | z | z)
     ·exact .inl (.inr z)
     ·exact .inl (.inl z)
     ·exact .inr z
    ·rintro ((z | z) | z)
     ·exact .inr (.inl z)
     ·exact .inl z
     ·exact .inr (.inr z)
 have:=key l []
 simpa [setL] using this
theorem aB3:∀{M:List Int} {x:Int},M.Pairwise (·< ·)->x∉M->(W9 M x).Pairwise (·< ·)
 | [],x,_,_=>by simp [W9]
 | a::r,x,h,hx=>by
   have k:=List.pairwise_cons.mp h
   have hne:a≠x:=λz=>hx (by rw [z];exact List.mem_cons_self)
   by_cases hlt:a<x
   ·have e:W9 (a::r) x=a::W9 r x:=by
     unfold W9
     rw [List.takeWhile_cons_of_pos (by simpa using hlt),List.dropWhile_cons_of_pos (by simpa using hlt)];rfl
    rw [e]
    refine List.pairwise_cons.mpr ⟨λy hy=>?_,aB3 k.2 λz=>hx (List.mem_cons_of_mem _ z)⟩
    rcases mem_insM.mp hy with z | z
    ·rw [z];exact hlt
    ·exact k.1 y z
   ·have e:W9 (a::r) x=x::a::r:=by
     unfold W9
     rw [List.takeWhile_cons_of_neg (by simpa using hlt),List.dropWhile_cons_of_neg (by simpa using hlt)];rfl
    rw [e]
    refine List.pairwise_cons.mpr ⟨λy hy=>?_,h⟩
    rcases List.mem_cons.mp hy with z | z
    ·omega
    ·have:=k.1 y z;omega
theorem aR6(l:List Int):(setL l).Pairwise (·< ·):=by
 have key:∀(l M:List Int),M.Pairwise (·< ·)->(l.foldl aa9 M).Pairwise (·< ·):=by
  intro l
  induction l with
  | nil=>intro M h;exact h
  | cons a r ih=>
    intro M h
    refine ih _ ?_
    unfold aa9
    by_cases hm:a∈M
    ·rw [if_pos hm];exact h
    ·rw [if_neg hm];exact aB3 h hm
 exact key l [] .nil
theorem aG8{A:PHp}{Q:PV->PHp->Prop}{E:XP}{σ:PSt}{e:ED}(h:Wp (e σ) A (λx A1=>∃n ns,x=.ref n/\A1[n]?=some (.lst (List.map .int ns))/\(∀x∈ns,0<=x/\x<=5)/\Q (.ref A1.length) (A1++[.lst ((setL ns).map .int)])) E):Wp (ab0 e σ) A Q E:=
 C1 (w_mono h λx A1 hh=>by
  obtain⟨n,ns,hx,h0,h1,q⟩:=hh
  subst hx
  refine C1 (Z0 h0 ?_)
  rw [P7]
  exact D9 h1 q)
theorem a35{S:LS}{p:Int×Int}{ch:List Int}{a:Nat}(kn:(S.says.map (·.1)).Nodup)(q:Int×Int):Q7 (sayS S p ch a) q=if q=p then Q7 S q++[(S.now,ch)] else Q7 S q:=by
 unfold Q7 T9
 by_cases hs:(T9 S p).isSome=true
 ·have e:(sayS S p ch a).says=S.says.map (P4 S p ch):=by unfold sayS;simp only;rw [if_pos hs]
  rw [e]
  have lk:∀(l:List ((Int×Int)×Nat×List (Int×List Int))),look (l.map (P4 S p ch)) q=(look l q).map λe=>if q=p then (e.1,e.2++[(S.now,ch)]) else e:=by
   intro l
   induction l with
   | nil=>rfl
   | cons x r ih=>
     show (if (P4 S p ch x).1=q then some (P4 S p ch x).2 else look (r.map (P4 S p ch)) q)=(if x.1=q then some x.2 else look r q).map _
     rw [(l8 x).1]
     by_cases h1:x.1=q
     ·rw [if_pos h1,if_pos h1]
      unfold P4
      by_cases h2:q=p
      ·rw [if_pos (h1.trans h2),Option.map_some,if_pos h2]
      ·rw [if_neg (λz=>h2 (h1.symm.trans z)),Option.map_some,if_neg h2]
     ·rw [if_neg h1,if_neg h1];exact ih
  rw [lk]
  by_cases h2:q=p
  ·subst h2
   rw [if_pos rfl]
   cases h3:look S.says q with
   | none=>unfold T9 at hs;rw [h3] at hs;cases hs
   | some e=>simp
  ·rw [if_neg h2]
   cases look S.says q <;> simp [h2]
 ·have hn:T9 S p=none:=by simpa using hs
  have e:(sayS S p ch a).says=S.says++[(p,a,[(S.now,ch)])]:=by unfold sayS;simp only;rw [if_neg hs]
  rw [e,aB1]
  by_cases h2:q=p
  ·subst h2
   have:look S.says q=none:=hn
   rw [this,if_pos rfl,al9,if_pos rfl];rfl
  ·rw [if_neg h2,al9,if_neg (Ne.symm h2)]
   cases look S.says q <;> rfl
theorem a36:∀{ps:List (Int×Int)},ps.Pairwise (λp q=>p.1<q.1\/(p.1=q.1/\p.2<q.2))->srt ps=ps
 | [],_=>rfl
 | p::r,h=>by
   have k:=List.pairwise_cons.mp h
   show g6 ltP p (srt r)=p::r
   rw [a36 k.2]
   cases r with
   | nil=>rfl
   | cons q r=>
     have hq:=k.1 q (by simp)
     have:ltP q p=false:=by
      unfold ltP l2
      simp only [E6]
      have h1:¬q.1<p.1:=by omega
      have h2:¬(q.1=p.1/\q.2<p.2):=by omega
      by_cases e:q.1=p.1 <;> simp_all <;> omega
     unfold g6
     rw [this];rfl
def ordT(c:Int)(N:Nat):List (List Int):=(List.range N).map λ(k:Nat)=>[mx c (20+k),(k:Int)]
def l9(c:Int)(N:Nat):List Int:=(G1 E6 (ordT c N)).map λt=>t.getD 1 0
theorem aR7(c:Int)(N:Nat):(l9 c N).Perm (Y0 N):=by
 unfold l9
 refine ((M6 _ _).map _).trans ?_
 unfold ordT Y0
 rw [List.map_map]
 exact List.Perm.refl _
def ringL(c:Int)(N:Nat):List (Int×Int):=(List.range N).map λ(k:Nat)=>((l9 c N).getD (if k=0 then N - 1 else k - 1) 0,(l9 c N).getD k 0)
theorem aB4{c:Int}{N:Nat}(hN:N<=6){A:PHp}:Wp (T1 [some (.int c),some (.int N),none,none,none,none,none,none]) A (λv A'=>v=.ref A.length/\A'=A++[.lst ((ordT c N).map λt=>.tup (t.map .int))]) NoX:=by
 unfold T1
 refine J9 (l:=(List.range N).map λ(k:Nat)=>PV.int (k:Int)) (λσ=>∃x,σ=[x,some (.int c)]) (λ_=>true) (λv=>match v with | .int k=>.tup [.int (mx c (20+k)),.int k] | _=>.non) ?_
 walk_at "go"
 refine⟨by simp,by simp;exact lim_le (by omega),⟨_,rfl⟩,λi=>k7 _ _,?_,rfl,?_⟩
 ·rintro v σ hv ⟨x,rfl⟩
  obtain⟨k,hk,rfl⟩:=List.mem_map.mp hv
  walk_at "go"
  refine⟨rfl,⟨_,rfl⟩,?_⟩
  walk_at "go"
  refine⟨rfl,rfl,λ_=>?_⟩
  walk_at "go"
  refine w_eq (mixed_eq _ _ _) ?_
  walk_at "go"
  exact⟨rfl,rfl⟩
 ·rw [List.filter_eq_self.mpr (by simp)]
  unfold ordT
  simp [List.map_map,Function.comp_def]
theorem bc7{c:Int}{N:Nat}:∀t∈ordT c N,t≠[]:=λt ht=>by
 unfold ordT at ht
 obtain⟨k,_,rfl⟩:=List.mem_map.mp ht
 simp
theorem aG9{c:Int}{N k:Nat}(hk:k<N):∃u,atI ((G1 E6 (ordT c N)).map λt=>PV.tup (t.map .int)) (k:Int)=some (.tup [.int u,.int ((l9 c N).getD k 0)]):=by
 have hl:(G1 E6 (ordT c N)).length=N:=by rw [(M6 _ _).length_eq];simp [ordT]
 have hm:(G1 E6 (ordT c N))[k]'(by omega)∈ordT c N:=(M6 E6 (ordT c N)).mem_iff.mp (List.getElem_mem _)
 rw [atn (by rw [List.length_map];omega)]
 unfold l9
 have e:((G1 E6 (ordT c N)).map λt=>t.getD 1 0).getD k 0=((G1 E6 (ordT c N))[k]'(by omega)).getD 1 0:=by
  simp [show k<(G1 E6 (ordT c N)).length by omega]
 rw [e,List.getElem_map]
 generalize (G1 E6 (ordT c N))[k]'(by omega)=t at hm
 unfold ordT at hm
 obtain⟨j,_,rfl⟩:=List.mem_map.mp hm
 exact⟨_,rfl⟩
theorem bc8{c:Int}{N k:Nat}(h2:2<=N)(hk:k<N):∃u,atI ((G1 E6 (ordT c N)).map λt=>PV.tup (t.map .int)) ((k:Int) - 1)=some (.tup [.int u,.int ((l9 c N).getD (if k=0 then N - 1 else k - 1) 0)]):=by
 have hl:(G1 E6 (ordT c N)).length=N:=by rw [(M6 _ _).length_eq];simp [ordT]
 by_cases h:k=0
 ·subst h
  obtain⟨u,hu⟩:=aG9 (c:=c) (N:=N) (k:=N - 1) (by omega)
  refine⟨u,?_⟩
  rw [if_pos rfl,←hu]
  unfold atI ixN
  rw [if_neg (by omega),if_pos (by rw [List.length_map];omega),if_pos (by omega),if_pos (by rw [List.length_map];omega)]
  rw [List.length_map,hl]
  congr 2;omega
 ·obtain⟨u,hu⟩:=aG9 (c:=c) (N:=N) (k:=k - 1) (by omega)
  refine⟨u,?_⟩
  rw [if_neg h,←hu]
  congr 1;omega
theorem passings_c2{c:Int}{N q:Nat}(h2:2<=N)(hN:N<=6){A:PHp}(hq:A[q]?=some (.lst ((G1 E6 (ordT c N)).map λt=>.tup (t.map .int)))) :
 Wp (T3 [some (.int c),some (.int N),some (.ref q),none,none,none,none,none]) A (λv A'=>v=.ref A.length/\A'=A++[.lst (pvs (ringL c N))]) NoX:=by
 unfold T3
 refine J9 (l:=(List.range N).map λ(k:Nat)=>PV.int (k:Int)) (λσ=>∃x,σ=[x,some (.ref q)]) (λ_=>true) (λv=>match v with | .int k=>pv ((l9 c N).getD (if k=0 then N - 1 else k.toNat - 1) 0,(l9 c N).getD k.toNat 0) | _=>.non) ?_
 walk_at "go"
 refine⟨by simp,by simp;exact lim_le (by omega),⟨_,rfl⟩,λi=>k7 _ _,?_,rfl,?_⟩
 ·rintro v σ hv ⟨x,rfl⟩
  obtain⟨k,hk,rfl⟩:=List.mem_map.mp hv
  rw [List.mem_range] at hk
  obtain⟨u,hu⟩:=aG9 (c:=c) hk
  obtain⟨u',hu'⟩:=bc8 (c:=c) h2 hk
  walk_at "go"
  refine⟨rfl,⟨_,rfl⟩,?_⟩
  walk_at "go"
  refine⟨rfl,rfl,λ_=>?_⟩
  walk_at "go"
  refine⟨rfl,?_⟩
  by_cases h:k=0
  ·subst h;rfl
  ·have:¬(k:Int)=0:=by omega
   simp [pv,h,this]
 ·rw [List.filter_eq_self.mpr (by simp)]
  unfold ringL
  simp only [pvs,List.map_map]
  congr 3
  refine List.map_congr_left λk hk=>?_
  by_cases h:k=0
  ·subst h;rfl
  ·have:¬(k:Int)=0:=by omega
   simp [pv,h,this]
theorem a37{c:Int}{N:Nat}(h2:2<=N){h:Int}(hh:0<=h/\h<N):∃g,(g,h)∈ringL c N/\good N (g,h):=by
 have hp:=aR7 c N
 have hl:(l9 c N).length=N:=by rw [hp.length_eq,hands_len]
 have nd:(l9 c N).Nodup:=hp.nodup_iff.mpr (a17 N)
 have gt:∀k (hk:k<N),(l9 c N).getD k 0=(l9 c N)[k]'(by omega):=λk hk=>by simp [show k<(l9 c N).length by omega]
 have g:∀k,k<N->0<=(l9 c N).getD k 0/\(l9 c N).getD k 0<N:=λk hk=>by
  rw [gt k hk]
  exact mem_hands.mp (hp.mem_iff.mp (List.getElem_mem _))
 obtain⟨k,hk,e⟩:=List.mem_iff_getElem.mp (hp.mem_iff.mpr (mem_hands.mpr hh))
 have hkN:k<N:=by omega
 have hj:(if k=0 then N - 1 else k - 1)<N:=by split <;> omega
 refine⟨(l9 c N).getD (if k=0 then N - 1 else k - 1) 0,List.mem_map.mpr ⟨k,List.mem_range.mpr hkN,by rw [gt k hkN,e]⟩,g _ hj,hh,λz=>?_⟩
 simp only at z
 rw [gt _ hj,←e] at z
 have:=(List.getElem_inj nd).mp z
 split at this <;> omega
structure PG(N:Nat)(ps:List (Int×Int)):Prop where
 good:∀p∈ps,good N p
 nd:ps.Nodup
theorem PG.put{N:Nat}{ps:List (Int×Int)}(h:PG N ps){a b:Int}(g:Ws.good N (a,b))(hn:(a,b)∉ps):PG N (ps++[(a,b)]):=by
 refine⟨λp hp=>?_,?_⟩
 ·rcases List.mem_append.mp hp with z | z
  ·exact h.good p z
  ·rw [List.mem_singleton] at z;subst z;exact g
 ·rw [List.nodup_append]
  exact⟨h.nd,by simp,λx hx y hy e=>hn (by rw [List.mem_singleton] at hy;rw [←hy,←e];exact hx)⟩
theorem bc9(ps:List (Int×Int))(p:Int×Int):pvs ps++[pv p]=pvs (ps++[p]):=by simp [pvs]
theorem bd0(ps:List (Int×Int)):(pvs ps).length=ps.length:=by simp [pvs]
structure PD(c:Int)(N i j:Nat)(ps:List (Int×Int)):Prop extends PG N ps where
 len:ps.length<=i*N+j
 lt:∀p∈ps,p.1<i\/(p.1=i/\p.2<j)
 up:ps.Pairwise (λp q=>p.1<q.1\/(p.1=q.1/\p.2<q.2))
 has:∀p∈ringL c N,Ws.good N p->(p.1<i\/(p.1=i/\p.2<j))->p∈ps
abbrev p21(c:Int)(N o r f:Nat)(x y z:Option PV):PSt:=[some (.int c),some (.int N),some (.ref o),some (.ref r),some (.ref f),x,y,z]
theorem aB5{A B:PHp}{c:Int}{N o r f i:Nat}{ps:List (Int×Int)}(hN:N<=6)(hi:i<N)(pre:A<+:B)(hf:A.length<=f)(fr:r≠f)(hl:B[f]?=some (.lst (pvs ps)))(hr:B[r]?=some (.lst (pvs (ringL c N))))(D:PD c N i 0 ps)(x y:Option PV) :
 Wp (T4 (p21 c N o r f (some (.int i)) x y)) B (λq B'=>∃qs x' y',q=.nx (p21 c N o r f (some (.int i)) x' y')/\A<+:B'/\B'[f]?=some (.lst (pvs qs))/\B'[r]?=some (.lst (pvs (ringL c N)))/\PD c N (i+1) 0 qs) NoX:=by
 unfold T4
 refine aG4 (λj σ B'=>∃qs x' y',σ=p21 c N o r f (some (.int i)) x' y'/\A<+:B'/\B'[f]?=some (.lst (pvs qs))/\B'[r]?=some (.lst (pvs (ringL c N)))/\PD c N i j qs) ?_
 unfold p21
 walk_at "go"
 refine⟨0,N,rfl,⟨ps,_,_,rfl,pre,hl,hr,D⟩,?_,?_⟩
 ·rintro j σ B1 hj ⟨qs,x',y',rfl,p1,hl1,hr1,D1⟩
  have hb:i*N<=5*6:=Nat.mul_le_mul (by omega) hN
  have hlim:(pvs qs).length<LIM:=by rw [bd0];exact Z2 (by have:=D1.len;omega)
  have app:PD c N i j qs->(i:Int)≠j->PD c N i (j+1) (qs++[((i:Int),(j:Int))]):=λD1 hne=>by
   refine⟨D1.toPG.put ⟨by omega,by omega,hne⟩ (λz=>by rcases D1.lt _ z with h | h <;> simp at h),by have:=D1.len;rw [List.length_append];simp;omega,λp hp=>?_,?_,λp hp hg hlt=>?_⟩
   ·rcases List.mem_append.mp hp with z | z
    ·rcases D1.lt p z with h | h
     ·exact .inl h
     ·exact .inr ⟨h.1,by have:=h.2;omega⟩
    ·rw [List.mem_singleton] at z;subst z;exact .inr ⟨rfl,by simp;omega⟩
   ·rw [List.pairwise_append]
    refine⟨D1.up,by simp,λp hp q hq=>?_⟩
    rw [List.mem_singleton] at hq;subst hq
    exact D1.lt p hp
   ·by_cases e:p=((i:Int),(j:Int))
    ·rw [e];simp
    ·refine List.mem_append_left _ (D1.has p hp hg ?_)
     obtain⟨a,b⟩:=p
     simp at e hlt ⊢;omega
  have skip:PD c N i j qs->(good N ((i:Int),(j:Int))->((i:Int),(j:Int))∉ringL c N)->PD c N i (j+1) qs:=λD1 hne=>by
   refine⟨D1.toPG,by have:=D1.len;omega,λp hp=>?_,?_,λp hp hg hlt=>D1.has p hp hg ?_⟩
   ·rcases D1.lt p hp with h | h
    ·exact .inl h
    ·exact .inr ⟨h.1,by have:=h.2;omega⟩
   ·exact D1.up
   ·have:p≠((i:Int),(j:Int)):=λz=>by subst z;exact hne hg hp
    obtain⟨a,b⟩:=p
    simp at this hlt ⊢;omega
  walk_at "go"
  unfold f_law_passings_b2
  walk_at "go"
  refine w_mul (.inl (by omega)) ?_
  walk_at "go"
  refine w_eq (mixed_eq _ _ _) ?_
  walk_at "go"
  simp only [Int.zero_add]
  have nx:∀B2 qs2,A<+:B2->B2[f]?=some (.lst (pvs qs2))->B2[r]?=some (.lst (pvs (ringL c N)))->PD c N i (j+1) qs2->∃qs x' y',[some (PV.int c),some (.int N),some (.ref o),some (.ref r),some (.ref f),some (.int i),some (.int j),some (.int (mx c (40+6*i+j)))]=[some (PV.int c),some (.int N),some (.ref o),some (.ref r),some (.ref f),some (.int i),x',y']/\A<+:B2/\B2[f]?=some (.lst (pvs qs))/\B2[r]?=some (.lst (pvs (ringL c N)))/\PD c N i (j+1) qs:=λB2 qs2 h1 h2 h3 h4=>⟨qs2,_,_,rfl,h1,h2,h3,h4⟩
  have hst:((i:Int)≠j)->A<+:B1.set f (.lst (pvs qs++[PV.tup [.int i,.int j]]))/\(B1.set f (.lst (pvs qs++[PV.tup [.int i,.int j]])))[f]?=some (.lst (pvs (qs++[((i:Int),(j:Int))])))/\(B1.set f (.lst (pvs qs++[PV.tup [.int i,.int j]])))[r]?=some (.lst (pvs (ringL c N))):=λ_=>⟨W4 p1 hf,by rw [get_set hl1,←bc9];rfl,by rw [G7 fr];exact hr1⟩
  refine⟨λh1=>?_,λh1=>?_⟩
  ·have hne:(i:Int)≠j:=by simpa using h1
   obtain⟨s1,s2,s3⟩:=hst hne
   walk_at "go"
   refine⟨λh2=>?_,λh2=>?_⟩
   ·walk_at "go"
    exact nx _ _ s1 s2 s3 (app D1 hne)
   ·walk_at "go"
    refine⟨λh3=>?_,λh3=>?_⟩
    ·walk_at "go"
     exact nx _ _ s1 s2 s3 (app D1 hne)
    ·walk_at "go"
     exact nx _ _ p1 hl1 hr1 (skip D1 λ_=>by simpa using h2)
  ·walk_at "go"
   exact nx _ _ p1 hl1 hr1 (skip D1 λg=>absurd (by simpa using h1) g.2.2)
 ·rintro σ B1 ⟨qs,x',y',rfl,p1,hl1,hr1,D1⟩
  refine⟨qs,_,_,rfl,p1,hl1,hr1,D1.toPG,by have:=D1.len;rw [Nat.succ_mul];omega,λp hp=>?_,D1.up,λp hp hg hlt=>D1.has p hp hg ?_⟩
  ·rcases D1.lt p hp with h | h
   ·left;omega
   ·left;omega
  ·have:=hg.2.1.2;have:=hg.2.1.1;simp at hlt;omega
theorem aB6{A:PHp}{c:Int}{N:Nat}(h2:2<=N)(hN:N<=6):Wp (N8 [.int c,.int N]) A (λv A'=>A<+:A'/\∃ps r,v=.ref r/\A'[r]?=some (.lst (pvs ps))/\V5 N ps/\srt ps=ps/\ps.length<=36/\(∀h:Int,0<=h/\h<N->∃g,(g,h)∈ps)/\A.length<=r) NoX:=by
 unfold N8
 walk_at "fn"
 walk_at "go"
 refine w_mono (aB4 hN) λv A1 ⟨hv,hA⟩=>?_
 subst hv;subst hA
 have hs:d6 ((ordT c N).map λt=>.tup (t.map .int)) (A++[.lst ((ordT c N).map λt=>.tup (t.map .int))])=.ok ((G1 E6 (ordT c N)).map λt=>.tup (t.map .int)) (A++[.lst ((ordT c N).map λt=>.tup (t.map .int))]):=u9 (by simp [ordT];omega) bc7
 refine⟨_,_,_,rfl,get_app,hs,?_⟩
 have hq:(A++[PO.lst ((ordT c N).map λt=>PV.tup (t.map .int))]++[.lst ((G1 E6 (ordT c N)).map λt=>.tup (t.map .int))])[(A++[PO.lst ((ordT c N).map λt=>PV.tup (t.map .int))]).length]?=some (.lst ((G1 E6 (ordT c N)).map λt=>.tup (t.map .int))):=get_app
 have pre1:A<+:A++[PO.lst ((ordT c N).map λt=>PV.tup (t.map .int))]++[.lst ((G1 E6 (ordT c N)).map λt=>.tup (t.map .int))]:=U8 (List.prefix_append _ _)
 generalize hB:A++[PO.lst ((ordT c N).map λt=>PV.tup (t.map .int))]++[.lst ((G1 E6 (ordT c N)).map λt=>.tup (t.map .int))]=B at hq pre1 ⊢
 generalize (A++[PO.lst ((ordT c N).map λt=>PV.tup (t.map .int))]).length=o at hq ⊢
 clear hB hs
 walk_at "go"
 refine w_mono (passings_c2 h2 hN hq) λv A1 ⟨hv,hA⟩=>?_
 subst hv;subst hA
 walk_at "go"
 have hr:(B++[PO.lst (pvs (ringL c N))]++[.lst []])[B.length]?=some (.lst (pvs (ringL c N))):=get_app_of get_app
 have hf:(B++[PO.lst (pvs (ringL c N))]++[.lst []])[(B++[PO.lst (pvs (ringL c N))]).length]?=some (.lst (pvs [])):=get_app
 have pre2:A<+:B++[PO.lst (pvs (ringL c N))]++[.lst []]:=U8 (U8 pre1)
 have hle:A.length<=(B++[PO.lst (pvs (ringL c N))]).length:=by rw [List.length_append];have:=a72 pre1;omega
 have hne:B.length≠(B++[PO.lst (pvs (ringL c N))]).length:=by simp
 generalize B++[PO.lst (pvs (ringL c N))]++[.lst []]=C at hr hf pre2 ⊢
 generalize (B++[PO.lst (pvs (ringL c N))]).length=f at hf hle hne ⊢
 generalize B.length=r at hr hne ⊢
 have L:Wp (T6 (p21 c N o r f none none none)) C (λq B'=>∃qs x y z,q=.nx (p21 c N o r f x y z)/\A<+:B'/\B'[f]?=some (.lst (pvs qs))/\PD c N N 0 qs) NoX:=by
  unfold T6
  refine aG4 (λi σ B'=>∃qs x y z,σ=p21 c N o r f x y z/\A<+:B'/\B'[f]?=some (.lst (pvs qs))/\B'[r]?=some (.lst (pvs (ringL c N)))/\PD c N i 0 qs) ?_
  unfold p21
  walk_at "go"
  refine⟨0,N,rfl,⟨[],_,_,_,rfl,pre2,hf,hr,⟨⟨by simp,by simp⟩,by simp,by simp,.nil,λp hp hg h=>?_⟩⟩,?_,?_⟩
  ·have:=hg.1.1;have:=hg.2.1.1;simp at h;omega
  ·rintro i σ B1 hi ⟨qs,x,y,z,rfl,p1,hl1,hr1,D1⟩
   walk_at "go"
   unfold f_law_passings_b1
   rw [show (0:Int)+i=i by omega]
   refine w_mono (aB5 hN hi p1 hle hne hl1 hr1 D1 y z) λo B2 ⟨rs,x',y',ho,p2,hl2,hr2,D2⟩=>?_
   subst ho
   exact⟨rs,_,_,_,rfl,p2,hl2,hr2,D2⟩
  ·rintro σ B1 ⟨qs,x,y,z,rfl,p1,hl1,hr1,D1⟩
   exact⟨qs,_,_,_,rfl,p1,hl1,D1⟩
 refine w_mono L λq B' ⟨qs,x,y,z,hq,p1,hl1,D1⟩=>?_
 subst hq
 unfold p21
 walk_at "go"
 have h36:qs.length<=36:=by
  have:=D1.len
  have:N*N<=6*6:=Nat.mul_le_mul hN hN
  omega
 refine⟨qs,f,rfl,hl1,⟨by omega,by omega,D1.good,D1.nd,by omega⟩,a36 D1.up,h36,λh hh=>?_,hle⟩
 obtain⟨g,hp,hg⟩:=a37 (c:=c) h2 hh
 exact⟨g,D1.has _ hp hg (.inl hg.1.2)⟩
theorem some_ok{A:PHp}{x:Int}{N:Nat}(hN:N<=6):Wp (U7 [.int x,.int N]) A (λv A'=>v=.ref A.length/\∃L:List Int,A'=A++[.lst (L.map .int)]/\L.length<=6/\∀h∈L,0<=h/\h<N) NoX:=by
 unfold U7
 walk_at "fn"
 walk_at "go"
 unfold p5
 refine J9 (l:=(List.range N).map λ(k:Nat)=>PV.int (k:Int)) (λσ=>∃y,σ=[y,some (.int x)]) (λv=>match v with | .int k=>decide (PySem.Builtin.bitAnd (x / 2 ^ k.toNat) 1=1) | _=>false) (λv=>v) ?_
 walk_at "go"
 refine⟨by simp,by simp;exact lim_le (by omega),⟨_,rfl⟩,λi=>k7 _ _,?_,rfl,?_⟩
 ·rintro v σ hv ⟨y,rfl⟩
  obtain⟨k,hk,rfl⟩:=List.mem_map.mp hv
  walk_at "go"
  refine⟨rfl,⟨_,rfl⟩,?_⟩
  walk_at "go"
  refine⟨rfl,rfl,λ_=>?_⟩
  walk_at "go"
  exact⟨rfl,rfl⟩
 ·refine⟨((List.range N).map λ(k:Nat)=>(k:Int)).filter λk=>decide (PySem.Builtin.bitAnd (x / 2 ^ k.toNat) 1=1),?_,?_,?_⟩
  ·congr 2
   rw [List.map_id'',List.filter_map,List.filter_map,List.map_map]
   rfl
   intro _;rfl
  ·refine Nat.le_trans (List.length_filter_le _ _) (by simp;omega)
  ·intro h hm
   obtain⟨k,hk,rfl⟩:=List.mem_map.mp (List.mem_filter.mp hm).1
   rw [List.mem_range] at hk
   omega
theorem givers_of_ok{A:PHp}{w r:Nat}{n h:Int}{ps:List (Int×Int)}(W:WebAt A w r n ps)(hl:ps.length<64) :
 M4 [.ref w,.int h] A=.ok (.ref A.length) (A++[.lst ((l4 (srt ps) h).map .int)]):=by
 have c:R5 [some (.ref w),some (.int h)] A=.ok (.ref A.length) (A++[.lst ((l4 (srt ps) h).map .int)]):=by
  unfold R5
  rw [←bo3]
  refine ax8 (a:=r) (l:=pvs (srt ps)) (S:=λσ=>∃x y,σ=[x,y,some (.int h)]) (by simp [W.ob,W.ls]) (by simp [W.ls]) (lim_le (by simp [pvs,(R4 ps).length_eq];omega)) ⟨_,_,rfl⟩ ?_
  rintro v hv σ ⟨x,y,rfl⟩
  obtain⟨p,hp,rfl⟩:=S7 hv
  refine⟨[some (.int p.1),some (.int p.2),some (.int h)],by simp [pv],⟨_,_,rfl⟩,by simp [plain,eqv] <;> exact decide_eq_decide.mpr Iff.rfl,by simp⟩
 simp [M4,c]
theorem takers_of_ok{A:PHp}{w r:Nat}{n h:Int}{ps:List (Int×Int)}(W:WebAt A w r n ps)(hl:ps.length<64) :
 M5 [.ref w,.int h] A=.ok (.ref A.length) (A++[.lst ((l5 (srt ps) h).map .int)]):=by
 have c:R6 [some (.ref w),some (.int h)] A=.ok (.ref A.length) (A++[.lst ((l5 (srt ps) h).map .int)]):=by
  unfold R6
  rw [←bo4]
  refine ax8 (a:=r) (l:=pvs (srt ps)) (S:=λσ=>∃x y,σ=[x,y,some (.int h)]) (by simp [W.ob,W.ls]) (by simp [W.ls]) (lim_le (by simp [pvs,(R4 ps).length_eq];omega)) ⟨_,_,rfl⟩ ?_
  rintro v hv σ ⟨x,y,rfl⟩
  obtain⟨p,hp,rfl⟩:=S7 hv
  refine⟨[some (.int p.1),some (.int p.2),some (.int h)],by simp [pv],⟨_,_,rfl⟩,by simp [plain,eqv] <;> exact decide_eq_decide.mpr Iff.rfl,by simp⟩
 simp [M5,c]
def toMe(c:Cfg)(me:Int):List (Int×Int):=c.ps.filter λp=>decide (p.2=me)
def ofMe(c:Cfg)(me:Int):List (Int×Int):=c.ps.filter λp=>decide (p.1=me)
structure Kpr(A:PHp)(c:Cfg)(S:LS)(k:Nat)(me:Int):Prop where
 led:Led A c S
 ob:A[k]?=some (.ins 5 [(17,.int me)])
 srt:srt c.ps=c.ps
section
variable{A B:PHp}{c:Cfg}{S:LS}{k:Nat}{me:Int}
theorem Kpr.mono(H:Kpr A c S k me)(e:A<+:B):Kpr B c S k me:=⟨H.led.mono e,pre_get e H.ob,H.srt⟩
theorem m5(H:Kpr A c S k me):(toMe c me).length<64:=Nat.lt_of_le_of_lt (List.length_filter_le _ _) H.led.pg.len
theorem am1(H:Kpr A c S k me):(ofMe c me).length<64:=Nat.lt_of_le_of_lt (List.length_filter_le _ _) H.led.pg.len
theorem boxes_to_ok(H:Kpr A c S k me):Wp (D0 [.ref k,.ref c.G]) A (λv A'=>∃n,v=.ref n/\A.length<=n/\A<+:A'/\A'[n]?=some (.lst (pvs (toMe c me)))) NoX:=by
 unfold D0
 have h1:=H.led.ob;have h2:=H.led.plan.ob;have h3:=H.ob;have h4:=H.led.plan.web.ob
 walk_at "fn"
 walk_at "gb"
 unfold S3
 refine J9 (l:=(l4 (srt c.ps) me).map .int) (λσ=>∃x,σ=[x,some (.ref k)]) (λ_=>true) (λv=>match v with | .int g=>pv (g,me) | _=>.non) ?_
 walk_at "gb"
 refine w_eq (givers_of_ok H.led.plan.web H.led.pg.len) ?_
 walk_at "gb"
 have hl:=m5 H
 have hg:(l4 (srt c.ps) me).length=(toMe c me).length:=by unfold l4 toMe;rw [List.length_map,H.srt]
 refine⟨_,N5 get_app,Nat.le_refl _,lim_le (by rw [List.length_map,hg];omega),⟨_,rfl⟩,λi=>N6 get_app i,?_,?_⟩
 ·rintro v σ hv ⟨x,rfl⟩
  obtain⟨g,_,rfl⟩:=List.mem_map.mp hv
  walk_at "go"
  refine⟨rfl,⟨_,rfl⟩,?_⟩
  walk_at "go"
  refine⟨rfl,rfl,λ_=>?_⟩
  walk_at "go"
  exact⟨rfl,rfl⟩
 ·refine⟨_,rfl,by simp,(List.prefix_append _ _).trans (List.prefix_append _ _),?_⟩
  rw [get_app,List.filter_eq_self.mpr (by simp),H.srt]
  congr 2
  unfold l4 toMe pvs
  rw [List.map_map,List.map_map]
  refine List.map_congr_left λp hp=>?_
  have:p.2=me:=by simpa using (List.mem_filter.mp hp).2
  show pv (p.1,me)=pv p
  rw [←this]
theorem boxes_of_ok(H:Kpr A c S k me):Wp (E1 [.ref k,.ref c.G]) A (λv A'=>∃n,v=.ref n/\A.length<=n/\A<+:A'/\A'[n]?=some (.lst (pvs (ofMe c me)))) NoX:=by
 unfold E1
 have h1:=H.led.ob;have h2:=H.led.plan.ob;have h3:=H.ob;have h4:=H.led.plan.web.ob
 walk_at "fn"
 walk_at "gb"
 unfold Q5
 refine J9 (l:=(l5 (srt c.ps) me).map .int) (λσ=>∃x,σ=[x,some (.ref k)]) (λ_=>true) (λv=>match v with | .int g=>pv (me,g) | _=>.non) ?_
 walk_at "gb"
 refine w_eq (takers_of_ok H.led.plan.web H.led.pg.len) ?_
 walk_at "gb"
 have hl:=am1 H
 have hg:(l5 (srt c.ps) me).length=(ofMe c me).length:=by unfold l5 ofMe;rw [List.length_map,H.srt]
 refine⟨_,N5 get_app,Nat.le_refl _,lim_le (by rw [List.length_map,hg];omega),⟨_,rfl⟩,λi=>N6 get_app i,?_,?_⟩
 ·rintro v σ hv ⟨x,rfl⟩
  obtain⟨g,_,rfl⟩:=List.mem_map.mp hv
  walk_at "go"
  refine⟨rfl,⟨_,rfl⟩,?_⟩
  walk_at "go"
  refine⟨rfl,rfl,λ_=>?_⟩
  walk_at "go"
  exact⟨rfl,rfl⟩
 ·refine⟨_,rfl,by simp,(List.prefix_append _ _).trans (List.prefix_append _ _),?_⟩
  rw [get_app,List.filter_eq_self.mpr (by simp),H.srt]
  congr 2
  unfold l5 ofMe pvs
  rw [List.map_map,List.map_map]
  refine List.map_congr_left λp hp=>?_
  have:p.1=me:=by simpa using (List.mem_filter.mp hp).2
  show pv (me,p.2)=pv p
  rw [←this]
def mxL:List Int->Int
 | []=>0
 | i::r=>V2 i r
theorem a38(l:List Int):bu0 (.int 0) l=.int (mxL l):=by cases l <;> rfl
def r8(S:LS)(p:Int×Int):PV:=((I9 S p).map PV.int).getD .non
def rdy(c:Cfg)(S:LS)(me:Int):PV:=if ((toMe c me).any λp=>(I9 S p).isNone)=true then .non else .int (1+mxL ((toMe c me).map λp=>(I9 S p).getD 0))
theorem lay_turn_ok(H:Led A c S)(p:Int×Int):Wp (K3 [.ref c.G,pv p]) A (λv A'=>A'=A/\v=r8 S p) NoX:=by
 unfold K3
 have h1:=H.ob
 have h2:=H.tl
 walk_at "fn"
 walk_at "gb"
 have hv:J8 (i3 S) [p.1,p.2]=(I9 S p).map .int:=aw0 S p
 rw [hv]
 exact⟨rfl,rfl⟩
theorem aM0(S:LS):∀l:List (Int×Int),pIn .non (l.map (r8 S))=l.any λp=>(I9 S p).isNone
 | []=>rfl
 | p::r=>by
   rw [List.any_cons,←aM0 S r]
   show (eqv _ _||_)=_
   congr 1
   unfold r8
   cases I9 S p <;> rfl
theorem a39(H:Kpr A c S k me):Wp (E8 [.ref k,.ref c.G]) A (λv A'=>A<+:A'/\v=rdy c S me) NoX:=by
 unfold E8
 have h1:=H.led.ob;have h3:=H.ob
 have hl:=m5 H
 walk_at "fn"
 walk_at "gb"
 have hc:Wp (O3 [some (.ref k),some (.ref c.G),none]) A (λv A'=>∃n,v=.ref n/\A<+:A'/\A'[n]?=some (.lst ((toMe c me).map (r8 S)))) NoX:=by
  unfold O3
  refine J9 (l:=pvs (toMe c me)) (λσ=>∃x,σ=[x,some (.ref c.G)]) (λ_=>true) (λv=>r8 S (Z7 v,b8 v)) ?_
  walk_at "gb"
  refine w_mono (boxes_to_ok H) λv A1 hh=>?_
  obtain⟨n,rfl,hn,p1,hb⟩:=hh
  have h1:=pre_get p1 h1
  walk_at "gb"
  refine⟨_,N5 hb,Nat.le_refl _,lim_le (by unfold pvs;rw [List.length_map];omega),⟨_,rfl⟩,λi=>N6 hb i,?_,?_⟩
  ·rintro v σ hv ⟨x,rfl⟩
   obtain⟨p,_,rfl⟩:=S7 hv
   walk_at "go"
   refine⟨rfl,⟨_,rfl⟩,?_⟩
   walk_at "go"
   refine⟨rfl,rfl,λ_=>?_⟩
   walk_at "go"
   exact lay_turn_ok (H.led.mono p1) p
  ·refine⟨_,rfl,p1.trans (List.prefix_append _ _),?_⟩
   rw [get_app,List.filter_eq_self.mpr (by simp)]
   unfold pvs
   rw [List.map_map];rfl
 refine w_mono hc λv A1 hh=>?_
 obtain⟨n,rfl,p1,hn⟩:=hh
 walk_at "gb"
 refine w_inL hn ⟨rfl,?_⟩ ?_
 ·show ((toMe c me).map (r8 S)).all _=true
  rw [List.all_map,List.all_eq_true]
  intro p _
  show plain (r8 S p)=true
  unfold r8
  cases I9 S p <;> rfl
 rw [aM0]
 refine⟨_,rfl,λhb=>?_,λhb=>?_⟩
 ·walk_at "gb"
  unfold rdy;rw [if_pos hb]
 ·have e:(toMe c me).map (r8 S)=((toMe c me).map λp=>(I9 S p).getD 0).map .int:=by
   rw [List.map_map]
   refine List.map_congr_left λp hp=>?_
   have:=List.any_eq_false.mp hb p hp
   unfold r8
   show _=PV.int ((I9 S p).getD 0)
   cases h:I9 S p with
   | none=>rw [h] at this;simp at this
   | some t=>rfl
  rw [e] at hn
  walk_at "gb"
  refine⟨_,_,rfl,hn,?_⟩
  rw [a38]
  walk_at "gb"
  unfold rdy;rw [hb];rfl
end
theorem w_extend{A:PHp}{Q:PV->PHp->Prop}{E:XP}{σ:PSt}{e1 e2:ED}(h:Wp (e1 σ) A (λx A1=>∃n l0,x=.ref n/\A1[n]?=some (.lst l0)/\Wp (e2 σ) A1 (λv A2=>∃(k:Nat) (l m:List PV),v=.ref k/\A2[n]?=some (.lst l)/\A2[k]?=some (.lst m)/\l.length+m.length<=LIM/\Q .non (A2.set n (.lst (l++m)))) E) E):Wp (ae6 e1 e2 σ) A Q E:=
 C1 (w_mono h λx A1 hq=>by
  obtain ⟨n,l0,hx,h0,h1⟩:=hq
  subst hx
  exact C1 (Z0 h0 (C1 (w_mono h1 λv A2 hq=>by
   obtain ⟨k,l,m,hv,hl,hm,hlim,q⟩:=hq
   subst hv
   exact C1 (Z0 hl (C1 (Z0 hm (D9 hlim (C1 (w_eq (a:=()) rfl q))))))))))
theorem aw2{A:PHp}{σ:PSt}{it:ID}{g:GD}{s:SD}{QF:Fl->PHp->Prop}{E:XP}(h:Wp (it σ) A (λJ A1=>∃(P:Nat->PSt->PHp->Prop) (a:Nat) (l:List PV),J=.lst a/\P 0 σ A1/\(∀i σ B,P i σ B->D3 a B=.ok l B)/\(∀(i:Nat) v σ B,l[i]?=some v->P i σ B->Wp (g v σ) B (λσ1 B1=>Wp (s σ1) B1 (z0 (P (i+1)) QF) E) E)/\∀σ B,P l.length σ B->QF (.nx σ) B) E) :
 Wp (g8 it g s σ) A QF E:=C1 (w_mono h λJ A1 hh=>by
 obtain⟨P,a,l,hJ,h0,hl,hs,he⟩:=hh
 have:=a11 (it:=λ_=>ret J) (σ:=σ) (A:=A1) (g:=g) (s:=s) (QF:=QF) (E:=E) P ⟨a,l,hJ,h0,hl,hs,he⟩
 exact this)
section
variable{A B:PHp}{c:Cfg}{S:LS}{k:Nat}{me:Int}
def New(A:PHp)(l:List PV)(v:PV)(A':PHp):Prop:=∃n,v=.ref n/\A.length<=n/\A<+:A'/\A'[n]?=some (.lst l)
def z9(c:Cfg)(S:LS)(me:Int):List PV:=if S.now=1 then (ofMe c me).map Q3 else []
theorem lays_ok(H:Kpr A c S k me)(hm:me∈c.L):Wp (P2 [.ref k,.ref c.G]) A (New A (z9 c S me)) NoX:=by
 unfold P2
 have h1:=H.led.ob;have h2:=H.led.plan.ob;have h3:=H.ob
 have hl:=am1 H
 walk_at "fn"
 walk_at "gb"
 unfold T0
 walk_at "fn"
 walk_at "gb"
 rw [decide_eq_true hm]
 refine⟨λ_=>?_,λz=>(nomatch z)⟩
 walk_at "gb"
 unfold f_Ledger_turn
 walk_at "fn"
 walk_at "gb"
 refine⟨λhb=>?_,λhb=>?_⟩
 ·walk_at "gb"
  have:S.now≠1:=by simpa using hb
  unfold z9;rw [if_neg this]
  exact⟨_,rfl,Nat.le_refl _,List.prefix_append _ _,get_app⟩
 ·have:S.now=1:=by simpa using hb
  walk_at "gb"
  unfold f_Keeper_lays_c1
  refine J9 (l:=pvs (ofMe c me)) (λσ=>∃x,σ=[x]) (λ_=>true) (λv=>Q3 (Z7 v,b8 v)) ?_
  walk_at "gb"
  refine w_mono (boxes_of_ok H) λv A1 hh=>?_
  obtain⟨n,rfl,hn,p1,hb⟩:=hh
  walk_at "gb"
  refine⟨_,N5 hb,Nat.le_refl _,lim_le (by unfold pvs;rw [List.length_map];omega),⟨_,rfl⟩,λi=>N6 hb i,?_,?_⟩
  ·rintro v σ hv ⟨x,rfl⟩
   obtain⟨p,_,rfl⟩:=S7 hv
   walk_at "go"
   refine⟨rfl,⟨_,rfl⟩,?_⟩
   walk_at "go"
   refine⟨rfl,rfl,λ_=>?_⟩
   walk_at "go"
   exact⟨rfl,rfl⟩
  ·refine⟨_,rfl,p1.length_le,p1.trans (List.prefix_append _ _),?_⟩
   rw [get_app,List.filter_eq_self.mpr (by simp)]
   unfold pvs z9
   rw [if_pos this,List.map_map];rfl
def ownL(c:Cfg)(S:LS)(me rd:Int):List PV:=if S.now=rd/\((toMe c me).any λp=>U0 c S p [me])=false then (toMe c me).map (T7 · [me]) else []
theorem own_ok(H:Kpr A c S k me)(rd:Int):Wp (G6 [.ref k,.ref c.G,.int rd]) A (New A (ownL c S me rd)) NoX:=by
 unfold G6
 have h1:=H.led.ob;have h3:=H.ob
 have hl:=m5 H
 walk_at "fn"
 walk_at "gb"
 refine w_mono (boxes_to_ok H) λv A1 hh=>?_
 obtain⟨n,rfl,hn,p1,hbx⟩:=hh
 have H1:=H.mono p1
 have h1:=H1.led.ob;have h3:=H1.ob
 walk_at "gb"
 unfold f_Ledger_turn
 walk_at "fn"
 walk_at "gb"
 refine⟨λhb=>?_,λhb=>?_⟩
 ·walk_at "gb"
  have:S.now≠rd:=by simpa using hb
  unfold ownL;rw [if_neg (λz=>this z.1)]
  exact⟨_,rfl,p1.length_le,p1.trans (List.prefix_append _ _),get_app⟩
 ·have hnow:S.now=rd:=by simpa using hb
  walk_at "gb"
  have hc:Wp (M3 [some (.ref k),some (.ref c.G),some (.int rd),some (.tup [.int me]),some (.ref n)]) A1 (λv A'=>v=.ref A1.length/\A'=A1++[.lst (((toMe c me).map λp=>U0 c S p [me]).map .bl)]) NoX:=by
   unfold M3
   refine J9 (l:=pvs (toMe c me)) (λσ=>∃x,σ=[x,some (.ref c.G),some (.tup [.int me])]) (λ_=>true) (λv=>.bl (U0 c S (Z7 v,b8 v) [me])) ?_
   walk_at "gb"
   refine⟨_,N5 hbx,Nat.le_refl _,lim_le (by unfold pvs;rw [List.length_map];omega),⟨_,rfl⟩,λi=>N6 hbx i,?_,?_⟩
   ·rintro v σ hv ⟨x,rfl⟩
    obtain⟨p,hp,rfl⟩:=S7 hv
    have hp':p∈c.ps:=(List.mem_filter.mp hp).1
    walk_at "go"
    refine⟨rfl,⟨_,rfl⟩,?_⟩
    walk_at "go"
    refine⟨rfl,rfl,λ_=>?_⟩
    walk_at "go"
    refine w_mono (late_ok H1.led hp' [me]) λv A2 hh=>?_
    exact⟨hh.2,hh.1⟩
   ·refine⟨rfl,?_⟩
    rw [List.filter_eq_self.mpr (by simp)]
    unfold pvs
    rw [List.map_map,List.map_map];rfl
  refine w_mono hc λv A2 hh=>?_
  obtain⟨rfl,rfl⟩:=hh
  refine⟨_,_,rfl,get_app,?_⟩
  have ea:(((toMe c me).map λp=>U0 c S p [me]).any id)=(toMe c me).any λp=>U0 c S p [me]:=by rw [List.any_map];rfl
  rw [ea]
  refine⟨_,rfl,λhb2=>?_,λhb2=>?_⟩
  ·walk_at "gb"
   unfold ownL;rw [if_neg (λz=>by rw [hb2] at z;cases z.2)]
   exact⟨_,rfl,by simp;have:=p1.length_le;omega,p1.trans ((List.prefix_append _ _).trans (List.prefix_append _ _)),get_app⟩
  ·walk_at "gb"
   have hbx:(A1++[PO.lst (((toMe c me).map λp=>U0 c S p [me]).map .bl)])[n]?=some (.lst (pvs (toMe c me))):=get_app_of hbx
   have p2:A<+:A1++[PO.lst (((toMe c me).map λp=>U0 c S p [me]).map .bl)]:=p1.trans (List.prefix_append _ _)
   generalize A1++[PO.lst (((toMe c me).map λp=>U0 c S p [me]).map .bl)]=A2 at *
   unfold Q6
   refine J9 (l:=pvs (toMe c me)) (λσ=>∃x,σ=[x,some (.tup [.int me])]) (λ_=>true) (λv=>T7 (Z7 v,b8 v) [me]) ?_
   walk_at "gb"
   refine⟨_,N5 hbx,Nat.le_refl _,lim_le (by unfold pvs;rw [List.length_map];omega),⟨_,rfl⟩,λi=>N6 hbx i,?_,?_⟩
   ·rintro v σ hv ⟨x,rfl⟩
    obtain⟨p,hp,rfl⟩:=S7 hv
    walk_at "go"
    refine⟨rfl,⟨_,rfl⟩,?_⟩
    walk_at "go"
    refine⟨rfl,rfl,λ_=>?_⟩
    walk_at "go"
    exact⟨rfl,rfl⟩
   ·refine⟨_,rfl,p2.length_le,p2.trans (List.prefix_append _ _),?_⟩
    rw [get_app,List.filter_eq_self.mpr (by simp)]
    unfold pvs ownL
    rw [if_pos ⟨hnow,hb2⟩,List.map_map];rfl
theorem bd1(H:Kpr A c S k me)(hr:∀p∈ofMe c me,Q7 S p=[])(x:Int):Wp (G3 [.ref k,.ref c.G,.int x]) A (New A []) NoX:=by
 unfold G3
 walk_at "fn"
 walk_at "gb"
 have p0:A<+:A++[PO.lst []]:=List.prefix_append _ _
 have hr0:(A++[PO.lst []])[A.length]?=some (.lst []):=get_app
 generalize A++[PO.lst []]=A0 at *
 have H0:=H.mono p0
 have h1:=H0.led.ob;have h3:=H0.ob
 have hw:Wp (L4 [some (.ref k),some (.ref c.G),some (.int x),some (.ref A.length),none,none,none]) A0 (λo B=>∃y4 y5 y6,o=.nx [some (.ref k),some (.ref c.G),some (.int x),some (.ref A.length),y4,y5,y6]/\A0<+:B) NoX:=by
  unfold L4
  refine aw2 ?_
  walk_at "gb"
  refine w_mono (boxes_of_ok H0) λv A1 hh=>?_
  obtain⟨n,rfl,hn,p1,hb⟩:=hh
  walk_at "gb"
  refine⟨λi σ B=>∃y4 y5 y6,σ=[some (.ref k),some (.ref c.G),some (.int x),some (.ref A.length),y4,y5,y6]/\A1<+:B,n,pvs (ofMe c me),rfl,⟨_,_,_,rfl,List.prefix_refl _⟩,λi σ B hh=>?_,λi v σ B hv hh=>?_,λσ B hh=>?_⟩
  ·obtain⟨_,_,_,_,q⟩:=hh
   exact J2 (pre_get q hb)
  ·obtain⟨y4,y5,y6,rfl,q⟩:=hh
   unfold pvs at hv
   rw [List.getElem?_map] at hv
   obtain⟨p,hp,rfl⟩:=Option.map_eq_some_iff.mp hv
   have hrp:=hr p (List.mem_of_getElem? hp)
   have H1:=H0.mono (p1.trans q)
   have h1:=H1.led.ob
   walk_at "go"
   unfold f_Keeper_rows_to_say_on_b1 f_Keeper_rows_to_say_on_l2
   refine aw2 ?_
   walk_at "go"
   refine w_mono (said_ok H1.led p) λv A2 hh=>?_
   obtain⟨m,rfl,hm,p2,hm2,_⟩:=hh
   rw [hrp] at hm2
   walk_at "go"
   refine⟨λi σ B=>∃y5 y6,σ=[some (.ref k),some (.ref c.G),some (.int x),some (.ref A.length),some (pv p),y5,y6]/\A2=B,m,[],rfl,⟨_,_,rfl,rfl⟩,λi σ B hh=>?_,λi v σ B hv hh=>?_,λσ B hh=>?_⟩
   ·obtain⟨_,_,_,rfl⟩:=hh
    exact J2 hm2
   ·cases hv
   ·obtain⟨_,_,rfl,rfl⟩:=hh
    exact⟨_,_,_,rfl,q.trans p2⟩
  ·obtain⟨_,_,_,rfl,q⟩:=hh
   exact⟨_,_,_,rfl,p1.trans q⟩
 refine w_mono hw λo B hh=>?_
 obtain⟨y4,y5,y6,rfl,p1⟩:=hh
 walk_at "gb"
 exact⟨_,rfl,Nat.le_refl _,p0.trans p1,pre_get p1 hr0⟩
theorem word_on_ok(H:Kpr A c S k me)(hr:∀p∈ofMe c me,Q7 S p=[])(x rd:Int):Wp (G9 [.ref k,.ref c.G,.int x,.int rd]) A (New A []) NoX:=by
 unfold G9
 have h3:=H.ob
 walk_at "fn"
 walk_at "gb"
 refine w_mono (bd1 H hr x) λv A1 hh=>?_
 obtain⟨n,rfl,hn,p1,hb⟩:=hh
 walk_at "gb"
 refine w_eqL0 (l:=[]) (get_app_of hb) get_app ?_
 walk_at "gb"
 exact⟨_,rfl,by simp;have:=p1.length_le;omega,p1.trans ((List.prefix_append _ _).trans (List.prefix_append _ _)),get_app⟩
def Z1(c:Cfg)(S:LS)(me:Int):List PV:=match rdy c S me with
 | .int rd=>ownL c S me rd
 | _=>[]
theorem says_ok(H:Kpr A c S k me)(hm:me∈c.L)(hLn:c.L.Nodup)(hr:∀p∈ofMe c me,Q7 S p=[]):Wp (P3 [.ref k,.ref c.G]) A (New A (Z1 c S me)) NoX:=by
 unfold P3
 have h1:=H.led.ob;have h3:=H.ob
 have hl:=m5 H
 walk_at "fn"
 walk_at "gb"
 refine w_mono (a39 H) λv A1 hh=>?_
 obtain⟨p1,rfl⟩:=hh
 have H1:=H.mono p1
 by_cases hb:((toMe c me).any λp=>(I9 S p).isNone)=true
 ·have e:rdy c S me=.non:=by unfold rdy;rw [if_pos hb]
  have e2:Z1 c S me=[]:=by unfold Z1;rw [e]
  rw [e,e2]
  walk_at "gb"
  exact⟨_,rfl,p1.length_le,p1.trans (List.prefix_append _ _),get_app⟩
 ·obtain⟨rd,e⟩:∃rd,rdy c S me=.int rd:=by unfold rdy;rw [if_neg hb];exact⟨_,rfl⟩
  have e2:Z1 c S me=ownL c S me rd:=by unfold Z1;rw [e]
  rw [e,e2]
  have hol:(ownL c S me rd).length<64:=by
   unfold ownL
   split
   ·rw [List.length_map];exact hl
   ·simp
  walk_at "gb"
  have q0:A1<+:A1++[PO.lst []]:=List.prefix_append _ _
  have hd0:(A1++[PO.lst []])[A1.length]?=some (.lst []):=get_app
  generalize A1++[PO.lst []]=A2 at *
  have H2:=H1.mono q0
  have h1:=H2.led.ob;have h2:=H2.led.plan.ob;have h3:=H2.ob
  have hw:Wp (U6 [some (.ref k),some (.ref c.G),some (.int rd),some (.ref A1.length),none]) A2 (λo B=>∃y4,o=.nx [some (.ref k),some (.ref c.G),some (.int rd),some (.ref A1.length),y4]/\A1<+:B/\B[A1.length]?=some (.lst (ownL c S me rd))) NoX:=by
   unfold U6
   refine bo0 (λi σ B=>∃y4,σ=[some (.ref k),some (.ref c.G),some (.int rd),some (.ref A1.length),y4]/\A1<+:B/\B[A1.length]?=some (.lst (if me∈c.L.take i then ownL c S me rd else []))) ?_
   walk_at "gb"
   refine⟨⟨_,rfl,q0,by simpa using hd0⟩,λi v σ B hv hh=>?_,λσ B hh=>?_⟩
   ·obtain⟨y4,rfl,p2,hd⟩:=hh
    rw [List.getElem?_map] at hv
    obtain⟨x,hx,rfl⟩:=Option.map_eq_some_iff.mp hv
    have HB:=H1.mono p2
    have h3:=HB.ob
    have tk:c.L.take (i+1)=c.L.take i++[x]:=by rw [List.take_succ,hx];rfl
    have hnin:x∉c.L.take i:=λhmm=>by
     have hlt:=(List.getElem?_eq_some_iff.mp hx).1
     obtain⟨j,hj,e⟩:=List.mem_iff_getElem.mp hmm
     rw [List.length_take] at hj
     rw [List.getElem_take] at e
     exact List.pairwise_iff_getElem.mp hLn j i (by omega) hlt (by omega) (e.trans (List.getElem?_eq_some_iff.mp hx).2.symm)
    walk_at "go"
    unfold f_Keeper_says_b1
    walk_at "gb"
    refine⟨λhb=>?_,λhb=>?_⟩
    ·have hxm:x=me:=by simpa using hb
     rw [hxm] at hnin tk
     rw [if_neg hnin] at hd
     walk_at "gb"
     refine w_extend ?_
     walk_at "gb"
     refine w_mono (own_ok HB rd) λv B1 hh=>?_
     obtain⟨n,rfl,hn,p3,hn2⟩:=hh
     refine⟨_,_,_,rfl,pre_get p3 hd,hn2,lim_le (by simp;omega),?_⟩
     refine⟨_,rfl,W4 (p2.trans p3) (Nat.le_refl _),?_⟩
     rw [get_set (pre_get p3 hd),tk,if_pos (by simp)];rfl
    ·have hxm:x≠me:=by simpa using hb
     walk_at "gb"
     refine w_extend ?_
     walk_at "gb"
     refine w_mono (word_on_ok HB hr x rd) λv B1 hh=>?_
     obtain⟨n,rfl,hn,p3,hn2⟩:=hh
     refine⟨_,_,_,rfl,pre_get p3 hd,hn2,lim_le (by split <;> simp <;> omega),?_⟩
     refine⟨_,rfl,W4 (p2.trans p3) (Nat.le_refl _),?_⟩
     rw [get_set (pre_get p3 hd),tk,List.append_nil]
     have:(me∈c.L.take i++[x])↔me∈c.L.take i:=by
      rw [List.mem_append,List.mem_singleton]
      exact⟨λh=>h.elim id λz=>absurd z.symm hxm,.inl⟩
     simp only [this]
   ·obtain⟨y4,rfl,p2,hd⟩:=hh
    rw [List.length_map,List.take_length,if_pos hm] at hd
    exact⟨_,rfl,p2,hd⟩
  refine w_mono hw λo B hh=>?_
  obtain⟨y4,rfl,p2,hd⟩:=hh
  walk_at "gb"
  exact⟨_,rfl,p1.length_le,p1.trans p2,hd⟩
theorem deeds_ok(H:Kpr A c S k me)(hm:me∈c.L)(hLn:c.L.Nodup)(hr:∀p∈ofMe c me,Q7 S p=[]):Wp (N7 [.ref k,.ref c.G]) A (New A (z9 c S me++Z1 c S me)) NoX:=by
 unfold N7
 have h1:=H.led.ob;have h3:=H.ob
 have hl:=m5 H
 have hl2:=am1 H
 walk_at "fn"
 refine w_retS (w_bin ?_)
 walk_at "gb"
 refine w_mono (lays_ok H hm) λv A1 hh=>?_
 obtain⟨n,rfl,hn,p1,hn2⟩:=hh
 have H1:=H.mono p1
 have h1:=H1.led.ob;have h3:=H1.ob
 walk_at "gb"
 refine w_mono (says_ok H1 hm hLn hr) λv A2 hh=>?_
 obtain⟨m,rfl,hm1,p2,hm2⟩:=hh
 have e1:(z9 c S me).length<64:=by
  unfold z9
  split
  ·rw [List.length_map];exact hl2
  ·simp
 have e2:(Z1 c S me).length<64:=by
  unfold Z1
  split
  ·unfold ownL
   split
   ·rw [List.length_map];exact hl
   ·simp
  ·simp
 refine w_addL (pre_get p2 hn2) hm2 (lim_le (by omega)) ?_
 exact⟨_,rfl,by have:=p1.length_le;have:=p2.length_le;omega,(p1.trans p2).trans (List.prefix_append _ _),get_app⟩
end
section
variable{A B:PHp}{c:Cfg}{S S0:LS}{me:Int}{D:List PV}
theorem aR8(H:Led A c S){p:Int×Int}(hp:p∈c.ps)(hn:I9 S p=none):Wp (M8 [.ref c.G,Q3 p]) A (λv A'=>v=.bl true/\Led A' c (layS S p)/\Stp c S (layS S p) A A') NoX:=by
 unfold M8
 have h1:=H.ob
 walk_at "fn"
 walk_at "gb"
 refine w_mono (bu3 H hp hn) λv A1 hh=>?_
 obtain⟨rfl,H1,st⟩:=hh
 walk_at "gb"
 exact⟨rfl,H1,st⟩
theorem aR9(H:Led A c S){p:Int×Int}{ch:List Int}(hc:ch.length<100)(hm:S.m<2000)(hv:aR2 c S p ch=0):Wp (M8 [.ref c.G,T7 p ch]) A (λv A'=>v=.bl true/\∃a,Led A' c (sayS S p ch a)/\Stp c S (sayS S p ch a) A A') NoX:=by
 unfold M8
 have h1:=H.ob
 walk_at "fn"
 walk_at "gb"
 refine w_mono (bu4 H hc hm hv) λv A1 hh=>?_
 obtain⟨rfl,a,H1,st⟩:=hh
 walk_at "gb"
 exact⟨rfl,a,H1,st⟩
theorem c6{p q:Int×Int}(h:Q3 p=Q3 q):p=q:=by
 unfold Q3 pv at h
 simp at h
 exact Prod.ext h.1 h.2
theorem a40{p q:Int×Int}{a b:List Int}(h:T7 p a=T7 q b):p=q:=by
 unfold T7 pv at h
 simp at h
 exact Prod.ext h.1.1 h.1.2
theorem f9{p q:Int×Int}{ch:List Int}:Q3 p≠T7 q ch:=λh=>by
 unfold Q3 T7 at h
 simp at h
structure Tk(c:Cfg)(S0 S:LS)(me:Int)(D:List PV):Prop where
 now:S.now=S0.now
 lay:∀p,(Q3 p∈D->I9 S p=(I9 S0 p).or (some S0.now))/\(Q3 p∉D->I9 S p=I9 S0 p)
 row:∀p:Int×Int,p.1=me->Q7 S p=Q7 S0 p
 m:S.m<=S0.m+D.length
theorem Tk.nil:Tk c S S me []:=⟨rfl,λp=>⟨λh=>(nomatch h),λ_=>rfl⟩,λp _=>rfl,by simp⟩
theorem Tk.layS(T:Tk c S0 S me D)(p:Int×Int):Tk c S0 (layS S p) me (D++[Q3 p]):=by
 refine⟨T.now,λq=>?_,T.row,by rw [List.length_append];have:=T.m;show S.m<=_;omega⟩
 have e:I9 (Ws.layS S p) q=(I9 S q).or (if p=q then some S.now else none):=by
  show look (S.lays++[(p,S.now)]) q=_
  rw [aB1,al9];rfl
 rw [e,T.now]
 have:=T.lay q
 by_cases h:p=q
 ·subst h
  refine⟨λ_=>?_,λh=>absurd (by simp) h⟩
  rw [if_pos rfl]
  by_cases h2:Q3 p∈D
  ·rw [this.1 h2];cases I9 S0 p <;> rfl
  ·rw [this.2 h2]
 ·have hne:Q3 q≠Q3 p:=λz=>h (c6 z).symm
  rw [if_neg h,Option.or_none]
  simpa [hne] using this
theorem Tk.sayS(T:Tk c S0 S me D)(kn:(S.says.map (·.1)).Nodup){p:Int×Int}(hp:p.1≠me)(ch:List Int)(a:Nat):Tk c S0 (sayS S p ch a) me (D++[T7 p ch]):=by
 refine⟨T.now,λq=>?_,λq hq=>?_,by rw [List.length_append];have:=T.m;show S.m+1<=_;simp;omega⟩
 ·have hne:Q3 q≠T7 p ch:=f9
  have:=T.lay q
  have e:I9 (Ws.sayS S p ch a) q=I9 S q:=rfl
  rw [e]
  simpa [hne] using this
 ·rw [a35 kn,if_neg (λz=>hp (by rw [←z];exact hq))]
  exact T.row q hq
theorem nodup_take{α:Type}{D:List α}(h:D.Nodup){i:Nat}{v:α}(hv:D[i]?=some v):v∉D.take i:=λhm=>by
 have hlt:=(List.getElem?_eq_some_iff.mp hv).1
 obtain⟨j,hj,e⟩:=List.mem_iff_getElem.mp hm
 rw [List.length_take] at hj
 rw [List.getElem_take] at e
 exact List.pairwise_iff_getElem.mp h j i (by omega) hlt (by omega) (e.trans (List.getElem?_eq_some_iff.mp hv).2.symm)
def Fit(c:Cfg)(S:LS)(me:Int)(v:PV):Prop:=
 (∃p,v=Q3 p/\p∈c.ps/\I9 S p=none)\/(∃p,v=T7 p [me]/\p∈c.ps/\p.2=me/\(∃u,I9 S p=some u/\u<S.now)/\U0 c S p [me]=false)
theorem a41{N:Nat}{ps:List (Int×Int)}{L:List Int}(hN:0<=me/\me<N)(hm:me∈L):z7 N ps L [me]:=by
 unfold z7
 simp [hm,hN]
theorem fit_step(H:Led B c S)(T:Tk c S0 S me D)(hme:0<=me/\me<c.N)(hmL:me∈c.L){v:PV}(hv:Fit c S0 me v)(hnew:v∉D)(hm:S0.m+D.length<2000):Wp (M8 [.ref c.G,v]) B (λx B'=>x=.bl true/\∃S',Led B' c S'/\Stp c S S' B B'/\Tk c S0 S' me (D++[v])) NoX:=by
 rcases hv with ⟨p,rfl,hp,hn⟩ | ⟨p,rfl,hp,h2,⟨u,hu,hlt⟩,hl⟩
 ·have:I9 S p=none:=by rw [(T.lay p).2 hnew,hn]
  refine w_mono (aR8 H hp this) λx B1 hh=>?_
  obtain⟨rfl,H1,st⟩:=hh
  exact⟨rfl,_,H1,st,T.layS p⟩
 ·have hla:I9 S p=some u:=by
   by_cases h:Q3 p∈D
   ·rw [(T.lay p).1 h,hu];rfl
   ·rw [(T.lay p).2 h,hu]
  have hv:aR2 c S p [me]=0:=by
   rw [aL8 ⟨hp,a41 hme hmL,by simp [h2]⟩]
   unfold aL7 aheadB
   have e1:U0 c S p [me]=false:=by unfold U0 at hl ⊢;rw [T.now];exact hl
   have e2:aw1 c S [me]=true:=by unfold aw1 am0;simp
   rw [hla,e1,e2,T.now]
   simp [hlt]
  refine w_mono (aR9 H (by simp) (by have:=T.m;omega) hv) λx B1 hh=>?_
  obtain⟨rfl,a,H1,st⟩:=hh
  have hp1:p.1≠me:=by have:=(H.pg.good p hp).2.2;rw [h2] at this;exact this
  exact⟨rfl,_,H1,st,T.sayS H.kn hp1 _ a⟩
end
def tt(me:Int)(τ:Int×Int->Int)(p:Int×Int):Int:=if p.1=me then 1 else τ p
def Y1(c:Cfg)(me:Int):List (Int×Int):=c.ps.filter λp=>!decide (p.1=me)
def rdT(c:Cfg)(me:Int)(τ:Int×Int->Int):Int:=1+mxL ((toMe c me).map τ)
def o3(c:Cfg)(me:Int)(τ:Int×Int->Int):List PV:=if ((toMe c me).any λp=>decide (c.f p+1<rdT c me τ))=true then [] else (toMe c me).map (T7 · [me])
structure C33(c:Cfg)(me:Int)(τ:Int×Int->Int):Prop where
 N:0<=me/\me<c.N
 L:me∈c.L
 nd:c.L.Nodup
 ne:toMe c me≠[]
 ps:c.ps.length<=36
 τ:∀p,1<=τ p
structure I33(B:PHp)(c:Cfg)(S:LS)(q td du kp:Nat)(me:Int)(τ:Int×Int->Int)(t:Nat):Prop where
 kpr:Kpr B c S kp me
 pq:B[q]?=some (.lst (pvs c.ps))
 tdx:B[td]?=some (.dT (limD (Y1 c me) τ))
 dux:B[du]?=some (.lst (o3 c me τ))
 fo:∀a,a=q\/a=td\/a=du\/a=kp->a∉own c S
 now:S.now=t
 la:∀p,I9 S p=if p∈c.ps/\tt me τ p<t then some (tt me τ p) else none
 row:∀p:Int×Int,p.1=me->Q7 S p=[]
 ms:S.m<=110*t
section
variable{B B':PHp}{c:Cfg}{S:LS}{q td du kp t:Nat}{me:Int}{τ:Int×Int->Int}
theorem I33.mono(H:I33 B c S q td du kp me τ t)(e:B<+:B'):I33 B' c S q td du kp me τ t:=
 ⟨H.kpr.mono e,pre_get e H.pq,pre_get e H.tdx,pre_get e H.dux,H.fo,H.now,H.la,H.row,H.ms⟩
theorem mem_toMe{p:Int×Int}:p∈toMe c me↔p∈c.ps/\p.2=me:=by unfold toMe;rw [List.mem_filter];simp
theorem mem_ofMe{p:Int×Int}:p∈ofMe c me↔p∈c.ps/\p.1=me:=by unfold ofMe;rw [List.mem_filter];simp
theorem mem_others{p:Int×Int}:p∈Y1 c me↔p∈c.ps/\p.1≠me:=by unfold Y1;rw [List.mem_filter];simp
theorem aw3:∀(r:List Int) (i:Int),i<=V2 i r/\∀x∈r,x<=V2 i r
 | [],i=>⟨Int.le_refl _,λx h=>nomatch h⟩
 | j::r,i=>by
   unfold V2
   have h:=aw3 r (if i<j then j else i)
   by_cases hij:i<j
   ·rw [if_pos hij] at h ⊢
    refine⟨by omega,λx hx=>?_⟩
    rcases List.mem_cons.mp hx with rfl | z
    ·exact h.1
    ·exact h.2 x z
   ·rw [if_neg hij] at h ⊢
    refine⟨h.1,λx hx=>?_⟩
    rcases List.mem_cons.mp hx with rfl | z
    ·omega
    ·exact h.2 x z
theorem a42{l:List Int}{x:Int}(h:x∈l):x<=mxL l:=by
 cases l with
 | nil=>cases h
 | cons i r=>
   rcases List.mem_cons.mp h with rfl | z
   ·exact (aw3 r _).1
   ·exact (aw3 r i).2 x z
theorem a43(H:Led B c S){p:Int×Int}(hp:p∈toMe c me):p.1≠me:=by
 obtain⟨h1,h2⟩:=mem_toMe.mp hp
 have:=(H.pg.good p h1).2.2
 rw [h2] at this;exact this
theorem bd2(C:C33 c me τ)(H:I33 B c S q td du kp me τ t):Z1 c S me=if (t:Int)=rdT c me τ then o3 c me τ else []:=by
 have hto:∀p∈toMe c me,I9 S p=if τ p<t then some (τ p) else none:=λp hp=>by
  rw [H.la p]
  have e:tt me τ p=τ p:=by unfold tt;rw [if_neg (a43 H.kpr.led hp)]
  rw [e];simp [(mem_toMe.mp hp).1]
 by_cases hb:((toMe c me).any λp=>(I9 S p).isNone)=true
 ·have e:rdy c S me=.non:=by unfold rdy;rw [if_pos hb]
  have e2:Z1 c S me=[]:=by unfold Z1;rw [e]
  rw [e2,if_neg]
  intro z
  obtain⟨p,hp,hn⟩:=List.any_eq_true.mp hb
  rw [hto p hp] at hn
  have:¬τ p<t:=λh=>by rw [if_pos h] at hn;cases hn
  have:=a42 (List.mem_map_of_mem (f:=τ) hp)
  unfold rdT at z
  omega
 ·have hall:∀p∈toMe c me,τ p<t:=λp hp=>by
   by_cases h:τ p<t
   ·exact h
   ·exact absurd (List.any_eq_true.mpr ⟨p,hp,by rw [hto p hp,if_neg h];rfl⟩) hb
  have em:((toMe c me).map λp=>(I9 S p).getD 0)=(toMe c me).map τ:=List.map_congr_left λp hp=>by rw [hto p hp,if_pos (hall p hp)];rfl
  have e:rdy c S me=.int (rdT c me τ):=by unfold rdy rdT;rw [if_neg hb,em]
  have e2:Z1 c S me=ownL c S me (rdT c me τ):=by unfold Z1;rw [e]
  rw [e2]
  unfold ownL o3 U0
  rw [H.now]
  by_cases h:(t:Int)=rdT c me τ
  ·rw [if_pos h,h]
   have el:(λp=>decide (c.f p+(([me]:List Int).length:Nat)<rdT c me τ))=λp=>decide (c.f p+1<rdT c me τ):=rfl
   rw [el]
   generalize ((toMe c me).any λp=>decide (c.f p+1<rdT c me τ))=b
   cases b <;> simp
  ·rw [if_neg h,if_neg (λz=>h z.1)]
theorem bd3(H:I33 B c S q td du kp me τ t):z9 c S me=if t=1 then (ofMe c me).map Q3 else []:=by
 unfold z9
 rw [H.now]
 by_cases h:t=1
 ·rw [if_pos h,if_pos (by omega)]
 ·rw [if_neg h,if_neg (by omega)]
def nowL(c:Cfg)(me:Int)(τ:Int×Int->Int)(t:Nat):List PV:=((Y1 c me).filter λp=>decide (τ p=t)).map Q3
theorem law_c8_ok(H:I33 B c S q td du kp me τ t){x0 x1 x2 x4 x5 x6 x7 x8 x9 x11 x12 x13 x14 x15:Option PV}{xs:List (Option PV)} :
 Wp (al0 (x0::x1::x2::some (.ref q)::x4::x5::x6::x7::x8::x9::some (.ref td)::x11::x12::x13::x14::x15::some (.int t)::xs)) B (λv B'=>v=.ref B.length/\B'=B++[.lst (nowL c me τ t)]) NoX:=by
 unfold al0
 have hq:=H.pq
 have ht:=H.tdx
 have hl:=H.kpr.led.pg.len
 refine J9 (l:=pvs c.ps) (λσ=>∃x,σ=[x,some (.ref td),some (.int t)]) (λv=>!decide (Z7 v=me)&&decide (τ (Z7 v,b8 v)=t)) (λv=>Q3 (Z7 v,b8 v)) ?_
 walk_at "go"
 refine⟨_,N5 hq,Nat.le_refl _,lim_le (by unfold pvs;rw [List.length_map];omega),⟨_,rfl⟩,λi=>N6 hq i,?_,?_⟩
 ·rintro v σ hv ⟨x,rfl⟩
  obtain⟨p,hp,rfl⟩:=S7 hv
  walk_at "go"
  refine⟨rfl,⟨_,rfl⟩,?_⟩
  have hnd:(Y1 c me).Nodup:=H.kpr.led.pg.nd.filter _
  have hfin:∀σ1:PSt,σ1=[some (pv p),some (.ref td),some (.int t)]->Wp (W3 (aCons (eK (.str "lay")) (aCons (eVar 0) aNil)) σ1) B (λy B3=>B3=B/\y=Q3 (Z7 (pv p),b8 (pv p))) NoX:=by
   rintro _ rfl
   walk_at "go"
   exact⟨rfl,rfl⟩
  by_cases h:p.1=me
  ·have hv:J8 (limD (Y1 c me) τ) [p.1,p.2]=none:=bc1 (λz=>(mem_others.mp z).2 h)
   walk_at "go"
   rw [hv]
   refine bg0 rfl rfl ?_
   refine⟨_,rfl,rfl,?_,λ_=>hfin _ rfl⟩
   show false=(!decide (p.1=me)&&_)
   simp [h]
  ·have hv:J8 (limD (Y1 c me) τ) [p.1,p.2]=some (.int (τ p)):=ae8 hnd (mem_others.mpr ⟨hp,h⟩)
   walk_at "go"
   rw [hv]
   show Wp (oEq (.int (τ p)) _) _ _ _
   walk_at "go"
   refine⟨rfl,?_,λ_=>hfin _ rfl⟩
   show decide _=(!decide (p.1=me)&&decide (τ p=t))
   simp [h]
 ·refine⟨rfl,?_⟩
  congr 3
  unfold pvs nowL Y1
  rw [List.filter_map,List.map_map,List.filter_filter]
  have:(λa=>decide (τ a=(t:Int))&&!decide (a.1=me))=((λv=>!decide (Z7 v=me)&&decide (τ (Z7 v,b8 v)=t)) ∘ pv):=by
   funext a
   show _=(!decide (a.1=me)&&decide (τ a=t))
   rw [Bool.and_comm]
  rw [this];rfl
end
def aB7:PV->Bool
 | .tup (.str x::_)=>decide (x="say")
 | _=>false
theorem aS0(p:Int×Int):aB7 (Q3 p)=false:=rfl
section
variable{B B':PHp}{c:Cfg}{S:LS}{q td du kp t:Nat}{me:Int}{τ:Int×Int->Int}
theorem law_c7_ok{l:List PV}{n:Nat}(hn:B[n]?=some (.lst l))(hl:l.length<=1000)(hd:∀v∈l,(∃p,v=Q3 p)\/∃p ch,v=T7 p ch){x0 x1 x2 x3 x4 x5 x6 x7 x8 x9 x10 x11 x12 x13 x14 x15 x16:Option PV}{xs:List (Option PV)} :
 Wp (ak9 (x0::x1::x2::x3::x4::x5::x6::x7::x8::x9::x10::x11::x12::x13::x14::x15::x16::some (.ref n)::xs)) B (λv B'=>v=.ref B.length/\B'=B++[.lst (l.filter aB7)]) NoX:=by
 unfold ak9
 refine J9 (l:=l) (λσ=>∃x,σ=[x]) aB7 (λv=>v) ?_
 walk_at "go"
 refine⟨_,N5 hn,Nat.le_refl _,lim_le (by omega),⟨_,rfl⟩,λi=>N6 hn i,?_,?_⟩
 ·rintro v σ hv ⟨x,rfl⟩
  walk_at "go"
  refine⟨rfl,⟨_,rfl⟩,?_⟩
  rcases hd v hv with ⟨p,rfl⟩ | ⟨p,ch,rfl⟩
  ·unfold Q3
   walk_at "go"
   refine⟨rfl,rfl,λ_=>?_⟩
   walk_at "go"
   exact⟨rfl,rfl⟩
  ·unfold T7
   walk_at "go"
   refine⟨rfl,rfl,λ_=>?_⟩
   walk_at "go"
   exact⟨rfl,rfl⟩
 ·exact⟨rfl,by rw [List.map_id']⟩
def turnL(c:Cfg)(me:Int)(τ:Int×Int->Int)(t:Nat):List PV:=(if t=1 then (ofMe c me).map Q3 else [])++(if (t:Int)=rdT c me τ then o3 c me τ else [])
theorem turn_in{v:PV}(h:v∈turnL c me τ t):(∃p,v=Q3 p/\p∈ofMe c me/\t=1)\/∃p,v=T7 p [me]/\p∈toMe c me/\(t:Int)=rdT c me τ/\∀r∈toMe c me,¬c.f r+1<rdT c me τ:=by
 unfold turnL at h
 rcases List.mem_append.mp h with z | z
 ·by_cases ht:t=1
  ·rw [if_pos ht] at z
   obtain⟨p,hp,rfl⟩:=List.mem_map.mp z
   exact .inl ⟨p,rfl,hp,ht⟩
  ·rw [if_neg ht] at z;cases z
 ·by_cases ht:(t:Int)=rdT c me τ
  ·rw [if_pos ht] at z
   unfold o3 at z
   cases hb:(toMe c me).any λp=>decide (c.f p+1<rdT c me τ) with
   | true=>rw [hb,if_pos rfl] at z;cases z
   | false=>
     rw [hb,if_neg (by simp)] at z
     obtain⟨p,hp,rfl⟩:=List.mem_map.mp z
     exact .inr ⟨p,rfl,hp,ht,λr hr hlt=>List.any_eq_false.mp hb r hr (decide_eq_true hlt)⟩
  ·rw [if_neg ht] at z;cases z
theorem aB8:(turnL c me τ t).filter aB7=if (t:Int)=rdT c me τ then o3 c me τ else []:=by
 unfold turnL
 rw [List.filter_append]
 have e1:(if t=1 then (ofMe c me).map Q3 else []).filter aB7=[]:=by
  split
  ·rw [List.filter_eq_nil_iff];intro v hv;obtain⟨p,_,rfl⟩:=List.mem_map.mp hv;simp [aS0]
  ·rfl
 rw [e1,List.nil_append]
 split
 ·rw [List.filter_eq_self]
  intro v hv
  unfold o3 at hv
  split at hv
  ·cases hv
  ·obtain⟨p,_,rfl⟩:=List.mem_map.mp hv;rfl
 ·rfl
theorem am2(C:C33 c me τ):(turnL c me τ t).length<=72:=by
 have h1:(ofMe c me).length<=36:=Nat.le_trans (List.length_filter_le _ _) C.ps
 have h2:(toMe c me).length<=36:=Nat.le_trans (List.length_filter_le _ _) C.ps
 unfold turnL
 rw [List.length_append]
 have a:(if t=1 then (ofMe c me).map Q3 else []).length<=36:=by
  split
  ·rw [List.length_map];exact h1
  ·simp
 have b:(if (t:Int)=rdT c me τ then o3 c me τ else []).length<=36:=by
  split
  ·unfold o3
   split
   ·simp
   ·rw [List.length_map];exact h2
  ·simp
 omega
theorem aM1(C:C33 c me τ):(nowL c me τ t).length<=36:=by
 unfold nowL
 rw [List.length_map]
 exact Nat.le_trans (List.length_filter_le _ _) (Nat.le_trans (List.length_filter_le _ _) C.ps)
theorem mem_now{p:Int×Int}:Q3 p∈nowL c me τ t↔p∈c.ps/\p.1≠me/\τ p=t:=by
 unfold nowL
 constructor
 ·intro h
  obtain⟨r,hr,e⟩:=List.mem_map.mp h
  cases c6 e
  obtain⟨h1,h2⟩:=List.mem_filter.mp hr
  have h3:=mem_others.mp h1
  exact⟨h3.1,h3.2,by simpa using h2⟩
 ·rintro⟨h1,h2,h3⟩
  exact List.mem_map.mpr ⟨p,List.mem_filter.mpr ⟨mem_others.mpr ⟨h1,h2⟩,by simpa using h3⟩,rfl⟩
theorem bd4(C:C33 c me τ)(H:I33 B c S q td du kp me τ t)(ht:1<=t):∀v∈turnL c me τ t++nowL c me τ t,Fit c S me v:=by
 intro v hv
 rcases List.mem_append.mp hv with z | z
 ·rcases turn_in z with ⟨p,rfl,hp,h1⟩ | ⟨p,rfl,hp,hr,hnl⟩
  ·obtain⟨hp1,hp2⟩:=mem_ofMe.mp hp
   refine .inl ⟨p,rfl,hp1,?_⟩
   rw [H.la p,if_neg]
   rintro⟨_,z⟩
   unfold tt at z
   rw [if_pos hp2] at z
   omega
  ·obtain⟨hp1,hp2⟩:=mem_toMe.mp hp
   refine .inr ⟨p,rfl,hp1,hp2,?_,?_⟩
   ·have e:tt me τ p=τ p:=by unfold tt;rw [if_neg (a43 H.kpr.led hp)]
    have:=a42 (List.mem_map_of_mem (f:=τ) hp)
    have hlt:τ p<t:=by unfold rdT at hr;omega
    refine⟨τ p,?_,by rw [H.now];exact hlt⟩
    rw [H.la p,e,if_pos ⟨hp1,hlt⟩]
   ·unfold U0
    rw [H.now,hr]
    exact decide_eq_false (hnl p hp)
 ·unfold nowL at z
  obtain⟨p,hp,rfl⟩:=List.mem_map.mp z
  obtain⟨h1,h2,h3⟩:=mem_now.mp z
  refine .inl ⟨p,rfl,h1,?_⟩
  rw [H.la p,if_neg]
  rintro⟨_,z⟩
  unfold tt at z
  rw [if_neg h2] at z
  omega
theorem bo8(H:I33 B c S q td du kp me τ t):(turnL c me τ t++nowL c me τ t).Nodup:=by
 have hps:=H.kpr.led.pg.nd
 have n1:((ofMe c me).map Q3).Nodup:=List.Pairwise.map _ (λa b hab z=>hab (c6 z)) (hps.filter _)
 have n2:((toMe c me).map (T7 · [me])).Nodup:=List.Pairwise.map _ (λa b hab z=>hab (a40 z)) (hps.filter _)
 have n3:(nowL c me τ t).Nodup:=List.Pairwise.map _ (λa b hab z=>hab (c6 z)) ((hps.filter _).filter _)
 have n12:(turnL c me τ t).Nodup:=by
  unfold turnL
  rw [List.nodup_append]
  refine⟨?_,?_,?_⟩
  ·split
   ·exact n1
   ·exact .nil
  ·split
   ·unfold o3
    split
    ·exact .nil
    ·exact n2
   ·exact .nil
  ·intro a ha b hb e
   split at ha
   ·obtain⟨p,_,rfl⟩:=List.mem_map.mp ha
    split at hb
    ·unfold o3 at hb
     split at hb
     ·cases hb
     ·obtain⟨r,_,rfl⟩:=List.mem_map.mp hb
      exact f9 e
    ·cases hb
   ·cases ha
 rw [List.nodup_append]
 refine⟨n12,n3,λa ha b hb e=>?_⟩
 subst e
 obtain⟨p,hp,e⟩:=List.mem_map.mp hb
 rw [←e] at ha hb
 rcases turn_in ha with ⟨r,e2,hr,_⟩ | ⟨r,e2,_⟩
 ·cases c6 e2
  exact (mem_now.mp hb).2.1 (mem_ofMe.mp hr).2
 ·exact f9 e2
theorem aS1(C:C33 c me τ)(H:I33 B c S q td du kp me τ t)(ht:1<=t)(ht2:t<=15){n:Nat}(hn:B[n]?=some (.lst (turnL c me τ t))){x0 x1 x2 x4 x5 x6 x7 x9 x11 x12 x13 x14 x15 x18 x19:Option PV} :
 Wp (al1 [x0,x1,x2,some (.ref q),x4,x5,x6,x7,some (.ref c.G),x9,some (.ref td),x11,x12,x13,x14,x15,some (.int t),some (.ref n),x18,x19]) B
  (λo B'=>∃y19 S',o=.nx [x0,x1,x2,some (.ref q),x4,x5,x6,x7,some (.ref c.G),x9,some (.ref td),x11,x12,x13,x14,x15,some (.int t),some (.ref n),x18,y19]/\Led B' c S'/\Stp c S S' B B'/\Tk c S S' me (turnL c me τ t++nowL c me τ t)) NoX:=by
 have hl1:=am2 (t:=t) C
 have hl2:=aM1 (t:=t) C
 unfold al1
 refine aw2 (w_iseq (w_bin ?_))
 walk_at "go"
 refine w_mono (law_c8_ok H) λv B1 hh=>?_
 obtain⟨rfl,rfl⟩:=hh
 refine w_addL (get_app_of hn) get_app (lim_le (by omega)) ?_
 generalize hD:turnL c me τ t++nowL c me τ t=D
 have hfit:=bd4 C H ht
 have hnd:=bo8 H
 rw [hD] at hfit hnd
 have hDl:D.length<=108:=by rw [←hD,List.length_append];omega
 have p2:B<+:B++[PO.lst (nowL c me τ t)]++[PO.lst D]:=(List.prefix_append _ _).trans (List.prefix_append _ _)
 have hg:(B++[PO.lst (nowL c me τ t)]++[PO.lst D])[(B++[PO.lst (nowL c me τ t)]).length]?=some (.lst D):=get_app
 have hlen:B.length<=(B++[PO.lst (nowL c me τ t)]).length:=by simp
 generalize B++[PO.lst (nowL c me τ t)]++[PO.lst D]=B2 at *
 generalize (B++[PO.lst (nowL c me τ t)]).length=g at *
 have H2:=H.mono p2
 have hgo:g∉own c S:=λz=>by
  have:=H.kpr.led.dlt g (by unfold dom;simp only [List.mem_cons];simp [z])
  omega
 walk_at "go"
 refine⟨λi σ B'=>∃y19 S',σ=[x0,x1,x2,some (.ref q),x4,x5,x6,x7,some (.ref c.G),x9,some (.ref td),x11,x12,x13,x14,x15,some (.int t),some (.ref n),x18,y19]/\Led B' c S'/\Stp c S S' B2 B'/\Tk c S S' me (D.take i),g,D,rfl,⟨_,S,rfl,H2.kpr.led,.refl,.nil⟩,λi σ B' hh=>?_,λi v σ B' hv hh=>?_,λσ B' hh=>?_⟩
 ·obtain⟨_,_,_,_,st,_⟩:=hh
  exact J2 (st.keep _ _ hg hgo)
 ·obtain⟨y19,S',rfl,L1,st,T⟩:=hh
  have tk:D.take (i+1)=D.take i++[v]:=by rw [List.take_succ,hv];rfl
  have hlt:=(List.getElem?_eq_some_iff.mp hv).1
  walk_at "go"
  unfold f_law_b3
  walk_at "go"
  refine w_mono (fit_step L1 T C.N C.L (hfit v (List.mem_of_getElem? hv)) (nodup_take hnd hv) (by have:=H.ms;rw [List.length_take];omega)) λx B3 hh=>?_
  obtain⟨rfl,S'',L2,st2,T2⟩:=hh
  rw [←tk] at T2
  walk_at "gb"
  exact⟨_,S'',rfl,L2,st.trans st2,T2⟩
 ·obtain⟨y19,S',rfl,L1,st,T⟩:=hh
  rw [List.take_length] at T
  exact⟨y19,S',rfl,L1,(Stp.pre p2).trans st,T⟩
end
section
variable{B B' B2:PHp}{c:Cfg}{S S':LS}{q td du kp t:Nat}{me:Int}{τ:Int×Int->Int}
theorem bd5{p:Int×Int}(ht:1<=t):Q3 p∈turnL c me τ t++nowL c me τ t↔p∈c.ps/\tt me τ p=t:=by
 rw [List.mem_append,mem_now]
 unfold tt
 constructor
 ·rintro (h | ⟨h1,h2,h3⟩)
  ·rcases turn_in h with ⟨r,e,hr,h1⟩ | ⟨r,e,_⟩
   ·cases c6 e
    obtain⟨a,b⟩:=mem_ofMe.mp hr
    exact⟨a,by rw [if_pos b,h1];rfl⟩
   ·exact absurd e f9
  ·exact⟨h1,by rw [if_neg h2];exact h3⟩
 ·rintro⟨h1,h2⟩
  by_cases h:p.1=me
  ·rw [if_pos h] at h2
   left
   unfold turnL
   have:t=1:=by omega
   rw [if_pos this]
   exact List.mem_append_left _ (List.mem_map.mpr ⟨p,mem_ofMe.mpr ⟨h1,h⟩,rfl⟩)
  ·rw [if_neg h] at h2
   exact .inr ⟨h1,h,h2⟩
theorem aS2(C:C33 c me τ)(H:I33 B c S q td du kp me τ t)(ht:1<=t)(L:Led B' c S')(st:Stp c S S' B B')(T:Tk c S S' me (turnL c me τ t++nowL c me τ t))(L2:Led B2 c { S' with now:=S'.now+1 })(st2:Stp c S' { S' with now:=S'.now+1 } B' B2):I33 B2 c { S' with now:=S'.now+1 } q td du kp me τ (t+1):=by
 have hst:=st.trans st2
 have k:∀a o,(a=q\/a=td\/a=du\/a=kp)->B[a]?=some o->B2[a]?=some o:=λa o ha h=>hst.keep a o h (H.fo a ha)
 refine⟨⟨L2,k _ _ (by simp) H.kpr.ob,H.kpr.srt⟩,k _ _ (by simp) H.pq,k _ _ (by simp) H.tdx,k _ _ (by simp) H.dux,λa ha=>?_,?_,λp=>?_,λp hp=>?_,?_⟩
 ·refine aL3 hst ?_ (H.fo a ha)
  rcases ha with rfl | rfl | rfl | rfl
  ·exact J1 H.pq
  ·exact J1 H.tdx
  ·exact J1 H.dux
  ·exact J1 H.kpr.ob
 ·show S'.now+1=_
  rw [T.now,H.now];omega
 ·show I9 S' p=_
  have hT:=T.lay p
  rw [bd5 ht,H.la p] at hT
  by_cases h1:p∈c.ps
  ·by_cases h2:tt me τ p<t
   ·rw [if_pos ⟨h1,h2⟩] at hT
    rw [if_pos ⟨h1,by omega⟩]
    exact hT.2 (λz=>by have:=z.2;omega)
   ·rw [if_neg (λz=>h2 z.2)] at hT
    by_cases h3:tt me τ p=t
    ·rw [if_pos ⟨h1,by omega⟩,hT.1 ⟨h1,h3⟩,H.now,h3];rfl
    ·rw [if_neg (λz=>by have:=z.2;omega)]
     exact hT.2 (λz=>h3 z.2)
  ·rw [if_neg (λz=>h1 z.1)] at hT ⊢
   exact hT.2 (λz=>h1 z.1)
 ·exact (T.row p hp).trans (H.row p hp)
 ·show S'.m<=_
  have:=T.m
  have:=H.ms
  have:=am2 (t:=t) C
  have:=aM1 (t:=t) C
  rw [List.length_append] at *
  omega
theorem a44(p:Int×Int)(x:Int):aB0 4 (T7 p [x]):=.tup (by simp) λv hv=>by
 simp at hv
 rcases hv with rfl | rfl | rfl
 ·exact .str
 ·exact .tup (by simp) λv hv=>by
   simp at hv
   rcases hv with rfl | rfl <;> exact .int
 ·exact .tup (by simp) λv hv=>by
   simp at hv
   rcases hv with rfl;exact .int
theorem bu5(C:C33 c me τ)(H:I33 B c S q td du kp me τ t)(ht:1<=t)(ht2:t<=15){x0 x1 x2 x4 x5 x6 x7 x11 x12 x13 x17 x18 x19:Option PV} :
 Wp (f_law_b2 [x0,x1,x2,some (.ref q),x4,x5,x6,x7,some (.ref c.G),some (.ref kp),some (.ref td),x11,x12,x13,some (.int (rdT c me τ)),some (.ref du),some (.int t),x17,x18,x19]) B
  (λo B'=>∃y17 y18 y19 S',o=.nx [x0,x1,x2,some (.ref q),x4,x5,x6,x7,some (.ref c.G),some (.ref kp),some (.ref td),x11,x12,x13,some (.int (rdT c me τ)),some (.ref du),some (.int t),y17,y18,y19]/\I33 B' c S' q td du kp me τ (t+1)) NoX:=by
 unfold f_law_b2
 have hk:=H.kpr.ob
 walk_at "go"
 refine w_mono (deeds_ok H.kpr C.L C.nd λp hp=>H.row p (mem_ofMe.mp hp).2) λv B1 hh=>?_
 obtain⟨n,rfl,hn,p1,hn2⟩:=hh
 have eT:z9 c S me++Z1 c S me=turnL c me τ t:=by rw [bd3 H,bd2 C H];rfl
 rw [eT] at hn2
 have hl:=am2 (t:=t) C
 walk_at "go"
 refine w_mono (law_c7_ok hn2 (by omega) λv hv=>?_) λv B2 hh=>?_
 ·rcases turn_in hv with ⟨p,rfl,_⟩ | ⟨p,rfl,_⟩
  ·exact .inl ⟨p,rfl⟩
  ·exact .inr ⟨p,_,rfl⟩
 obtain⟨rfl,rfl⟩:=hh
 rw [aB8]
 generalize hE:(if (t:Int)=rdT c me τ then o3 c me τ else [])=E
 have hEl:E.length<=72:=by
  rw [←hE,←aB8]
  exact Nat.le_trans (List.length_filter_le _ _) hl
 have hEf:∀v∈E,aB0 4 v:=λv hv=>by
  rw [←hE] at hv
  split at hv
  ·unfold o3 at hv
   split at hv
   ·cases hv
   ·obtain⟨p,_,rfl⟩:=List.mem_map.mp hv
    exact a44 p me
  ·cases hv
 have p2:B1<+:B1++[PO.lst E]:=List.prefix_append _ _
 have hs:(B1++[PO.lst E])[B1.length]?=some (.lst E):=get_app
 generalize B1++[PO.lst E]=B2 at *
 generalize B1.length=s at *
 have H2:=H.mono (p1.trans p2)
 have hn3:=pre_get p2 hn2
 clear hn2
 walk_at "go"
 have p3:B2<+:B2++[PO.lst []]++[PO.lst [PV.ref B2.length,PV.ref du]]:=(List.prefix_append _ _).trans (List.prefix_append _ _)
 obtain⟨e,hix,he⟩:∃e,atI [PV.ref B2.length,PV.ref du] (if decide ((t:Int)=rdT c me τ)=true then 1 else 0)=some (.ref e)/\(B2++[PO.lst []]++[PO.lst [PV.ref B2.length,PV.ref du]])[e]?=some (.lst E):=by
  by_cases h:(t:Int)=rdT c me τ
  ·rw [if_pos h] at hE
   refine⟨du,?_,?_⟩
   ·rw [if_pos (decide_eq_true h)];rfl
   ·rw [←hE];exact pre_get p3 H2.dux
  ·rw [if_neg h] at hE
   refine⟨B2.length,?_,?_⟩
   ·rw [if_neg (λz=>h (of_decide_eq_true z))];rfl
   ·rw [←hE];exact get_app_of get_app
 refine w_ixL get_app hix ?_
 generalize B2++[PO.lst []]++[PO.lst [PV.ref B2.length,PV.ref du]]=B3 at *
 walk_at "go"
 refine w_mono (alike_lists (k:=4) (l:=E) (by omega) hEf (pre_get p3 hs) he) λv B4 hh=>?_
 obtain⟨rfl,p4⟩:=hh
 walk_at "gb"
 have H4:=H2.mono (p3.trans p4)
 refine w_mono (aS1 C H4 ht ht2 (pre_get (p3.trans p4) hn3)) λo B5 hh=>?_
 obtain⟨y19,S',rfl,L5,st5,T5⟩:=hh
 have hG:=L5.ob
 walk_at "gb"
 refine w_mono (move_ok L5) λv B6 hh=>?_
 obtain⟨_,L6,st6⟩:=hh
 exact⟨_,_,_,_,rfl,aS2 C H4 ht L5 st5 T5 L6 st6⟩
end
theorem cell_eq{A:PHp}{a:Nat}{ns:List Int}(h:A[a]?=some (.ro (ns.map .int)))(k:Nat):K0 [.ref a,.int k] A=.ok (.int (ns.getD k 0)) A:=by
 have e:Wp (K0 [.ref a,.int k]) A (λv A'=>v=.int (ns.getD k 0)/\A'=A) NoX:=by
  unfold K0
  walk_at "fn"
  walk_at "gb"
  refine⟨λhb=>?_,λhb=>?_⟩
  ·have hk:k<ns.length:=by simpa using hb
   have hat:atI (ns.map PV.int) (k:Int)=some (.int (ns.getD k 0)):=by
    rw [a16 (by rw [List.length_map];exact hk),List.getElem_map]
    simp [hk]
   walk_at "gb"
   exact⟨rfl,rfl⟩
  ·have hk:¬k<ns.length:=by simpa using hb
   walk_at "gb"
   exact⟨by simp [hk],rfl⟩
 obtain⟨v,A',e,rfl,rfl⟩:=a08 e
 exact e
theorem a45{ps:List (Int×Int)}(nd:ps.Nodup){i:Nat}{p:Int×Int}(h:ps[i]?=some p):ps.idxOf p=i:=by
 obtain⟨hi,rfl⟩:=List.getElem?_eq_some_iff.mp h
 exact nd.idxOf_getElem i hi
def limF(c0 low:Int)(ps:List (Int×Int))(p:Int×Int):Int:=low+mx c0 (60+ps.idxOf p)%3
theorem aS3{A:PHp}{q:Nat}{ps:List (Int×Int)}{c0 low:Int}(nd:ps.Nodup)(hq:A[q]?=some (.lst (pvs ps)))(hl:ps.length<=100){x0 x2 x4 x5:Option PV}{xs:List (Option PV)}:Wp (ak2 (x0::some (.int c0)::x2::some (.ref q)::x4::x5::some (.int low)::xs)) A
 (λv A'=>v=.ref A.length/\A'=A++[.lst (ps.map λp=>.tup [pv p,.int (limF c0 low ps p)])]) NoX:=by
 unfold ak2
 refine aG5 ?_
 walk_at "go"
 refine⟨(List.range ps.length).zipWith (λi p=>PV.tup [.int (i:Nat),pv p]) ps,ps.length,λi acc σ B=>B=A/\(∃x y,σ=[x,y,some (.int low),some (.int c0)])/\acc=(ps.take i).map λp=>PV.tup [pv p,.int (limF c0 low ps p)],?_,by simp,⟨rfl,⟨_,_,rfl⟩,rfl⟩,λi acc σ B hh=>?_,λi v acc σ B hv hh=>?_,λacc σ B hh=>?_⟩
 ·show bnd (D3 q) _ A=_
  rw [bnd_ok (J2 hq)];simp [pvs,ret]
 ·obtain⟨rfl,_,_⟩:=hh
  show bnd (D3 q) _ _=_
  rw [bnd_ok (J2 hq)]
  unfold pvs
  simp only [ret]
  congr 1
  rw [List.getElem?_map,List.getElem?_zipWith]
  by_cases h:i<ps.length
  ·simp [h]
  ·simp [h]
 ·obtain⟨rfl,⟨x,y,rfl⟩,rfl⟩:=hh
  rw [List.getElem?_zipWith] at hv
  have hi:i<ps.length:=by
   by_cases h:i<ps.length
   ·exact h
   ·simp [h] at hv
  obtain⟨p,hp⟩:∃p,ps[i]?=some p:=⟨_,List.getElem?_eq_getElem hi⟩
  have hv':v=.tup [.int (i:Nat),pv p]:=by
   rw [hp] at hv
   simp [hi] at hv
   exact hv.symm
  subst hv'
  have tk:ps.take (i+1)=ps.take i++[p]:=by rw [List.take_succ,hp];rfl
  walk_at "go"
  refine w_eq (mixed_eq _ _ _) ?_
  walk_at "go"
  refine⟨rfl,⟨_,_,rfl⟩,?_⟩
  rw [tk,List.map_append]
  unfold limF
  simp [a45 nd hp]
 ·obtain⟨rfl,_,rfl⟩:=hh
  have e:((List.range ps.length).zipWith (λi p=>PV.tup [.int (i:Nat),pv p]) ps).length=ps.length:=by simp
  rw [e,List.take_length]
  exact⟨lim_le (by rw [List.length_map];omega),rfl,rfl⟩
def ad9(N:Nat)(me:Int):List Int:=(Y0 N).filter λh=>!decide (h=me)
theorem law_c2_ok{A:PHp}{N:Nat}(hN:N<=6){me:Int}{x0 x1 x3:Option PV}{xs:List (Option PV)}:Wp (ak3 (x0::x1::some (.int N)::x3::some (.int me)::xs)) A (λv A'=>v=.ref A.length/\A'=A++[.lst ((ad9 N me).map .int)]) NoX:=by
 unfold ak3
 refine J9 (l:=(Y0 N).map .int) (λσ=>∃x,σ=[x,some (.int me)]) (λv=>match v with | .int t=>!decide (t=me) | _=>false) (λv=>v) ?_
 walk_at "go"
 refine⟨by simp [hands_len],lim_le (by simp [hands_len];omega),⟨_,rfl⟩,λi=>?_,?_,rfl,?_⟩
 ·rw [k7,aR5]
 ·rintro v σ hv ⟨x,rfl⟩
  obtain⟨t,ht,rfl⟩:=List.mem_map.mp hv
  walk_at "go"
  refine⟨rfl,⟨_,rfl⟩,?_⟩
  walk_at "go"
  refine⟨rfl,rfl,λ_=>?_⟩
  walk_at "go"
  exact⟨rfl,rfl⟩
 ·congr 3
  unfold ad9
  rw [List.filter_map,List.map_map];rfl
def tauF(c1 d:Int)(ps:List (Int×Int))(p:Int×Int):Int:=1+mx c1 (ps.idxOf p)%d
section
variable{A:PHp}{c:Cfg}{me:Int}{τ:Int×Int->Int}{q td l7 l13:Nat}
theorem aS4{ns ps':List Int}{ps:List (Int×Int)}{c0 d:Int}(nd:ps.Nodup)(hl:ps.length<64)(hd:0<d)(hat:atI [PV.int 1,PV.int 2,PV.int 4,PV.int 9] (mx c0 3%4)=some (.int d))(h0:A[0]?=some (.ro (ns.map .int)))(hq:A[q]?=some (.lst (pvs ps))){x2 x5 x6 x7 x8 x9 x11 x12:Option PV}{xs:List (Option PV)} :
 Wp (ak4 (some (.ref 0)::some (.int c0)::x2::some (.ref q)::some (.int me)::x5::x6::x7::x8::x9::some (.ref A.length)::x11::x12::xs)) (A++[.dT []])
  (λo A'=>∃y11 y12,o=.nx (some (.ref 0)::some (.int c0)::x2::some (.ref q)::some (.int me)::x5::x6::x7::x8::x9::some (.ref A.length)::y11::y12::xs)/\A<+:A'/\A'[A.length]?=some (.dT (limD (ps.filter λp=>!decide (p.1=me)) (tauF (ns.getD 1 0) d ps)))) NoX:=by
 unfold ak4
 refine bo5 (λi σ B=>∃y11 y12,σ=(some (.ref 0)::some (.int c0)::x2::some (.ref q)::some (.int me)::x5::x6::x7::x8::x9::some (.ref A.length)::y11::y12::xs)/\A<+:B/\B[A.length]?=some (.dT (limD ((ps.take i).filter λp=>!decide (p.1=me)) (tauF (ns.getD 1 0) d ps)))) ?_
 walk_at "go"
 refine⟨q,pvs ps,rfl,⟨_,_,rfl,List.prefix_append _ _,get_app⟩,λi σ B hh=>?_,λi v σ B hv hh=>?_,λσ B hh=>?_⟩
 ·obtain⟨_,_,_,p1,_⟩:=hh
  exact J2 (pre_get p1 hq)
 ·obtain⟨y11,y12,rfl,p1,hT⟩:=hh
  unfold pvs at hv
  rw [List.getElem?_map] at hv
  obtain⟨p,hp,rfl⟩:=Option.map_eq_some_iff.mp hv
  have tk:ps.take (i+1)=ps.take i++[p]:=by rw [List.take_succ,hp];rfl
  have hnin:=nodup_take nd hp
  have h0':=pre_get p1 h0
  have hi0:atI [PV.int p.1,PV.int p.2] 0=some (.int p.1):=rfl
  walk_at "go"
  unfold f_law_b1
  unfold pv
  walk_at "go"
  refine⟨λhb=>?_,λhb=>?_⟩
  ·have hne:p.1≠me:=by simpa using hb
   walk_at "gb"
   refine w_eq (cell_eq h0' 1) ?_
   walk_at "gb"
   refine w_eq (mixed_eq _ _ _) ?_
   walk_at "gb"
   refine w_eq (mixed_eq _ _ _) ?_
   walk_at "gb"
   have hno:p∉(ps.take i).filter λp=>!decide (p.1=me):=λz=>hnin (List.mem_filter.mp z).1
   have hpt:W8 (limD ((ps.take i).filter λp=>!decide (p.1=me)) (tauF (ns.getD 1 0) d ps)) [p.1,p.2] (.int (1+mx (ns.getD 1 0) (i:Int)%d))=limD ((ps.take (i+1)).filter λp=>!decide (p.1=me)) (tauF (ns.getD 1 0) d ps):=by
    have:=aA9 (f:=tauF (ns.getD 1 0) d ps) hno
    unfold tauF at this
    rw [a45 nd hp] at this
    refine this.trans ?_
    rw [tk,List.filter_append]
    simp [hne];rfl
   rw [hpt]
   refine⟨Z2 ?_,_,_,rfl,W4 (p1.trans (List.prefix_append _ _)) (Nat.le_refl _),get_set (get_app_of hT)⟩
   unfold limD
   rw [List.length_map]
   have:=List.length_filter_le (λp:Int×Int=>!decide (p.1=me)) (ps.take i)
   rw [List.length_take] at this
   omega
  ·have hne:p.1=me:=by simpa using hb
   walk_at "gb"
   refine⟨_,_,rfl,p1,?_⟩
   rw [tk,List.filter_append,hT]
   simp [hne]
 ·obtain⟨y11,y12,rfl,p1,hT⟩:=hh
  unfold pvs at hT
  rw [List.length_map,List.take_length] at hT
  exact⟨_,_,rfl,p1,hT⟩
theorem law_c3_ok(hq:A[q]?=some (.lst (pvs c.ps)))(hl:c.ps.length<64){x0 x1 x2:Option PV}{xs:List (Option PV)}:Wp (ak5 (x0::x1::x2::some (.ref q)::some (.int me)::xs)) A (λv A'=>v=.ref A.length/\A'=A++[.lst (pvs (toMe c me))]) NoX:=by
 unfold ak5
 refine J9 (l:=pvs c.ps) (λσ=>∃x,σ=[x,some (.int me)]) (λv=>decide (b8 v=me)) (λv=>v) ?_
 walk_at "go"
 refine⟨_,N5 hq,Nat.le_refl _,lim_le (by unfold pvs;rw [List.length_map];omega),⟨_,rfl⟩,λi=>N6 hq i,?_,rfl,?_⟩
 ·rintro v σ hv ⟨x,rfl⟩
  obtain⟨p,hp,rfl⟩:=S7 hv
  have hi0:atI [PV.int p.1,PV.int p.2] 1=some (.int p.2):=rfl
  unfold pv
  walk_at "go"
  refine⟨rfl,⟨_,rfl⟩,?_⟩
  walk_at "go"
  refine⟨rfl,rfl,λ_=>?_⟩
  walk_at "go"
  exact⟨rfl,rfl⟩
 ·congr 3
  unfold pvs toMe
  rw [List.map_id',List.filter_map];rfl
theorem law_c4_ok(h13:A[l13]?=some (.lst (pvs (toMe c me))))(hl:c.ps.length<64)(hnd:c.ps.Nodup)(hto:∀p∈toMe c me,p.1≠me)(ht:A[td]?=some (.dT (limD (Y1 c me) τ))){x0 x1 x2 x3 x4 x5 x6 x7 x8 x9 x11 x12:Option PV}{xs:List (Option PV)}:Wp (ak6 (x0::x1::x2::x3::x4::x5::x6::x7::x8::x9::some (.ref td)::x11::x12::some (.ref l13)::xs)) A (λv A'=>v=.ref A.length/\A'=A++[.lst (((toMe c me).map τ).map .int)]) NoX:=by
 unfold ak6
 have hl2:(toMe c me).length<64:=Nat.lt_of_le_of_lt (List.length_filter_le _ _) hl
 refine J9 (l:=pvs (toMe c me)) (λσ=>∃x,σ=[x,some (.ref td)]) (λ_=>true) (λv=>.int (τ (Z7 v,b8 v))) ?_
 walk_at "go"
 refine⟨_,N5 h13,Nat.le_refl _,lim_le (by unfold pvs;rw [List.length_map];omega),⟨_,rfl⟩,λi=>N6 h13 i,?_,rfl,?_⟩
 ·rintro v σ hv ⟨x,rfl⟩
  obtain⟨p,hp,rfl⟩:=S7 hv
  have hv:J8 (limD (Y1 c me) τ) [p.1,p.2]=some (.int (τ p)):=ae8 (hnd.filter _) (mem_others.mpr ⟨(mem_toMe.mp hp).1,hto p hp⟩)
  walk_at "go"
  refine⟨rfl,⟨_,rfl⟩,?_⟩
  walk_at "go"
  refine⟨rfl,rfl,λ_=>?_⟩
  walk_at "go"
  exact⟨rfl,rfl⟩
 ·congr 3
  rw [List.filter_eq_self.mpr (by simp)]
  unfold pvs
  rw [List.map_map,List.map_map];rfl
theorem aS5(h13:A[l13]?=some (.lst (pvs (toMe c me))))(hl:c.ps.length<64){x0 x1 x2 x3 x5 x6 x7 x8 x9 x10 x11 x12:Option PV}{xs:List (Option PV)}:Wp (ak7 (x0::x1::x2::x3::some (.int me)::x5::x6::x7::x8::x9::x10::x11::x12::some (.ref l13)::xs)) A (λv A'=>v=.ref A.length/\A'=A++[.lst ((toMe c me).map (T7 · [me]))]) NoX:=by
 unfold ak7
 have hl2:(toMe c me).length<64:=Nat.lt_of_le_of_lt (List.length_filter_le _ _) hl
 refine J9 (l:=pvs (toMe c me)) (λσ=>∃x,σ=[x,some (.int me)]) (λ_=>true) (λv=>T7 (Z7 v,b8 v) [me]) ?_
 walk_at "go"
 refine⟨_,N5 h13,Nat.le_refl _,lim_le (by unfold pvs;rw [List.length_map];omega),⟨_,rfl⟩,λi=>N6 h13 i,?_,rfl,?_⟩
 ·rintro v σ hv ⟨x,rfl⟩
  obtain⟨p,hp,rfl⟩:=S7 hv
  walk_at "go"
  refine⟨rfl,⟨_,rfl⟩,?_⟩
  walk_at "go"
  refine⟨rfl,rfl,λ_=>?_⟩
  walk_at "go"
  exact⟨rfl,rfl⟩
 ·congr 3
  rw [List.filter_eq_self.mpr (by simp)]
  unfold pvs
  rw [List.map_map];rfl
theorem law_c6_ok{m:DT}{rd:Int}(h13:A[l13]?=some (.lst (pvs (toMe c me))))(hl:c.ps.length<64)(h7:A[l7]?=some (.dT m))(hm:∀p∈c.ps,J8 m (l2 p)=some (.int (c.f p))){x0 x1 x2 x3 x4 x5 x6 x8 x9 x10 x11 x12:Option PV}{xs:List (Option PV)}:Wp (ak8 (x0::x1::x2::x3::x4::x5::x6::some (.ref l7)::x8::x9::x10::x11::x12::some (.ref l13)::some (.int rd)::xs)) A (λv A'=>v=.ref A.length/\A'=A++[.lst (((toMe c me).map λp=>decide (c.f p+1<rd)).map .bl)]) NoX:=by
 unfold ak8
 have hl2:(toMe c me).length<64:=Nat.lt_of_le_of_lt (List.length_filter_le _ _) hl
 refine J9 (l:=pvs (toMe c me)) (λσ=>∃x,σ=[x,some (.int rd),some (.ref l7)]) (λ_=>true) (λv=>.bl (decide (c.f (Z7 v,b8 v)+1<rd))) ?_
 walk_at "go"
 refine⟨_,N5 h13,Nat.le_refl _,lim_le (by unfold pvs;rw [List.length_map];omega),⟨_,rfl⟩,λi=>N6 h13 i,?_,rfl,?_⟩
 ·rintro v σ hv ⟨x,rfl⟩
  obtain⟨p,hp,rfl⟩:=S7 hv
  have hv:J8 m [p.1,p.2]=some (.int (c.f p)):=hm p (mem_toMe.mp hp).1
  walk_at "go"
  refine⟨rfl,⟨_,rfl⟩,?_⟩
  walk_at "go"
  refine⟨rfl,rfl,λ_=>?_⟩
  walk_at "go"
  exact⟨rfl,rfl⟩
 ·congr 3
  rw [List.filter_eq_self.mpr (by simp)]
  unfold pvs
  rw [List.map_map,List.map_map];rfl
end
theorem a46{N:Nat}{L0:List Int}{me:Int}(hme:0<=me/\me<N)(h:∀h∈L0,0<=h/\h<(N:Int)):l6 N (setL (L0++[me]))=true/\me∈setL (L0++[me])/\(setL (L0++[me])).Nodup/\(setL (L0++[me])).length<=N:=by
 have hr:=aR6 (L0++[me])
 have hin:∀x∈setL (L0++[me]),0<=x/\x<(N:Int):=λx hx=>by
  rcases List.mem_append.mp (mem_setL.mp hx) with z | z
  ·exact h x z
  ·rw [List.mem_singleton.mp z];exact hme
 have hm:me∈setL (L0++[me]):=mem_setL.mpr (by simp)
 have hnd:(setL (L0++[me])).Nodup:=hr.imp λh z=>by omega
 refine⟨lead_iff.mpr ⟨av8 hr ((z5 N).filter _) λx=>?_,λz=>?_⟩,hm,hnd,?_⟩
 ·rw [List.mem_filter,mem_hands]
  exact⟨λhx=>⟨hin x hx,decide_eq_true hx⟩,λhx=>of_decide_eq_true hx.2⟩
 ·rw [z] at hm;cases hm
 ·have:=hnd.length_le_of_subset (l₂:=Y0 N) λy hy=>mem_hands.mpr (hin y hy)
  rwa [hands_len] at this
theorem law_pure:∀ns:List Int,∃A',aL1 [.ref 0] [.ro (ns.map .int)]=.ok (.bl true) A':=by
 intro ns
 have h:Wp (aL1 [.ref 0]) [.ro (ns.map .int)] (λv _=>v=.bl true) NoX:=by
  generalize hA0:[PO.ro (ns.map PV.int)]=A0
  have hA:A0[0]?=some (.ro (ns.map .int)):=by rw [←hA0];rfl
  clear hA0
  unfold aL1
  walk_at "fn"
  walk_at "gb"
  refine w_eq (cell_eq hA 0) ?_
  generalize ns.getD 0 0=c0
  walk_at "gb"
  refine w_eq (mixed_eq _ _ _) ?_
  have m0:=a31 c0 0
  obtain⟨N,hN,hN2⟩:∃N:Nat,2+mx c0 0%4=N/\2<=N/\N<=5:=⟨(2+mx c0 0%4).toNat,by omega,by omega,by omega⟩
  walk_at "gb"
  rw [hN]
  refine w_mono (aB6 hN2.1 (by omega)) λv A1 hh=>?_
  obtain⟨p1,ps,q,rfl,hq,P,hsrt,hlen,hgiv,_⟩:=hh
  have hA1:=pre_get p1 hA
  clear p1 hA
  walk_at "gb"
  refine w_eq (mixed_eq _ _ _) ?_
  walk_at "gb"
  have hme:0<=mx c0 2%(N:Int)/\mx c0 2%(N:Int)<N:=⟨Int.emod_nonneg _ (by omega),Int.emod_lt_of_pos _ (by omega)⟩
  generalize mx c0 2%(N:Int)=me at hme ⊢
  refine aG8 (w_bin ?_)
  walk_at "gb"
  refine w_eq (mixed_eq _ _ _) ?_
  walk_at "gb"
  refine w_mono (some_ok (by omega)) λv A2 hh=>?_
  obtain⟨rfl,L0,rfl,hL0,hL0in⟩:=hh
  walk_at "gb"
  refine w_addL (get_app_of get_app) get_app (lim_le (by simp;omega)) ?_
  have eL:L0.map PV.int++[PV.int me]=(L0++[me]).map .int:=by rw [List.map_append];rfl
  rw [eL]
  refine⟨_,_,rfl,get_app,λx hx=>?_,?_⟩
  ·rcases List.mem_append.mp hx with z | z
   ·have:=hL0in x z;omega
   ·rw [List.mem_singleton.mp z];omega
  obtain⟨hlead,hmL,hLnd,hLlen⟩:=a46 hme hL0in
  generalize setL (L0++[me])=L at *
  have q4:A1<+:A1++[PO.lst (L0.map .int)]++[PO.lst [PV.int me]]++[PO.lst ((L0++[me]).map .int)]++[PO.lst (L.map .int)]:=(List.prefix_append _ _).trans ((List.prefix_append _ _).trans ((List.prefix_append _ _).trans (List.prefix_append _ _)))
  have hl4:(A1++[PO.lst (L0.map .int)]++[PO.lst [PV.int me]]++[PO.lst ((L0++[me]).map .int)]++[PO.lst (L.map .int)])[(A1++[PO.lst (L0.map .int)]++[PO.lst [PV.int me]]++[PO.lst ((L0++[me]).map .int)]).length]?=some (.lst (L.map .int)):=get_app
  generalize A1++[PO.lst (L0.map .int)]++[PO.lst [PV.int me]]++[PO.lst ((L0++[me]).map .int)]++[PO.lst (L.map .int)]=A4 at *
  generalize (A1++[PO.lst (L0.map .int)]++[PO.lst [PV.int me]]++[PO.lst ((L0++[me]).map .int)]).length=l at *
  have hq4:=pre_get q4 hq
  have hA4:=pre_get q4 hA1
  clear q4 hA1 hq eL hL0in hL0
  have m4:=a31 c0 4
  obtain⟨low,hlow,hlow0⟩:∃low:Int,atI [PV.int 0,PV.int 2,PV.int 3,PV.int 5] (mx c0 4%4)=some (.int low)/\0<=low:=by
   have:mx c0 4%4=0\/mx c0 4%4=1\/mx c0 4%4=2\/mx c0 4%4=3:=by omega
   rcases this with z | z | z | z <;> rw [z]
   ·exact⟨0,rfl,by omega⟩
   ·exact⟨2,rfl,by omega⟩
   ·exact⟨3,rfl,by omega⟩
   ·exact⟨5,rfl,by omega⟩
  walk_at "gb"
  refine w_eq (mixed_eq _ _ _) ?_
  walk_at "gb"
  have q5:A4<+:A4++[PO.lst [PV.int 0,PV.int 2,PV.int 3,PV.int 5]]:=List.prefix_append _ _
  generalize A4++[PO.lst [PV.int 0,PV.int 2,PV.int 3,PV.int 5]]=A5 at *
  have hq5:=pre_get q5 hq4
  have hA5:=pre_get q5 hA4
  have hl5:=pre_get q5 hl4
  clear q5 hq4 hA4 hl4
  refine w_mono (aS3 P.nd hq5 (by omega)) λv A6 hh=>?_
  obtain⟨rfl,rfl⟩:=hh
  refine⟨_,_,_,rfl,get_app,aL9 (λp=>.int (limF c0 low ps p)) _,Z2 (by rw [List.length_map];omega),?_⟩
  rw [a33 P.nd]
  have q6:A5<+:A5++[PO.lst (ps.map λp=>PV.tup [pv p,.int (limF c0 low ps p)])]++[PO.dT (ps.map λp=>(l2 p,PV.int (limF c0 low ps p)))]:=(List.prefix_append _ _).trans (List.prefix_append _ _)
  have hd6:(A5++[PO.lst (ps.map λp=>PV.tup [pv p,.int (limF c0 low ps p)])]++[PO.dT (ps.map λp=>(l2 p,PV.int (limF c0 low ps p)))])[(A5++[PO.lst (ps.map λp=>PV.tup [pv p,.int (limF c0 low ps p)])]).length]?=some (.dT (ps.map λp=>(l2 p,PV.int (limF c0 low ps p)))):=get_app
  have hm:∀p∈ps,J8 (ps.map λp=>(l2 p,PV.int (limF c0 low ps p))) (l2 p)=some (.int (limF c0 low ps p)):=λp hp=>ae8 (f:=limF c0 low ps) P.nd hp
  have hf0:∀p,0<=limF c0 low ps p:=λp=>by unfold limF;have:=Int.emod_nonneg (mx c0 (60+ps.idxOf p)) (by decide:(3:Int)≠0);omega
  generalize A5++[PO.lst (ps.map λp=>PV.tup [pv p,.int (limF c0 low ps p)])]++[PO.dT (ps.map λp=>(l2 p,PV.int (limF c0 low ps p)))]=A6 at *
  generalize (A5++[PO.lst (ps.map λp=>PV.tup [pv p,.int (limF c0 low ps p)])]).length=d at *
  generalize hmm:(ps.map λp=>(l2 p,PV.int (limF c0 low ps p)))=m at *
  clear hmm
  generalize limF c0 low ps=fl at *
  have hq6:=pre_get q6 hq5
  have hA6:=pre_get q6 hA5
  have hl6:=pre_get q6 hl5
  clear q6 hq5 hA5 hl5
  walk_at "gb"
  obtain⟨A7,r,e7,p7,W7,hr7⟩:=a15 P (A:=A6) (q:=q) hq6
  refine w_eq e7 ?_
  walk_at "gb"
  refine w_mono (plan_init W7 (pre_get p7 hl6) (by omega) (pre_get p7 hd6) P hlead λp hp=>⟨_,hf0 p,hm p hp⟩) λv A8 hh=>?_
  obtain⟨_,p8,ll,dl,dk,HP,_⟩:=hh
  have q8:A6<+:A8:=p7.trans p8
  have hq8:=pre_get q8 hq6
  have hA8:=pre_get q8 hA6
  have hd8:=pre_get q8 hd6
  generalize A6.length=w at HP ⊢
  generalize A7.length=Pn at HP ⊢
  clear q8 p8 p7 W7 e7 hr7 hl6 hA6 hq6 hd6
  walk_at "gb"
  refine w_mono (law_c2_ok (by omega)) λv A9 hh=>?_
  obtain⟨rfl,rfl⟩:=hh
  have hlf:∀p∈ps,limOf m p=fl p:=λp hp=>by unfold limOf;rw [hm p hp]
  have p9:A8<+:A8++[PO.lst ((ad9 N me).map .int)]:=List.prefix_append _ _
  have hfl:(A8++[PO.lst ((ad9 N me).map .int)])[A8.length]?=some (.lst ((ad9 N me).map .int)):=get_app
  have hfrl:(ad9 N me).length<=6:=Nat.le_trans (List.length_filter_le _ _) (by rw [hands_len];omega)
  generalize A8++[PO.lst ((ad9 N me).map .int)]=A9 at *
  generalize A8.length=fa at *
  have hq9:=pre_get p9 hq8
  have hA9:=pre_get p9 hA8
  have hd9:=pre_get p9 hd8
  walk_at "gb"
  refine w_mono (led_make (HP.mono p9) P hfl (by omega)) λv A10 hh=>?_
  obtain⟨_,p10,HL⟩:=hh
  have hqG:q<A9.length:=J1 hq9
  have hq10:=pre_get p10 hq9
  have hA10:=pre_get p10 hA9
  have hd10:=pre_get p10 hd9
  generalize A9.length=G at *
  generalize hcf:(⟨N,ps,L,limOf m,ad9 N me,Pn,w,r,ll,dl,dk,G⟩:Cfg)=c at HL
  have cG:c.G=G:=by rw [←hcf]
  have cps:c.ps=ps:=by rw [←hcf]
  have cN:c.N=N:=by rw [←hcf]
  have cL:c.L=L:=by rw [←hcf]
  have cf:c.f=limOf m:=by rw [←hcf]
  clear hcf hfl HP p9 hq8 hA8 hd8 p10 hq9 hA9 hd9 hfrl
  subst cG cL cN cps
  have hmc:∀p∈c.ps,J8 m (l2 p)=some (.int (c.f p)):=λp hp=>by rw [cf,hlf p hp];exact hm p hp
  walk_at "gb"
  unfold f_Keeper_init
  walk_at "fn"
  walk_at "gb"
  have p11:A10<+:(A10++[PO.ins 5 []]).set A10.length (PO.ins 5 (putFld 17 (PV.int me) [])):=W4 (List.prefix_append _ _) (Nat.le_refl _)
  have hk11:((A10++[PO.ins 5 []]).set A10.length (PO.ins 5 (putFld 17 (PV.int me) [])))[A10.length]?=some (.ins 5 [(17,.int me)]):=get_set get_app
  have hG10:c.G+4<A10.length:=J1 HL.ul
  generalize (A10++[PO.ins 5 []]).set A10.length (PO.ins 5 (putFld 17 (PV.int me) []))=A11 at *
  have hq11:=pre_get p11 hq10
  have hA11:=pre_get p11 hA10
  have hd11:=pre_get p11 hd10
  have HL11:=HL.mono p11
  have hkl:A10.length<A11.length:=J1 hk11
  generalize A10.length=kp at *
  clear p11 HL hq10 hA10 hd10
  have m3:=a31 c0 3
  obtain⟨dd,hdd,hdd0⟩:∃d:Int,atI [PV.int 1,PV.int 2,PV.int 4,PV.int 9] (mx c0 3%4)=some (.int d)/\0<d:=by
   have:mx c0 3%4=0\/mx c0 3%4=1\/mx c0 3%4=2\/mx c0 3%4=3:=by omega
   rcases this with z | z | z | z <;> rw [z]
   ·exact⟨1,rfl,by omega⟩
   ·exact⟨2,rfl,by omega⟩
   ·exact⟨4,rfl,by omega⟩
   ·exact⟨9,rfl,by omega⟩
  refine w_mono (aS4 (ns:=ns) (ps':=[]) P.nd (by omega) hdd0 hdd hA11 hq11) λo A12 hh=>?_
  obtain⟨y11,y12,rfl,p12,ht12⟩:=hh
  have hτ:∀p,1<=tauF (ns.getD 1 0) dd c.ps p:=λp=>by unfold tauF;have:=Int.emod_nonneg (mx (ns.getD 1 0) (c.ps.idxOf p)) (by omega:dd≠0);omega
  generalize tauF (ns.getD 1 0) dd c.ps=τ at *
  have ht12:A12[A11.length]?=some (.dT (limD (Y1 c me) τ)):=ht12
  have hq12:=pre_get p12 hq11
  have hA12:=pre_get p12 hA11
  have hd12:=pre_get p12 hd11
  have hk12:=pre_get p12 hk11
  have HL12:=HL11.mono p12
  have htdl:A11.length<A12.length:=J1 ht12
  generalize A11.length=td at *
  clear p12 hq11 hA11 hd11 hk11 HL11
  walk_at "gb"
  refine w_mono (law_c3_ok hq12 (by omega)) λv A13 hh=>?_
  obtain⟨rfl,rfl⟩:=hh
  have p13:A12<+:A12++[PO.lst (pvs (toMe c me))]:=List.prefix_append _ _
  have h13:(A12++[PO.lst (pvs (toMe c me))])[A12.length]?=some (.lst (pvs (toMe c me))):=get_app
  have hto:∀p∈toMe c me,p.1≠me:=λp hp=>a43 HL12 hp
  have hne:toMe c me≠[]:=λz=>by
   obtain⟨g,hg⟩:=hgiv me hme
   have:(g,me)∈toMe c me:=mem_toMe.mpr ⟨hg,rfl⟩
   rw [z] at this;cases this
  generalize A12++[PO.lst (pvs (toMe c me))]=A13 at *
  generalize A12.length=l13 at *
  walk_at "gb"
  refine w_mono (law_c4_ok h13 (by omega) P.nd hto (pre_get p13 ht12)) λv A14 hh=>?_
  obtain⟨rfl,rfl⟩:=hh
  obtain⟨i0,r0,hir⟩:∃i r,(toMe c me).map τ=i::r:=by
   cases hh:(toMe c me).map τ with
   | nil=>exact absurd (List.map_eq_nil_iff.mp hh) hne
   | cons i r=>exact⟨i,r,rfl⟩
  have ert:1+V2 i0 r0=rdT c me τ:=by unfold rdT;rw [hir];rfl
  rw [hir]
  refine⟨_,_,_,rfl,get_app,?_⟩
  walk_at "gb"
  rw [ert]
  have p14:A13<+:A13++[PO.lst ((i0::r0).map .int)]:=List.prefix_append _ _
  generalize A13++[PO.lst ((i0::r0).map .int)]=A14 at *
  refine w_mono (aS5 (pre_get p14 h13) (by omega)) λv A15 hh=>?_
  obtain⟨rfl,rfl⟩:=hh
  have p15:A14<+:A14++[PO.lst ((toMe c me).map (T7 · [me]))]:=List.prefix_append _ _
  have hs15:(A14++[PO.lst ((toMe c me).map (T7 · [me]))])[A14.length]?=some (.lst ((toMe c me).map (T7 · [me]))):=get_app
  have hl14:td<A14.length:=J1 (pre_get (p13.trans p14) ht12)
  generalize A14++[PO.lst ((toMe c me).map (T7 · [me]))]=A15 at *
  generalize A14.length=s15 at *
  walk_at "gb"
  refine w_mono (law_c6_ok (pre_get (p14.trans p15) h13) (by omega) (pre_get (p13.trans (p14.trans p15)) hd12) hmc) λv A16 hh=>?_
  obtain⟨rfl,rfl⟩:=hh
  have p16:A12<+:A15++[PO.lst (((toMe c me).map λp=>decide (c.f p+1<rdT c me τ)).map .bl)]:=p13.trans (p14.trans (p15.trans (List.prefix_append _ _)))
  have hs16:(A15++[PO.lst (((toMe c me).map λp=>decide (c.f p+1<rdT c me τ)).map .bl)])[s15]?=some (.lst ((toMe c me).map (T7 · [me]))):=get_app_of hs15
  refine⟨_,_,rfl,get_app,?_⟩
  generalize A15++[PO.lst (((toMe c me).map λp=>decide (c.f p+1<rdT c me τ)).map .bl)]=A16 at *
  have ea:(((toMe c me).map λp=>decide (c.f p+1<rdT c me τ)).any id)=(toMe c me).any λp=>decide (c.f p+1<rdT c me τ):=by rw [List.any_map];rfl
  rw [ea]
  have C:C33 c me τ:=⟨hme,hmL,hLnd,hne,hlen,hτ⟩
  have key:∀(A17:PHp) (du:Nat),A12<+:A17->A17[du]?=some (.lst (o3 c me τ))->td<du->
   Wp (al2 [some (.ref 0),some (.int c0),some (.int c.N),some (.ref q),some (.int me),some (.ref l),some (.int low),some (.ref d),some (.ref c.G),some (.ref kp),some (.ref td),y11,y12,some (.ref l13),some (.int (rdT c me τ)),some (.ref du),none,none,none,none]) A17 (λo A1=>∃σ',o=.nx σ') NoX:=by
   intro A17 du p17 hdu hdl
   have hA17:=pre_get p17 hA12
   have H17:I33 A17 c ⟨1,[],[],[],0⟩ q td du kp me τ 1:=by
    refine⟨⟨HL12.mono p17,pre_get p17 hk12,hsrt⟩,pre_get p17 hq12,pre_get p17 ht12,hdu,λa ha=>?_,rfl,λp=>?_,λp _=>rfl,by simp⟩
    ·intro z
     unfold own sadr at z
     simp only [List.mem_cons,List.map_nil,List.not_mem_nil,or_false] at z
     rcases ha with rfl | rfl | rfl | rfl <;> omega
    ·have h1:1<=tt me τ p:=by unfold tt;split;exact Int.le_refl _;exact hτ p
     rw [if_neg (λz=>by have:=z.2;omega)];rfl
   unfold al2
   refine aG4 (λi σ B=>∃y16 y17 y18 y19 S,σ=[some (.ref 0),some (.int c0),some (.int c.N),some (.ref q),some (.int me),some (.ref l),some (.int low),some (.ref d),some (.ref c.G),some (.ref kp),some (.ref td),y11,y12,some (.ref l13),some (.int (rdT c me τ)),some (.ref du),y16,y17,y18,y19]/\I33 B c S q td du kp me τ (1+i)) ?_
   walk_at "gb"
   refine w_eq (cell_eq hA17 2) ?_
   walk_at "gb"
   obtain⟨b,hb,hb2⟩:∃b:Nat,1+2+ns.getD 2 0%9=b/\b<=11:=⟨(1+2+ns.getD 2 0%9).toNat,by omega,by omega⟩
   rw [hb]
   refine⟨1,b,rfl,rfl,⟨by decide,by omega⟩,1,b - 1,rfl,⟨_,_,_,_,_,rfl,H17⟩,λi σ B hi hh=>?_,λσ B hh=>?_⟩
   ·obtain⟨y16,y17,y18,y19,S,rfl,HB⟩:=hh
    walk_at "go"
    have e1:(1:Int)+(i:Int)=((1+i:Nat):Int):=by omega
    rw [e1]
    refine w_mono (bu5 C HB (by omega) (by omega)) λo B1 hh=>?_
    obtain⟨z17,z18,z19,S',rfl,HB'⟩:=hh
    exact⟨_,_,_,_,_,rfl,HB'⟩
   ·obtain⟨y16,y17,y18,y19,S,rfl,HB⟩:=hh
    exact⟨_,rfl⟩
  refine⟨_,rfl,λhb=>?_,λhb=>?_⟩
  ·walk_at "gb"
   refine w_mono (key _ _ (p16.trans (List.prefix_append _ _)) ?_ ?_) λo A17 hh=>?_
   ·rw [get_app];unfold o3;rw [if_pos hb]
   ·have:=J1 hs16;omega
   ·obtain⟨σ',rfl⟩:=hh
    walk_at "gb"
  ·walk_at "gb"
   refine w_mono (key _ _ p16 ?_ hl14) λo A17 hh=>?_
   ·rw [hs16];unfold o3;rw [if_neg (by rw [hb];simp)]
   ·obtain⟨σ',rfl⟩:=hh
    walk_at "gb"
 obtain⟨v,A',e,hv⟩:=a08 h
 exact⟨A',by rw [e,hv]⟩
end Ws
namespace Ws
open PySem L2
structure aH0(mg:Str->Option Value):Prop where
 g_FEWEST_HANDS:∃t,mg "FEWEST_HANDS" = some (.int 2 t)
 g_MOST_HANDS:∃t,mg "MOST_HANDS" = some (.int 6 t)
 g_LAY:∃t,mg "LAY" = some (.str "lay" t)
 g_SAY:∃t,mg "SAY" = some (.str "say" t)
section
set_option maxHeartbeats 4000000
variable{P:Program}{w:World}{K:PySem.W.Frag}{mg:Str->Option Value}{base:Heap}{cm:Nat->Addr}
def top(i:Nat):Stmt:=PySem.Challenge.pw_wordswap_k33_own_word.main.body.getD i (.Pass ⟨0,0,0,0⟩)
theorem aB9:C7 ["value"] ["value"] (C0 (top 13)):=by walk_at "sc"
theorem ok_is_whole{fa:Addr}{fd:FuncData}(B:K4 K mg cm)(F:L2.Fun K "is_whole" "is_whole" (top 13) fa fd):FnOk P w K mg base CX0 (1) fa fd ["value"] (SpF K cm N0 1):=
 D5 F aB9 λ_ _ _ _ _ _ hr hu hu1=>by
  exact (C3 (D4 (X3 (X4 (t:=.int) B.kit (r_v 0) rfl B.b_isinstance rfl B.b_int PyProof.Rows.boot_int) (U3 (bf3 (X4 (t:=.bool) B.kit (r_v 0) rfl B.b_isinstance rfl B.b_bool PyProof.Rows.boot_bool))))))
theorem aH1:C7 ["number","value"] ["number","value"] (C0 (top 14)):=by walk_at "sc"
theorem ok_is_hand{fa:Addr}{fd:FuncData}(B:K4 K mg cm)(D_is_whole:Def P w K mg base cm "is_whole" 1 ["value"] N0 1)(F:L2.Fun K "is_hand" "is_hand" (top 14) fa fd):FnOk P w K mg base CX0 (2) fa fd ["number","value"] (SpF K cm K8 2):=
 D5 F aH1 λ_ _ _ _ _ _ hr hu hu1=>by
  exact (C3 (D4 (X3 (r_callD D_is_whole (by decide) hr rfl (r_cons (r_v 1) r_nil)) (U3 (aI4 aT8 aW8 ac6 ad4 r_int (r_v 1) (r_v 0))))))
theorem i4:C7 ["value"] ["value"] (C0 (top 15)):=by walk_at "sc"
theorem ok_is_number_of_hands{fa:Addr}{fd:FuncData}(B:K4 K mg cm)(GL:aH0 mg)(D_is_whole:Def P w K mg base cm "is_whole" 1 ["value"] N0 1)(F:L2.Fun K "is_number_of_hands" "is_number_of_hands" (top 15) fa fd):FnOk P w K mg base CX0 (2) fa fd ["value"] (SpF K cm H9 1):=
 D5 F i4 λ_ _ _ _ _ _ hr hu hu1=>by
  exact (C3 (D4 (X3 (r_callD D_is_whole (by decide) hr rfl (r_cons (r_v 0) r_nil)) (U3 (aI4 aT8 aW8 aT8 aW8 (aX4 rfl GL.g_FEWEST_HANDS) (r_v 0) (aX4 rfl GL.g_MOST_HANDS))))))
theorem an9:C7 ["number","value"] ["number","value"] (C0 (top 16)):=by walk_at "sc"
theorem ok_is_passing{fa:Addr}{fd:FuncData}(B:K4 K mg cm)(D_is_hand:Def P w K mg base cm "is_hand" 2 ["number","value"] K8 2)(F:L2.Fun K "is_passing" "is_passing" (top 16) fa fd):FnOk P w K mg base CX0 (3) fa fd ["number","value"] (SpF K cm M7 2):=
 D5 F an9 λ_ _ _ _ _ _ hr hu hu1=>by
  exact (C2 (O6 (PW.pt (b0 (P9 (K6 (X4 (t:=.tuple) B.kit (r_v 1) rfl B.b_isinstance rfl B.b_tuple PyProof.Rows.boot_tuple))) (V7 (E9 (S5 hu) Y8 (r_len (r_v 1) rfl B.b_len) r_int (D6 _)))))
 (C3 (D4 ab2))
 G2)
 (C3 (D4 (X3 (r_callD D_is_hand (by decide) hr rfl (r_cons (r_v 0) (r_cons (r_ix (r_v 1) r_int (λ_ _=>rfl)) r_nil))) (X3 (r_callD D_is_hand (by decide) hr rfl (r_cons (r_v 0) (r_cons (r_ix (r_v 1) r_int (λ_ _=>rfl)) r_nil))) (U3 (V4 (S5 hu) Y8 (r_ix (r_v 1) r_int (λ_ _=>rfl)) (r_ix (r_v 1) r_int (λ_ _=>rfl)) (D6 _))))))))
theorem sc_first_wrong_passing:C7 ["number","passings","at","passing"] ["number","passings"] (C0 (top 17)):=by walk_at "sc"
theorem ok_first_wrong_passing{fa:Addr}{fd:FuncData}(B:K4 K mg cm)(D_is_passing:Def P w K mg base cm "is_passing" 3 ["number","value"] M7 2)(F:L2.Fun K "first_wrong_passing" "first_wrong_passing" (top 17) fa fd):FnOk P w K mg base CX0 (4) fa fd ["number","passings"] (SpF K cm G8 2):=
 D5 F sc_first_wrong_passing λ_ _ _ _ _ _ hr hu hu1=>by
  exact (C2 (o4 PassesOwn.never rfl (aX3 rfl B.b_enumerate (r_v 1)) (ad5 rfl (g_cons (g_name (pg_name (i:=2) sc_first_wrong_passing.nd rfl (.inl rfl))) (g_cons (g_name (pg_name (i:=3) sc_first_wrong_passing.nd rfl (.inl rfl))) g_nil)))
 (C3 (O6 (PW.pt (b0 (P9 (K6 (r_callD D_is_passing (by decide) hr rfl (r_cons (r_v 0) (r_cons (r_v 3) r_nil))))) (V7 (E9 (s9 hu) ai0 (r_v 3) (ay3 (r_v 1) r_lno (ay2 (r_v 2))) (by rfl)))))
 (C3 (D4 (r_v 2)))
 G2)))
 (C3 (D4 aW7)))
theorem am3:C7 ["self","plan","free"] ["self","plan","free"] (C0 (B9 (top 27) 0)):=by walk_at "sc"
theorem ok_Ledger_init{fa:Addr}{fd:FuncData}(B:K4 K mg cm)(F:FunD K "__init__" "Ledger.__init__" (B9 (top 27) 0) fa fd #[.none]):FnOk P w K mg base CX0 (1) fa fd ["self","plan","free"] (SpF K cm N2 3):=
 bb7 F am3 λ_ _ _ _ _ _ hr hu hu1=>by
  exact (C2 (o2 6 B (r_v 0) (r_v 1))
 (C2 (o2 7 B (r_v 0) (bs1 (aE7 (r_v 2)) (r_lst r_nil) (ah6 (r_v 2) rfl B.b_list PyProof.Rows.boot_list)))
 (C2 (o2 11 B (r_v 0) (aq1 (r_fb 7 B (r_v 0)) rfl B.b_tuple PyProof.Rows.boot_tuple))
 (C2 (o2 12 B (r_v 0) r_int)
 (C2 (o2 13 B (r_v 0) aj4)
 (C2 (o2 14 B (r_v 0) aj4)
 (C3 (o2 15 B (r_v 0) aj4))))))))
theorem am4:C7 ["self","me"] ["self","me"] (C0 (B9 (top 30) 0)):=by walk_at "sc"
theorem ok_Keeper_init{fa:Addr}{fd:FuncData}(B:K4 K mg cm)(F:L2.Fun K "__init__" "Keeper.__init__" (B9 (top 30) 0) fa fd):FnOk P w K mg base CX0 (1) fa fd ["self","me"] (SpF K cm f_Keeper_init 2):=
 D5 F am4 λ_ _ _ _ _ _ hr hu hu1=>by
  exact (C3 (o2 17 B (r_v 0) (r_v 1)))
theorem aw4:C7 ["numbers"] ["numbers"] (C0 (top 32)):=by walk_at "sc"
theorem ok_is_rising{fa:Addr}{fd:FuncData}(B:K4 K mg cm)(F:L2.Fun K "is_rising" "is_rising" (top 32) fa fd):FnOk P w K mg base CX0 (1) fa fd ["numbers"] (SpF K cm R8 1):=
 D5 F aw4 λ_ _ _ _ _ _ hr hu hu1=>by
  exact (C3 (D4 (aq0 rfl (M0 (N:=["low","high"]) [none,none] rfl (⟨rfl,rfl,by decide +kernel,by decide +kernel,fa_nil,(fa_cons (λh=>nomatch h) (fa_cons (λh=>nomatch h) (fa_cons (λh=>nomatch h) fa_nil)))⟩) (.own (.own .nil)) (i_zip (λ_ _=>nofun) rfl B.b_zip (r_v 0) (ay3 (r_v 0) (ay2 r_int) r_lno)) (λ_ _ _ _=>(ad5 rfl (g_cons (g_name (pg_name (i:=0) (show List.Nodup (["low","high"]:List Str) from by decide +kernel) rfl (by walk_at "o2"))) (g_cons (g_name (pg_name (i:=1) (show List.Nodup (["low","high"]:List Str) from by decide +kernel) rfl (by walk_at "o2"))) g_nil)))) (λ_ _ _ _=>N9) (λ_ _ _ _=>(V4 ac6 ad4 (r_v 0) (r_v 1) (D6 _)))) rfl B.b_all)))
theorem am5:C7 ["web","leaders"] ["web","leaders"] (C0 (top 33)):=by walk_at "sc"
theorem ok_are_leaders{fa:Addr}{fd:FuncData}(B:K4 K mg cm)(D_is_rising:Def P w K mg base cm "is_rising" 1 ["numbers"] R8 1)(D_is_hand:Def P w K mg base cm "is_hand" 2 ["number","value"] K8 2)(F:L2.Fun K "are_leaders" "are_leaders" (top 33) fa fd):FnOk P w K mg base CX0 (3) fa fd ["web","leaders"] (SpF K cm O8 2):=
 D5 F am5 λ_ _ _ _ _ _ hr hu hu1=>by
  exact (C2 (O6 (PW.pt (b0 (P9 (K6 (X4 (t:=.list) B.kit (r_v 1) rfl B.b_isinstance rfl B.b_list PyProof.Rows.boot_list))) (V7 (E9 (M9 hu) R0 (r_v 1) (r_lst r_nil) (D6 _)))))
 (C3 (D4 ab2))
 G2)
 (C3 (D4 (X3 (aq0 rfl (M0 (N:=["h","web"]) [none,some 0] rfl (⟨rfl,rfl,by decide +kernel,by decide +kernel,(fa_cons rfl fa_nil),(fa_cons (by walk_at "fb") (fa_cons (by walk_at "fb") (fa_cons (by walk_at "fb") (fa_cons (by walk_at "fb") fa_nil))))⟩) (.own (.free rfl (by walk_at "o2") (by walk_at "o3") rfl (by walk_at "o2") .nil)) (i_seq (r_v 1)) (λ_ _ _ _=>(g_name (pg_name (i:=0) (show List.Nodup (["h","web"]:List Str) from by decide +kernel) rfl (by walk_at "o2")))) (λ_ _ _ _=>N9) (λ_ _ _ _=>(r_callD D_is_hand (by decide) hr rfl (r_cons (r_fb 0 B (r_v 1)) (r_cons (r_v 0) r_nil))))) rfl B.b_all) (U3 (r_callD D_is_rising (by decide) hr rfl (r_cons (r_v 1) r_nil)))))))
theorem aC0:C7 ["value"] ["value"] (C0 (top 34)):=by walk_at "sc"
theorem ok_is_limit{fa:Addr}{fd:FuncData}(B:K4 K mg cm)(D_is_whole:Def P w K mg base cm "is_whole" 1 ["value"] N0 1)(F:L2.Fun K "is_limit" "is_limit" (top 34) fa fd):FnOk P w K mg base CX0 (2) fa fd ["value"] (SpF K cm U4 1):=
 D5 F aC0 λ_ _ _ _ _ _ hr hu hu1=>by
  exact (C3 (D4 (X3 (r_callD D_is_whole (by decide) hr rfl (r_cons (r_v 0) r_nil)) (U3 (V4 bq5 br6 (r_v 0) r_int (D6 _))))))
theorem sc_Plan_init:C7 ["self","web","leaders","limits","kept","passing"] ["self","web","leaders","limits"] (C0 (B9 (top 35) 0)):=by walk_at "sc"
theorem ok_Plan_init{fa:Addr}{fd:FuncData}(B:K4 K mg cm)(D_are_leaders:Def P w K mg base cm "are_leaders" 3 ["web","leaders"] O8 2)(D_is_limit:Def P w K mg base cm "is_limit" 2 ["value"] U4 1)(F:L2.Fun K "__init__" "Plan.__init__" (B9 (top 35) 0) fa fd):FnOk P w K mg base CX0 (4) fa fd ["self","web","leaders","limits"] (SpF K cm Q0 4):=
 D5 F sc_Plan_init λ_ _ _ _ _ _ hr hu hu1=>by
  exact (C2 (O6 (P9 (K6 (r_callD D_are_leaders (by decide) hr rfl (r_cons (r_v 1) (r_cons (r_v 2) r_nil)))))
 (C3 U9)
 G2)
 (C2 (L3 (i:=4) sc_Plan_init.nd rfl (.inl rfl) aj4)
 (C2 (o4 PassesOwn.never rfl (i_seq (r_fb 1 B (r_v 1))) (g_name (pg_name (i:=5) sc_Plan_init.nd rfl (.inl rfl)))
 (C2 (O6 (P9 (K6 (r_callD D_is_limit (by decide) hr rfl (r_cons (av2 hu1 (r_v 3) (r_v 5)) r_nil))))
 (C3 U9)
 G2)
 (C3 (aF6 hu1 (r_v 4) (r_v 5) (ab8 hu1 (r_v 3) (r_v 5) (λ_ _=>rfl))))))
 (C2 (o2 3 B (r_v 0) (r_v 1))
 (C2 (o2 4 B (r_v 0) (ah6 (r_v 2) rfl B.b_list PyProof.Rows.boot_list))
 (C2 (o2 5 B (r_v 0) (bb0 (r_v 4) rfl B.b_dict))
 (C2 (o2 9 B (r_v 0) (aq1 (r_v 2) rfl B.b_tuple PyProof.Rows.boot_tuple))
 (C3 (o2 10 B (r_v 0) (r_v 4))))))))))
theorem sc_Web_init:C7 ["self","number","passings","wrong"] ["self","number","passings"] (C0 (B9 (top 18) 0)):=by walk_at "sc"
theorem ok_Web_init{fa:Addr}{fd:FuncData}(B:K4 K mg cm)(D_is_number_of_hands:Def P w K mg base cm "is_number_of_hands" 2 ["value"] H9 1)(D_first_wrong_passing:Def P w K mg base cm "first_wrong_passing" 4 ["number","passings"] G8 2)(F:L2.Fun K "__init__" "Web.__init__" (B9 (top 18) 0) fa fd):FnOk P w K mg base CX0 (5) fa fd ["self","number","passings"] (SpF K cm Q1 3):=
 D5 F sc_Web_init λ_ _ _ _ _ _ hr hu hu1=>by
  exact (C2 (O6 (P9 (K6 (r_callD D_is_number_of_hands (by decide) hr rfl (r_cons (r_v 1) r_nil))))
 (C3 U9)
 G2)
 (C2 (L3 (i:=3) sc_Web_init.nd rfl (.inl rfl) (r_callD D_first_wrong_passing (by decide) hr rfl (r_cons (r_v 1) (r_cons (r_v 2) r_nil))))
 (C2 (O6 (a78 (r_v 3))
 (C3 U9)
 G2)
 (C2 (o2 0 B (r_v 0) (r_v 1))
 (C3 (o2 1 B (r_v 0) (az0 hu (r_v 2) rfl B.b_sorted)))))))
theorem ac4:C7 ["self","h"] ["self","h"] (C0 (B9 (top 18) 1)):=by walk_at "sc"
theorem ok_Web_givers_of{fa:Addr}{fd:FuncData}(B:K4 K mg cm)(F:L2.Fun K "givers_of" "Web.givers_of" (B9 (top 18) 1) fa fd):FnOk P w K mg base CX0 (1) fa fd ["self","h"] (SpF K cm M4 2):=
 D5 F ac4 λ_ _ _ _ _ _ hr hu hu1=>by
  exact (C3 (D4 (M0 (N:=["giver","taker","h"]) [none,none,some 1] rfl (⟨rfl,rfl,by decide +kernel,by decide +kernel,(fa_cons rfl fa_nil),(fa_cons (λh=>nomatch h) (fa_cons (λh=>nomatch h) (fa_cons (λh=>nomatch h) (fa_cons (λ_=>rfl) fa_nil))))⟩) (.own (.own (.free rfl (by walk_at "o2") (by walk_at "o3") rfl (by walk_at "o2") .nil))) (i_seq (r_fb 1 B (r_v 0))) (λ_ _ _ _=>(ad5 rfl (g_cons (g_name (pg_name (i:=0) (show List.Nodup (["giver","taker","h"]:List Str) from by decide +kernel) rfl (by walk_at "o2"))) (g_cons (g_name (pg_name (i:=1) (show List.Nodup (["giver","taker","h"]:List Str) from by decide +kernel) rfl (by walk_at "o2"))) g_nil)))) (λ_ _ _ _=>(j8 (E9 (M9 hu) R0 (r_v 1) (r_v 2) (D6 _)))) (λ_ _ _ _=>(r_v 0)))))
theorem ac5:C7 ["self","h"] ["self","h"] (C0 (B9 (top 18) 2)):=by walk_at "sc"
theorem ok_Web_takers_of{fa:Addr}{fd:FuncData}(B:K4 K mg cm)(F:L2.Fun K "takers_of" "Web.takers_of" (B9 (top 18) 2) fa fd):FnOk P w K mg base CX0 (1) fa fd ["self","h"] (SpF K cm M5 2):=
 D5 F ac5 λ_ _ _ _ _ _ hr hu hu1=>by
  exact (C3 (D4 (M0 (N:=["giver","taker","h"]) [none,none,some 1] rfl (⟨rfl,rfl,by decide +kernel,by decide +kernel,(fa_cons rfl fa_nil),(fa_cons (λh=>nomatch h) (fa_cons (λh=>nomatch h) (fa_cons (λh=>nomatch h) (fa_cons (λ_=>rfl) fa_nil))))⟩) (.own (.own (.free rfl (by walk_at "o2") (by walk_at "o3") rfl (by walk_at "o2") .nil))) (i_seq (r_fb 1 B (r_v 0))) (λ_ _ _ _=>(ad5 rfl (g_cons (g_name (pg_name (i:=0) (show List.Nodup (["giver","taker","h"]:List Str) from by decide +kernel) rfl (by walk_at "o2"))) (g_cons (g_name (pg_name (i:=1) (show List.Nodup (["giver","taker","h"]:List Str) from by decide +kernel) rfl (by walk_at "o2"))) g_nil)))) (λ_ _ _ _=>(j8 (E9 (M9 hu) R0 (r_v 0) (r_v 2) (D6 _)))) (λ_ _ _ _=>(r_v 1)))))
theorem aC1:C7 ["web","leaders","chain"] ["web","leaders","chain"] (C0 (top 20)):=by walk_at "sc"
theorem ok_is_chain{fa:Addr}{fd:FuncData}(B:K4 K mg cm)(D_is_hand:Def P w K mg base cm "is_hand" 2 ["number","value"] K8 2)(F:L2.Fun K "is_chain" "is_chain" (top 20) fa fd):FnOk P w K mg base CX0 (3) fa fd ["web","leaders","chain"] (SpF K cm U5 3):=
 D5 F aC1 λ_ _ _ _ _ _ hr hu hu1=>by
  exact (C2 (O6 (PW.pt (b0 (E9 (M9 hu) R0 (r_v 2) (R7 r_nil) (D6 _)) (V7 (E9 (ap6 hu) ay5 (r_ix (r_v 2) bf6 (λ_ _=>rfl)) (r_v 1) (by rfl)))))
 (C3 (D4 ab2))
 G2)
 (C2 (O6 (PW.pt (b0 (E9 ac6 ad4 (aP6 rfl (r_v 2) rfl B.b_len rfl B.b_set) (r_len (r_v 2) rfl B.b_len) (D6 _)) (V7 (P9 (K6 (aq0 rfl (M0 (N:=["h","web"]) [none,some 0] rfl (⟨rfl,rfl,by decide +kernel,by decide +kernel,(fa_cons rfl fa_nil),(fa_cons (by walk_at "fb") (fa_cons (by walk_at "fb") (fa_cons (by walk_at "fb") (fa_cons (by walk_at "fb") fa_nil))))⟩) (.own (.free rfl (by walk_at "o2") (by walk_at "o3") rfl (by walk_at "o2") .nil)) (i_seq (r_v 2)) (λ_ _ _ _=>(g_name (pg_name (i:=0) (show List.Nodup (["h","web"]:List Str) from by decide +kernel) rfl (by walk_at "o2")))) (λ_ _ _ _=>N9) (λ_ _ _ _=>(r_callD D_is_hand (by decide) hr rfl (r_cons (r_fb 0 B (r_v 1)) (r_cons (r_v 0) r_nil))))) rfl B.b_all))))))
 (C3 (D4 ab2))
 G2)
 (C3 (D4 (aq0 rfl (M0 (N:=["step","web"]) [none,some 0] rfl (⟨rfl,rfl,by decide +kernel,by decide +kernel,(fa_cons rfl fa_nil),(fa_cons (λh=>nomatch h) (fa_cons (λh=>nomatch h) (fa_cons (λ_=>rfl) fa_nil)))⟩) (.own (.free rfl (by walk_at "o2") (by walk_at "o3") rfl (by walk_at "o2") .nil)) (i_zip (λ_ _=>nofun) rfl B.b_zip (r_v 2) (ay3 (r_v 2) (ay2 r_int) r_lno)) (λ_ _ _ _=>(g_name (pg_name (i:=0) (show List.Nodup (["step","web"]:List Str) from by decide +kernel) rfl (by walk_at "o2")))) (λ_ _ _ _=>N9) (λ_ _ _ _=>(V4 (s9 hu) ai0 (r_v 0) (r_fb 1 B (r_v 1)) (by rfl)))) rfl B.b_all)))))
theorem aS6:C7 ["web","value"] ["web","value"] (C0 (top 24)):=by walk_at "sc"
theorem ok_is_box{fa:Addr}{fd:FuncData}(B:K4 K mg cm)(D_is_passing:Def P w K mg base cm "is_passing" 3 ["number","value"] M7 2)(F:L2.Fun K "is_box" "is_box" (top 24) fa fd):FnOk P w K mg base CX0 (4) fa fd ["web","value"] (SpF K cm b9 2):=
 D5 F aS6 λ_ _ _ _ _ _ hr hu hu1=>by
  exact (C3 (D4 (X3 (r_callD D_is_passing (by decide) hr rfl (r_cons (r_fb 0 B (r_v 0)) (r_cons (r_v 1) r_nil))) (U3 (V4 (s9 hu) ai0 (r_v 1) (r_fb 1 B (r_v 0)) (by rfl))))))
theorem am6:C7 ["plan","value"] ["plan","value"] (C0 (top 25)):=by walk_at "sc"
theorem ok_is_chain_of{fa:Addr}{fd:FuncData}(B:K4 K mg cm)(D_is_hand:Def P w K mg base cm "is_hand" 2 ["number","value"] K8 2)(D_is_chain:Def P w K mg base cm "is_chain" 3 ["web","leaders","chain"] U5 3)(F:L2.Fun K "is_chain_of" "is_chain_of" (top 25) fa fd):FnOk P w K mg base CX0 (4) fa fd ["plan","value"] (SpF K cm O9 2):=
 D5 F am6 λ_ _ _ _ _ _ hr hu hu1=>by
  exact (C2 (O6 (PW.pt (b0 (P9 (K6 (X4 (t:=.tuple) B.kit (r_v 1) rfl B.b_isinstance rfl B.b_tuple PyProof.Rows.boot_tuple))) (V7 (P9 (K6 (aq0 rfl (M0 (N:=["h","plan"]) [none,some 0] rfl (⟨rfl,rfl,by decide +kernel,by decide +kernel,(fa_cons rfl fa_nil),(fa_cons (by walk_at "fb") (fa_cons (by walk_at "fb") (fa_cons (by walk_at "fb") (fa_cons (by walk_at "fb") fa_nil))))⟩) (.own (.free rfl (by walk_at "o2") (by walk_at "o3") rfl (by walk_at "o2") .nil)) (i_seq (r_v 1)) (λ_ _ _ _=>(g_name (pg_name (i:=0) (show List.Nodup (["h","plan"]:List Str) from by decide +kernel) rfl (by walk_at "o2")))) (λ_ _ _ _=>N9) (λ_ _ _ _=>(r_callD D_is_hand (by decide) hr rfl (r_cons (r_fb 0 B (r_fb 3 B (r_v 1))) (r_cons (r_v 0) r_nil))))) rfl B.b_all))))))
 (C3 (D4 ab2))
 G2)
 (C3 (D4 (r_callD D_is_chain (by decide) hr rfl (r_cons (r_fb 3 B (r_v 0)) (r_cons (r_fb 9 B (r_v 0)) (r_cons (r_v 1) r_nil)))))))
theorem aH2:C7 ["plan","value"] ["plan","value"] (C0 (top 26)):=by walk_at "sc"
theorem ok_is_deed{fa:Addr}{fd:FuncData}(B:K4 K mg cm)(GL:aH0 mg)(D_is_box:Def P w K mg base cm "is_box" 4 ["web","value"] b9 2)(D_is_chain_of:Def P w K mg base cm "is_chain_of" 4 ["plan","value"] O9 2)(F:L2.Fun K "is_deed" "is_deed" (top 26) fa fd):FnOk P w K mg base CX0 (5) fa fd ["plan","value"] (SpF K cm R9 2):=
 D5 F aH2 λ_ _ _ _ _ _ hr hu hu1=>by
  exact (C2 (O6 (PW.pt (b0 (P9 (K6 (X4 (t:=.tuple) B.kit (r_v 1) rfl B.b_isinstance rfl B.b_tuple PyProof.Rows.boot_tuple))) (b0 (E9 ac6 ad4 (r_len (r_v 1) rfl B.b_len) r_int (D6 _)) (V7 (P9 (K6 (r_callD D_is_box (by decide) hr rfl (r_cons (r_fb 3 B (r_v 0)) (r_cons (r_ix (r_v 1) r_int (λ_ _=>rfl)) r_nil)))))))))
 (C3 (D4 ab2))
 G2)
 (C2 (O6 (E9 (M9 hu) R0 (r_len (r_v 1) rfl B.b_len) r_int (D6 _))
 (C3 (D4 (V4 (M9 hu) R0 (r_ix (r_v 1) r_int (λ_ _=>rfl)) (n9 rfl GL.g_LAY) (D6 _))))
 G2)
 (C2 (O6 (PW.pt (b0 (E9 (S5 hu) Y8 (r_len (r_v 1) rfl B.b_len) r_int (D6 _)) (V7 (E9 (S5 hu) Y8 (r_ix (r_v 1) r_int (λ_ _=>rfl)) (n9 rfl GL.g_SAY) (D6 _)))))
 (C3 (D4 ab2))
 G2)
 (C3 (D4 (X3 (r_callD D_is_chain_of (by decide) hr rfl (r_cons (r_v 0) (r_cons (r_ix (r_v 1) r_int (λ_ _=>rfl)) r_nil))) (U3 (V4 (M9 hu) R0 (r_ix (r_ix (r_v 1) r_int (λ_ _=>rfl)) r_int (λ_ _=>rfl)) (r_ix (r_ix (r_v 1) r_int (λ_ _=>rfl)) r_int (λ_ _=>rfl)) (D6 _)))))))))
theorem am7:C7 ["self"] ["self"] (C0 (B9 (top 27) 1)):=by walk_at "sc"
theorem ok_Ledger_turn{fa:Addr}{fd:FuncData}(B:K4 K mg cm)(F:L2.Fun K "turn" "Ledger.turn" (B9 (top 27) 1) fa fd):FnOk P w K mg base CX0 (1) fa fd ["self"] (SpF K cm f_Ledger_turn 1):=
 D5 F am7 λ_ _ _ _ _ _ hr hu hu1=>by
  exact (C3 (D4 (r_fb 12 B (r_v 0))))
theorem am8:C7 ["self"] ["self"] (C0 (B9 (top 27) 2)):=by walk_at "sc"
theorem ok_Ledger_move{fa:Addr}{fd:FuncData}(B:K4 K mg cm)(F:L2.Fun K "move" "Ledger.move" (B9 (top 27) 2) fa fd):FnOk P w K mg base CX0 (1) fa fd ["self"] (SpF K cm P0 1):=
 D5 F am8 λ_ _ _ _ _ _ hr hu hu1=>by
  exact (C3 (o2 12 B (r_v 0) (r_bin J7 L9 (r_fb 12 B (r_v 0)) r_int)))
theorem t6:C7 ["self","deed"] ["self","deed"] (C0 (B9 (top 27) 4)):=by walk_at "sc"
theorem ok_Ledger_take_lay{fa:Addr}{fd:FuncData}(B:K4 K mg cm)(F:L2.Fun K "take_lay" "Ledger.take_lay" (B9 (top 27) 4) fa fd):FnOk P w K mg base CX0 (1) fa fd ["self","deed"] (SpF K cm f_Ledger_take_lay 2):=
 D5 F t6 λ_ _ _ _ _ _ hr hu hu1=>by
  exact (C2 (O6 (a99 hu1 (r_ix (r_v 1) r_int (λ_ _=>rfl)) (r_fb 13 B (r_v 0)))
 (C3 U9)
 G2)
 (C3 (aF6 hu1 (r_fb 13 B (r_v 0)) (r_ix (r_v 1) r_int (λ_ _=>rfl)) (r_fb 12 B (r_v 0)))))
theorem ao0:C7 ["self","passing"] ["self","passing"] (C0 (B9 (top 35) 1)):=by walk_at "sc"
theorem ok_Plan_limit{fa:Addr}{fd:FuncData}(B:K4 K mg cm)(F:L2.Fun K "limit" "Plan.limit" (B9 (top 35) 1) fa fd):FnOk P w K mg base CX0 (1) fa fd ["self","passing"] (SpF K cm S8 2):=
 D5 F ao0 λ_ _ _ _ _ _ hr hu hu1=>by
  exact (C3 (D4 (ab8 hu1 (r_fb 10 B (r_v 0)) (r_v 1) (λ_ _=>rfl))))
theorem aa0:C7 ["self","passing","chain"] ["self","passing","chain"] (C0 (B9 (top 27) 8)):=by walk_at "sc"
theorem ok_Ledger_is_late{fa:Addr}{fd:FuncData}(B:K4 K mg cm)(D_Plan_limit:P5 P w K mg base cm 1 "limit" 1 ["self","passing"] S8 2)(F:L2.Fun K "is_late" "Ledger.is_late" (B9 (top 27) 8) fa fd):FnOk P w K mg base CX0 (2) fa fd ["self","passing","chain"] (SpF K cm E7 3):=
 D5 F aa0 λ_ _ _ _ _ _ hr hu hu1=>by
  exact (C3 (D4 (V4 bd9 bf1 (r_fb 12 B (r_v 0)) (r_bin J7 L9 (r_methD D_Plan_limit (by decide) hr (B.cls _ (by decide)) (r_fb 6 B (r_v 0)) (r_cons (r_v 1) r_nil) (by decide +kernel)) (r_len (r_v 2) rfl B.b_len)) (D6 _))))
theorem c7:C7 ["self","passing"] ["self","passing"] (C0 (B9 (top 27) 7)):=by walk_at "sc"
theorem ok_Ledger_is_laid_ahead{fa:Addr}{fd:FuncData}(B:K4 K mg cm)(F:L2.Fun K "is_laid_ahead" "Ledger.is_laid_ahead" (B9 (top 27) 7) fa fd):FnOk P w K mg base CX0 (1) fa fd ["self","passing"] (SpF K cm G4 2):=
 D5 F c7 λ_ _ _ _ _ _ hr hu hu1=>by
  exact (C3 (D4 (X3 (aZ6 hu1 (r_v 1) (r_fb 13 B (r_v 0))) (U3 (V4 ac6 ad4 (ab8 hu1 (r_fb 13 B (r_v 0)) (r_v 1) (λ_ _=>rfl)) (r_fb 12 B (r_v 0)) (D6 _))))))
theorem c8:C7 ["self","chain"] ["self","chain"] (C0 (B9 (top 27) 10)):=by walk_at "sc"
theorem ok_Ledger_is_said_ahead{fa:Addr}{fd:FuncData}(B:K4 K mg cm)(F:L2.Fun K "is_said_ahead" "Ledger.is_said_ahead" (B9 (top 27) 10) fa fd):FnOk P w K mg base CX0 (1) fa fd ["self","chain"] (SpF K cm G5 2):=
 D5 F c8 λ_ _ _ _ _ _ hr hu hu1=>by
  exact (C3 (D4 (X3 (aZ6 hu1 (r_v 1) (r_fb 15 B (r_v 0))) (U3 (V4 ac6 ad4 (ab8 hu1 (r_fb 15 B (r_v 0)) (r_v 1) (λ_ _=>rfl)) (r_fb 12 B (r_v 0)) (D6 _))))))
theorem sc_Ledger_is_sayable:C7 ["self","chain","left"] ["self","chain"] (C0 (B9 (top 27) 9)):=by walk_at "sc"
theorem ok_Ledger_is_sayable{fa:Addr}{fd:FuncData}(B:K4 K mg cm)(D_Ledger_is_said_ahead:P5 P w K mg base cm 2 "is_said_ahead" 1 ["self","chain"] G5 2)(F:L2.Fun K "is_sayable" "Ledger.is_sayable" (B9 (top 27) 9) fa fd):FnOk P w K mg base CX0 (2) fa fd ["self","chain"] (SpF K cm J3 2):=
 D5 F sc_Ledger_is_sayable λ_ _ _ _ _ _ hr hu hu1=>by
  exact (C2 (L3 (i:=2) sc_Ledger_is_sayable.nd rfl (.inl rfl) (ay3 (r_v 1) (ay2 r_int) r_lno))
 (C2 (a81 PassesOwn.never (PW.pt (au1 (E9 (S5 hu) Y8 (r_v 2) (R7 r_nil) (D6 _)) (au0 (E9 (s9 hu) ai0 (r_ix (r_v 2) r_int (λ_ _=>rfl)) (r_fb 11 B (r_v 0)) (by rfl)))))
 (C3 (L3 (i:=2) sc_Ledger_is_sayable.nd rfl (.inl rfl) (ay3 (r_v 2) (ay2 r_int) r_lno))))
 (C3 (D4 (bw6 (V4 (M9 hu) R0 (r_v 2) (R7 r_nil) (D6 _)) (bs0 (r_methD D_Ledger_is_said_ahead (by decide) hr (B.cls _ (by decide)) (r_v 0) (r_cons (r_v 2) r_nil) (by decide +kernel))))))))
theorem sc_Ledger_take_say:C7 ["self","deed","passing","chain"] ["self","deed"] (C0 (B9 (top 27) 5)):=by walk_at "sc"
theorem ok_Ledger_take_say{fa:Addr}{fd:FuncData}(B:K4 K mg cm)(D_Ledger_is_laid_ahead:P5 P w K mg base cm 2 "is_laid_ahead" 1 ["self","passing"] G4 2)(D_Ledger_is_late:P5 P w K mg base cm 2 "is_late" 2 ["self","passing","chain"] E7 3)(D_Ledger_is_sayable:P5 P w K mg base cm 2 "is_sayable" 2 ["self","chain"] J3 2)(F:L2.Fun K "take_say" "Ledger.take_say" (B9 (top 27) 5) fa fd):FnOk P w K mg base CX0 (3) fa fd ["self","deed"] (SpF K cm f_Ledger_take_say 2):=
 D5 F sc_Ledger_take_say λ_ _ _ _ _ _ hr hu hu1=>by
  exact (C2 (L3 (i:=2) sc_Ledger_take_say.nd rfl (.inl rfl) (r_ix (r_v 1) r_int (λ_ _=>rfl)))
 (C2 (L3 (i:=3) sc_Ledger_take_say.nd rfl (.inl rfl) (r_ix (r_v 1) r_int (λ_ _=>rfl)))
 (C2 (O6 (P9 (K6 (r_methD D_Ledger_is_laid_ahead (by decide) hr (B.cls _ (by decide)) (r_v 0) (r_cons (r_v 2) r_nil) (by decide +kernel))))
 (C3 U9)
 G2)
 (C2 (O6 (K6 (r_methD D_Ledger_is_late (by decide) hr (B.cls _ (by decide)) (r_v 0) (r_cons (r_v 2) (r_cons (r_v 3) r_nil)) (by decide +kernel)))
 (C3 U9)
 G2)
 (C2 (O6 (P9 (K6 (r_methD D_Ledger_is_sayable (by decide) hr (B.cls _ (by decide)) (r_v 0) (r_cons (r_v 3) r_nil) (by decide +kernel))))
 (C3 U9)
 G2)
 (C2 (Z6 (ah7 (aK3 hu1 (r_fb 14 B (r_v 0)) (r_v 2) (r_lst r_nil)) (R7 (r_cons (r_fb 12 B (r_v 0)) (r_cons (r_v 3) r_nil)))))
 (C3 (Z6 (aK3 hu1 (r_fb 15 B (r_v 0)) (r_v 3) (r_fb 12 B (r_v 0)))))))))))
theorem am9:C7 ["self","deed"] ["self","deed"] (C0 (B9 (top 27) 3)):=by walk_at "sc"
theorem ok_Ledger_take{fa:Addr}{fd:FuncData}(B:K4 K mg cm)(GL:aH0 mg)(D_is_deed:Def P w K mg base cm "is_deed" 5 ["plan","value"] R9 2)(D_Ledger_take_lay:P5 P w K mg base cm 2 "take_lay" 1 ["self","deed"] f_Ledger_take_lay 2)(D_Ledger_take_say:P5 P w K mg base cm 2 "take_say" 3 ["self","deed"] f_Ledger_take_say 2)(F:L2.Fun K "take" "Ledger.take" (B9 (top 27) 3) fa fd):FnOk P w K mg base CX0 (6) fa fd ["self","deed"] (SpF K cm K7 2):=
 D5 F am9 λ_ _ _ _ _ _ hr hu hu1=>by
  exact (C2 (O6 (P9 (K6 (r_callD D_is_deed (by decide) hr rfl (r_cons (r_fb 6 B (r_v 0)) (r_cons (r_v 1) r_nil)))))
 (C3 U9)
 G2)
 (C3 (O6 (E9 (M9 hu) R0 (r_ix (r_v 1) r_int (λ_ _=>rfl)) (n9 rfl GL.g_LAY) (D6 _))
 (C3 (Z6 (r_methD D_Ledger_take_lay (by decide) hr (B.cls _ (by decide)) (r_v 0) (r_cons (r_v 1) r_nil) (by decide +kernel))))
 (C3 (Z6 (r_methD D_Ledger_take_say (by decide) hr (B.cls _ (by decide)) (r_v 0) (r_cons (r_v 1) r_nil) (by decide +kernel)))))))
theorem t7:C7 ["self","passing"] ["self","passing"] (C0 (B9 (top 27) 6)):=by walk_at "sc"
theorem ok_Ledger_lay_turn{fa:Addr}{fd:FuncData}(B:K4 K mg cm)(F:L2.Fun K "lay_turn" "Ledger.lay_turn" (B9 (top 27) 6) fa fd):FnOk P w K mg base CX0 (1) fa fd ["self","passing"] (SpF K cm K3 2):=
 D5 F t7 λ_ _ _ _ _ _ hr hu hu1=>by
  exact (C3 (D4 (av2 hu1 (r_fb 13 B (r_v 0)) (r_v 1))))
theorem an0:C7 ["self","passing"] ["self","passing"] (C0 (B9 (top 27) 14)):=by walk_at "sc"
theorem ok_Ledger_said{fa:Addr}{fd:FuncData}(B:K4 K mg cm)(F:L2.Fun K "said" "Ledger.said" (B9 (top 27) 14) fa fd):FnOk P w K mg base CX0 (1) fa fd ["self","passing"] (SpF K cm P1 2):=
 D5 F an0 λ_ _ _ _ _ _ hr hu hu1=>by
  exact (C3 (D4 (ah6 (ba0 hu1 (r_fb 14 B (r_v 0)) (r_v 1) (r_lst r_nil)) rfl B.b_list PyProof.Rows.boot_list)))
theorem ao1:C7 ["self","h"] ["self","h"] (C0 (B9 (top 35) 2)):=by walk_at "sc"
theorem ok_Plan_leads{fa:Addr}{fd:FuncData}(B:K4 K mg cm)(F:L2.Fun K "leads" "Plan.leads" (B9 (top 35) 2) fa fd):FnOk P w K mg base CX0 (1) fa fd ["self","h"] (SpF K cm T0 2):=
 D5 F ao1 λ_ _ _ _ _ _ hr hu hu1=>by
  exact (C3 (D4 (V4 (s9 hu) ai0 (r_v 1) (r_fb 9 B (r_v 0)) (by rfl))))
theorem i5:C7 ["self","ledger"] ["self","ledger"] (C0 (B9 (top 30) 2)):=by walk_at "sc"
theorem ok_Keeper_boxes_to_me{fa:Addr}{fd:FuncData}(B:K4 K mg cm)(D_Web_givers_of:P5 P w K mg base cm 0 "givers_of" 1 ["self","h"] M4 2)(F:L2.Fun K "boxes_to_me" "Keeper.boxes_to_me" (B9 (top 30) 2) fa fd):FnOk P w K mg base CX0 (2) fa fd ["self","ledger"] (SpF K cm D0 2):=
 D5 F i5 λ_ _ _ _ _ _ hr hu hu1=>by
  exact (C3 (D4 (M0 (N:=["giver","self"]) [none,some 0] rfl (⟨rfl,rfl,by decide +kernel,by decide +kernel,(fa_cons rfl fa_nil),(fa_cons (λh=>nomatch h) (fa_cons (λh=>nomatch h) (fa_cons (λ_=>rfl) fa_nil)))⟩) (.own (.free rfl (by walk_at "o2") (by walk_at "o3") rfl (by walk_at "o2") .nil)) (i_seq (r_methD D_Web_givers_of (by decide) hr (B.cls _ (by decide)) (r_fb 3 B (r_fb 6 B (r_v 1))) (r_cons (r_fb 17 B (r_v 0)) r_nil) (by decide +kernel))) (λ_ _ _ _=>(g_name (pg_name (i:=0) (show List.Nodup (["giver","self"]:List Str) from by decide +kernel) rfl (by walk_at "o2")))) (λ_ _ _ _=>N9) (λ_ _ _ _=>(R7 (r_cons (r_v 0) (r_cons (r_fb 17 B (r_v 1)) r_nil)))))))
theorem sc_Keeper_ready_turn:C7 ["self","ledger","turns"] ["self","ledger"] (C0 (B9 (top 30) 4)):=by walk_at "sc"
theorem ok_Keeper_ready_turn{fa:Addr}{fd:FuncData}(B:K4 K mg cm)(D_Ledger_lay_turn:P5 P w K mg base cm 2 "lay_turn" 1 ["self","passing"] K3 2)(D_Keeper_boxes_to_me:P5 P w K mg base cm 5 "boxes_to_me" 2 ["self","ledger"] D0 2)(F:L2.Fun K "ready_turn" "Keeper.ready_turn" (B9 (top 30) 4) fa fd):FnOk P w K mg base CX0 (3) fa fd ["self","ledger"] (SpF K cm E8 2):=
 D5 F sc_Keeper_ready_turn λ_ _ _ _ _ _ hr hu hu1=>by
  exact (C2 (ai2 (N:=["box","ledger"]) [none,some 1] rfl (⟨rfl,rfl,by decide +kernel,by decide +kernel,(fa_cons rfl fa_nil),(fa_cons (λh=>nomatch h) (fa_cons (λh=>nomatch h) (fa_cons (λ_=>rfl) fa_nil)))⟩) (.own (.free rfl (by walk_at "o2") (by walk_at "o3") rfl (by walk_at "o2") .nil)) (i_seq (r_methD D_Keeper_boxes_to_me (by decide) hr (B.cls _ (by decide)) (r_v 0) (r_cons (r_v 1) r_nil) (by decide +kernel))) (λ_ _ _ _=>(g_name (pg_name (i:=0) (show List.Nodup (["box","ledger"]:List Str) from by decide +kernel) rfl (by walk_at "o2")))) (λ_ _ _ _=>N9) (λ_ _ _ _=>(r_methD D_Ledger_lay_turn (by decide) hr (B.cls _ (by decide)) (r_v 1) (r_cons (r_v 0) r_nil) (by decide +kernel))) (i:=2) sc_Keeper_ready_turn.nd rfl (.inl rfl))
 (C2 (O6 (E9 (s9 hu) ai0 aW7 (r_v 2) (by rfl))
 (C3 (D4 aW7))
 G2)
 (C3 (D4 (r_bin J7 L9 r_int (bm8 rfl (r_v 2) r_int rfl B.b_max))))))
theorem c9:C7 ["self","ledger"] ["self","ledger"] (C0 (B9 (top 30) 3)):=by walk_at "sc"
theorem ok_Keeper_boxes_of_mine{fa:Addr}{fd:FuncData}(B:K4 K mg cm)(D_Web_takers_of:P5 P w K mg base cm 0 "takers_of" 1 ["self","h"] M5 2)(F:L2.Fun K "boxes_of_mine" "Keeper.boxes_of_mine" (B9 (top 30) 3) fa fd):FnOk P w K mg base CX0 (2) fa fd ["self","ledger"] (SpF K cm E1 2):=
 D5 F c9 λ_ _ _ _ _ _ hr hu hu1=>by
  exact (C3 (D4 (M0 (N:=["taker","self"]) [none,some 0] rfl (⟨rfl,rfl,by decide +kernel,by decide +kernel,(fa_cons rfl fa_nil),(fa_cons (λh=>nomatch h) (fa_cons (λh=>nomatch h) (fa_cons (λ_=>rfl) fa_nil)))⟩) (.own (.free rfl (by walk_at "o2") (by walk_at "o3") rfl (by walk_at "o2") .nil)) (i_seq (r_methD D_Web_takers_of (by decide) hr (B.cls _ (by decide)) (r_fb 3 B (r_fb 6 B (r_v 1))) (r_cons (r_fb 17 B (r_v 0)) r_nil) (by decide +kernel))) (λ_ _ _ _=>(g_name (pg_name (i:=0) (show List.Nodup (["taker","self"]:List Str) from by decide +kernel) rfl (by walk_at "o2")))) (λ_ _ _ _=>N9) (λ_ _ _ _=>(R7 (r_cons (r_fb 17 B (r_v 1)) (r_cons (r_v 0) r_nil)))))))
theorem sc_Keeper_lays:C7 ["self","ledger","turn"] ["self","ledger"] (C0 (B9 (top 30) 5)):=by walk_at "sc"
theorem ok_Keeper_lays{fa:Addr}{fd:FuncData}(B:K4 K mg cm)(GL:aH0 mg)(D_Plan_leads:P5 P w K mg base cm 1 "leads" 1 ["self","h"] T0 2)(D_Keeper_ready_turn:P5 P w K mg base cm 5 "ready_turn" 3 ["self","ledger"] E8 2)(D_Ledger_turn:P5 P w K mg base cm 2 "turn" 1 ["self"] f_Ledger_turn 1)(D_Keeper_boxes_of_mine:P5 P w K mg base cm 5 "boxes_of_mine" 2 ["self","ledger"] E1 2)(F:L2.Fun K "lays" "Keeper.lays" (B9 (top 30) 5) fa fd):FnOk P w K mg base CX0 (4) fa fd ["self","ledger"] (SpF K cm P2 2):=
 D5 F sc_Keeper_lays λ_ _ _ _ _ _ hr hu hu1=>by
  exact (C2 (L3 (i:=2) sc_Keeper_lays.nd rfl (.inl rfl) (bs1 (K6 (r_methD D_Plan_leads (by decide) hr (B.cls _ (by decide)) (r_fb 6 B (r_v 1)) (r_cons (r_fb 17 B (r_v 0)) r_nil) (by decide +kernel))) r_int (r_methD D_Keeper_ready_turn (by decide) hr (B.cls _ (by decide)) (r_v 0) (r_cons (r_v 1) r_nil) (by decide +kernel))))
 (C2 (O6 (E9 (S5 hu) Y8 (k0 D_Ledger_turn (by decide) hr (B.cls _ (by decide)) (r_v 1) (by decide +kernel)) (r_v 2) (D6 _))
 (C3 (D4 (r_lst r_nil)))
 G2)
 (C3 (D4 (M0 (N:=["box"]) [none] rfl (⟨rfl,rfl,by decide +kernel,by decide +kernel,fa_nil,(fa_cons (λh=>nomatch h) (fa_cons (λh=>nomatch h) (fa_cons (λh=>nomatch h) fa_nil)))⟩) (.own .nil) (i_seq (r_methD D_Keeper_boxes_of_mine (by decide) hr (B.cls _ (by decide)) (r_v 0) (r_cons (r_v 1) r_nil) (by decide +kernel))) (λ_ _ _ _=>(g_name (pg_name (i:=0) (show List.Nodup (["box"]:List Str) from by decide +kernel) rfl (by walk_at "o2")))) (λ_ _ _ _=>N9) (λ_ _ _ _=>(R7 (r_cons (n9 rfl GL.g_LAY) (r_cons (r_v 0) r_nil)))))))))
theorem sc_Keeper_says_own_word:C7 ["self","ledger","ready","word","boxes"] ["self","ledger","ready"] (C0 (B9 (top 30) 7)):=by walk_at "sc"
theorem ok_Keeper_says_own_word{fa:Addr}{fd:FuncData}(B:K4 K mg cm)(GL:aH0 mg)(D_Keeper_boxes_to_me:P5 P w K mg base cm 5 "boxes_to_me" 2 ["self","ledger"] D0 2)(D_Ledger_is_late:P5 P w K mg base cm 2 "is_late" 2 ["self","passing","chain"] E7 3)(D_Ledger_turn:P5 P w K mg base cm 2 "turn" 1 ["self"] f_Ledger_turn 1)(F:L2.Fun K "says_own_word" "Keeper.says_own_word" (B9 (top 30) 7) fa fd):FnOk P w K mg base CX0 (3) fa fd ["self","ledger","ready"] (SpF K cm G6 3):=
 D5 F sc_Keeper_says_own_word λ_ _ _ _ _ _ hr hu hu1=>by
  exact (C2 (L3 (i:=3) sc_Keeper_says_own_word.nd rfl (.inr rfl) (R7 (r_cons (r_fb 17 B (r_v 0)) r_nil)))
 (C2 (L3 (i:=4) sc_Keeper_says_own_word.nd rfl (.inl rfl) (r_methD D_Keeper_boxes_to_me (by decide) hr (B.cls _ (by decide)) (r_v 0) (r_cons (r_v 1) r_nil) (by decide +kernel)))
 (C2 (O6 (PW.pt (b0 (E9 (S5 hu) Y8 (k0 D_Ledger_turn (by decide) hr (B.cls _ (by decide)) (r_v 1) (by decide +kernel)) (r_v 2) (D6 _)) (V7 (K6 (bf7 rfl (M0 (N:=["box","ledger","word"]) [none,some 1,some 3] rfl (⟨rfl,rfl,by decide +kernel,by decide +kernel,(fa_cons rfl (fa_cons rfl fa_nil)),(fa_cons (λh=>nomatch h) (fa_cons (λh=>nomatch h) (fa_cons (λ_=>rfl) (fa_cons (λ_=>rfl) fa_nil))))⟩) (.own (.free rfl (by walk_at "o2") (by walk_at "o3") rfl (by walk_at "o2") (.free rfl (by walk_at "o2") (by walk_at "o3") rfl (by walk_at "o2") .nil))) (i_seq (r_v 4)) (λ_ _ _ _=>(g_name (pg_name (i:=0) (show List.Nodup (["box","ledger","word"]:List Str) from by decide +kernel) rfl (by walk_at "o2")))) (λ_ _ _ _=>N9) (λ_ _ _ _=>(r_methD D_Ledger_is_late (by decide) hr (B.cls _ (by decide)) (r_v 1) (r_cons (r_v 0) (r_cons (r_v 2) r_nil)) (by decide +kernel)))) rfl B.b_any)))))
 (C3 (D4 (r_lst r_nil)))
 G2)
 (C3 (D4 (M0 (N:=["box","word"]) [none,some 3] rfl (⟨rfl,rfl,by decide +kernel,by decide +kernel,(fa_cons rfl fa_nil),(fa_cons (by walk_at "fb") (fa_cons (by walk_at "fb") (fa_cons (by walk_at "fb") (fa_cons (by walk_at "fb") fa_nil))))⟩) (.own (.free rfl (by walk_at "o2") (by walk_at "o3") rfl (by walk_at "o2") .nil)) (i_seq (r_v 4)) (λ_ _ _ _=>(g_name (pg_name (i:=0) (show List.Nodup (["box","word"]:List Str) from by decide +kernel) rfl (by walk_at "o2")))) (λ_ _ _ _=>N9) (λ_ _ _ _=>(R7 (r_cons (n9 rfl GL.g_SAY) (r_cons (r_v 0) (r_cons (r_v 1) r_nil)))))))))))
theorem sc_Keeper_rows_to_say_on:C7 ["self","ledger","leader","rows","box","turn","chain"] ["self","ledger","leader"] (C0 (B9 (top 30) 9)):=by walk_at "sc"
theorem ok_Keeper_rows_to_say_on{fa:Addr}{fd:FuncData}(B:K4 K mg cm)(D_Keeper_boxes_of_mine:P5 P w K mg base cm 5 "boxes_of_mine" 2 ["self","ledger"] E1 2)(D_Ledger_said:P5 P w K mg base cm 2 "said" 1 ["self","passing"] P1 2)(D_Ledger_turn:P5 P w K mg base cm 2 "turn" 1 ["self"] f_Ledger_turn 1)(F:L2.Fun K "rows_to_say_on" "Keeper.rows_to_say_on" (B9 (top 30) 9) fa fd):FnOk P w K mg base CX0 (3) fa fd ["self","ledger","leader"] (SpF K cm G3 3):=
 D5 F sc_Keeper_rows_to_say_on λ_ _ _ _ _ _ hr hu hu1=>by
  exact (C2 (L3 (i:=3) sc_Keeper_rows_to_say_on.nd rfl (.inl rfl) (r_lst r_nil))
 (C2 (o4 PassesOwn.never rfl (i_seq (r_methD D_Keeper_boxes_of_mine (by decide) hr (B.cls _ (by decide)) (r_v 0) (r_cons (r_v 1) r_nil) (by decide +kernel))) (g_name (pg_name (i:=4) sc_Keeper_rows_to_say_on.nd rfl (.inl rfl)))
 (C3 (o4 PassesOwn.never rfl (i_seq (r_methD D_Ledger_said (by decide) hr (B.cls _ (by decide)) (r_v 1) (r_cons (r_v 4) r_nil) (by decide +kernel))) (ad5 rfl (g_cons (g_name (pg_name (i:=5) sc_Keeper_rows_to_say_on.nd rfl (.inl rfl))) (g_cons (g_name (pg_name (i:=6) sc_Keeper_rows_to_say_on.nd rfl (.inl rfl))) g_nil)))
 (C3 (O6 (PW.pt (au1 (E9 ac6 ad4 (r_v 5) (k0 D_Ledger_turn (by decide) hr (B.cls _ (by decide)) (r_v 1) (by decide +kernel)) (D6 _)) (au1 (E9 (M9 hu) R0 (r_ix (r_v 6) bf6 (λ_ _=>rfl)) (r_v 2) (D6 _)) (au0 (E9 (ap6 hu) ay5 (r_fb 17 B (r_v 0)) (r_v 6) (by rfl))))))
 (C3 (Z6 (ah7 (r_v 3) (R7 (r_cons (r_v 5) (r_cons (r_v 6) r_nil))))))
 G2)))))
 (C3 (D4 (r_v 3)))))
theorem sc_Keeper_says_word_on:C7 ["self","ledger","leader","ready","rows","least","word"] ["self","ledger","leader","ready"] (C0 (B9 (top 30) 8)):=by walk_at "sc"
theorem ok_Keeper_says_word_on{fa:Addr}{fd:FuncData}(B:K4 K mg cm)(GL:aH0 mg)(D_Keeper_rows_to_say_on:P5 P w K mg base cm 5 "rows_to_say_on" 3 ["self","ledger","leader"] G3 3)(D_Ledger_turn:P5 P w K mg base cm 2 "turn" 1 ["self"] f_Ledger_turn 1)(D_Ledger_is_late:P5 P w K mg base cm 2 "is_late" 2 ["self","passing","chain"] E7 3)(D_Keeper_boxes_to_me:P5 P w K mg base cm 5 "boxes_to_me" 2 ["self","ledger"] D0 2)(F:L2.Fun K "says_word_on" "Keeper.says_word_on" (B9 (top 30) 8) fa fd):FnOk P w K mg base CX0 (4) fa fd ["self","ledger","leader","ready"] (SpF K cm G9 4):=
 D5 F sc_Keeper_says_word_on λ_ _ _ _ _ _ hr hu hu1=>by
  exact (C2 (L3 (i:=4) sc_Keeper_says_word_on.nd rfl (.inl rfl) (r_methD D_Keeper_rows_to_say_on (by decide) hr (B.cls _ (by decide)) (r_v 0) (r_cons (r_v 1) (r_cons (r_v 2) r_nil)) (by decide +kernel)))
 (C2 (O6 (PW.pt (b0 (E9 (M9 hu) R0 (r_v 4) (r_lst r_nil) (D6 _)) (V7 (E9 (S5 hu) Y8 (k0 D_Ledger_turn (by decide) hr (B.cls _ (by decide)) (r_v 1) (by decide +kernel)) (bn1 rfl (r_v 3) (r_bin J7 L9 r_int (bt1 rfl (M0 (N:=["turn","chain"]) [none,none] rfl (⟨rfl,rfl,by decide +kernel,by decide +kernel,fa_nil,(fa_cons (λh=>nomatch h) (fa_cons (λh=>nomatch h) (fa_cons (λh=>nomatch h) fa_nil)))⟩) (.own (.own .nil)) (i_seq (r_v 4)) (λ_ _ _ _=>(ad5 rfl (g_cons (g_name (pg_name (i:=0) (show List.Nodup (["turn","chain"]:List Str) from by decide +kernel) rfl (by walk_at "o2"))) (g_cons (g_name (pg_name (i:=1) (show List.Nodup (["turn","chain"]:List Str) from by decide +kernel) rfl (by walk_at "o2"))) g_nil)))) (λ_ _ _ _=>N9) (λ_ _ _ _=>(r_v 0))) rfl B.b_min)) rfl B.b_max) (D6 _)))))
 (C3 (D4 (r_lst r_nil)))
 G2)
 (C2 U9
 (C2 (L3 (i:=6) sc_Keeper_says_word_on.nd rfl (.inr rfl) (r_bin J7 L9 (R7 (r_cons (r_fb 17 B (r_v 0)) r_nil)) (r_v 5)))
 (C3 (D4 (M0 (N:=["box","ledger","word"]) [none,some 1,some 6] rfl (⟨rfl,rfl,by decide +kernel,by decide +kernel,(fa_cons rfl (fa_cons rfl fa_nil)),(fa_cons (by walk_at "fb") (fa_cons (by walk_at "fb") (fa_cons (by walk_at "fb") (fa_cons (by walk_at "fb") (fa_cons (by walk_at "fb") fa_nil)))))⟩) (.own (.free rfl (by walk_at "o2") (by walk_at "o3") rfl (by walk_at "o2") (.free rfl (by walk_at "o2") (by walk_at "o3") rfl (by walk_at "o2") .nil))) (i_seq (r_methD D_Keeper_boxes_to_me (by decide) hr (B.cls _ (by decide)) (r_v 0) (r_cons (r_v 1) r_nil) (by decide +kernel))) (λ_ _ _ _=>(g_name (pg_name (i:=0) (show List.Nodup (["box","ledger","word"]:List Str) from by decide +kernel) rfl (by walk_at "o2")))) (λ_ _ _ _=>(j8 (P9 (K6 (r_methD D_Ledger_is_late (by decide) hr (B.cls _ (by decide)) (r_v 1) (r_cons (r_v 0) (r_cons (r_v 2) r_nil)) (by decide +kernel)))))) (λ_ _ _ _=>(R7 (r_cons (n9 rfl GL.g_SAY) (r_cons (r_v 0) (r_cons (r_v 2) r_nil))))))))))))
theorem sc_Keeper_says:C7 ["self","ledger","ready","deeds","leader"] ["self","ledger"] (C0 (B9 (top 30) 6)):=by walk_at "sc"
theorem ok_Keeper_says{fa:Addr}{fd:FuncData}(B:K4 K mg cm)(D_Keeper_ready_turn:P5 P w K mg base cm 5 "ready_turn" 3 ["self","ledger"] E8 2)(D_Keeper_says_own_word:P5 P w K mg base cm 5 "says_own_word" 3 ["self","ledger","ready"] G6 3)(D_Keeper_says_word_on:P5 P w K mg base cm 5 "says_word_on" 4 ["self","ledger","leader","ready"] G9 4)(F:L2.Fun K "says" "Keeper.says" (B9 (top 30) 6) fa fd):FnOk P w K mg base CX0 (5) fa fd ["self","ledger"] (SpF K cm P3 2):=
 D5 F sc_Keeper_says λ_ _ _ _ _ _ hr hu hu1=>by
  exact (C2 (L3 (i:=2) sc_Keeper_says.nd rfl (.inl rfl) (r_methD D_Keeper_ready_turn (by decide) hr (B.cls _ (by decide)) (r_v 0) (r_cons (r_v 1) r_nil) (by decide +kernel)))
 (C2 (O6 (aE7 (r_v 2))
 (C3 (D4 (r_lst r_nil)))
 G2)
 (C2 (L3 (i:=3) sc_Keeper_says.nd rfl (.inl rfl) (r_lst r_nil))
 (C2 (o4 PassesOwn.never rfl (i_seq (r_fb 9 B (r_fb 6 B (r_v 1)))) (g_name (pg_name (i:=4) sc_Keeper_says.nd rfl (.inl rfl)))
 (C3 (O6 (E9 (M9 hu) R0 (r_v 4) (r_fb 17 B (r_v 0)) (D6 _))
 (C3 (Z6 (az4 (r_v 3) (r_methD D_Keeper_says_own_word (by decide) hr (B.cls _ (by decide)) (r_v 0) (r_cons (r_v 1) (r_cons (r_v 2) r_nil)) (by decide +kernel)))))
 (C3 (Z6 (az4 (r_v 3) (r_methD D_Keeper_says_word_on (by decide) hr (B.cls _ (by decide)) (r_v 0) (r_cons (r_v 1) (r_cons (r_v 4) (r_cons (r_v 2) r_nil))) (by decide +kernel))))))))
 (C3 (D4 (r_v 3)))))))
theorem ae1:C7 ["self","ledger"] ["self","ledger"] (C0 (B9 (top 30) 1)):=by walk_at "sc"
theorem ok_Keeper_deeds{fa:Addr}{fd:FuncData}(B:K4 K mg cm)(D_Keeper_lays:P5 P w K mg base cm 5 "lays" 4 ["self","ledger"] P2 2)(D_Keeper_says:P5 P w K mg base cm 5 "says" 5 ["self","ledger"] P3 2)(F:L2.Fun K "deeds" "Keeper.deeds" (B9 (top 30) 1) fa fd):FnOk P w K mg base CX0 (6) fa fd ["self","ledger"] (SpF K cm N7 2):=
 D5 F ae1 λ_ _ _ _ _ _ hr hu hu1=>by
  exact (C3 (D4 (r_bin J7 L9 (r_methD D_Keeper_lays (by decide) hr (B.cls _ (by decide)) (r_v 0) (r_cons (r_v 1) r_nil) (by decide +kernel)) (r_methD D_Keeper_says (by decide) hr (B.cls _ (by decide)) (r_v 0) (r_cons (r_v 1) r_nil) (by decide +kernel)))))
theorem an1:C7 ["_law_script","_law_k"] ["_law_script","_law_k"] (C0 (top 37)):=by walk_at "sc"
theorem ok_law_cell_at{fa:Addr}{fd:FuncData}(B:K4 K mg cm)(F:L2.Fun K "_law_cell_at" "_law_cell_at" (top 37) fa fd):FnOk P w K mg base CX0 (1) fa fd ["_law_script","_law_k"] (SpF K cm K0 2):=
 D5 F an1 λ_ _ _ _ _ _ hr hu hu1=>by
  exact (C2 (O6 (E9 ac6 ad4 (r_v 1) (r_len (r_v 0) rfl B.b_len) (D6 _))
 (C3 (D4 (r_ix (r_v 0) (r_v 1) (λ_ _=>rfl))))
 G2)
 (C3 (D4 r_int)))
theorem aw5:C7 ["_law_found","_law_due"] ["_law_found","_law_due"] (C0 (top 38)):=by walk_at "sc"
theorem ok_law_alike{fa:Addr}{fd:FuncData}(B:K4 K mg cm)(BS:mg "str" = none){kk:Nat}{rec:Fun}(D_law_alike:Def P w K mg base cm "_law_alike" kk ["_law_found","_law_due"] rec 2)(F:L2.Fun K "_law_alike" "_law_alike" (top 38) fa fd):FnOk P w K mg base CX0 (kk+1) fa fd ["_law_found","_law_due"] (SpF K cm (C9 rec) 2):=
 D5 F aw5 λ_ _ _ _ _ _ hr hu hu1=>by
  exact (C2 (O6 (aE7 (r_v 1))
 (C3 (D4 (br9 (r_v 0))))
 G2)
 (C2 (O6 (K6 (X4 (t:=.bool) B.kit (r_v 1) rfl B.b_isinstance rfl B.b_bool PyProof.Rows.boot_bool))
 (C3 (D4 (X3 (X4 (t:=.bool) B.kit (r_v 0) rfl B.b_isinstance rfl B.b_bool PyProof.Rows.boot_bool) (U3 (V4 (M9 hu) R0 (r_v 0) (r_v 1) (D6 _))))))
 G2)
 (C2 (O6 (K6 (X4 (t:=.int) B.kit (r_v 1) rfl B.b_isinstance rfl B.b_int PyProof.Rows.boot_int))
 (C3 (D4 (X3 (X4 (t:=.int) B.kit (r_v 0) rfl B.b_isinstance rfl B.b_int PyProof.Rows.boot_int) (X3 (bf3 (X4 (t:=.bool) B.kit (r_v 0) rfl B.b_isinstance rfl B.b_bool PyProof.Rows.boot_bool)) (U3 (V4 (M9 hu) R0 (r_v 0) (r_v 1) (D6 _)))))))
 G2)
 (C2 (O6 (K6 (aK2 (r_v 1) rfl B.b_isinstance rfl BS))
 (C3 (D4 (X3 (aK2 (r_v 0) rfl B.b_isinstance rfl BS) (U3 (V4 (M9 hu) R0 (r_v 0) (r_v 1) (D6 _))))))
 G2)
 (C2 (O6 (PW.pt (b0 (E9 (S5 hu) Y8 (X4 (t:=.tuple) B.kit (r_v 1) rfl B.b_isinstance rfl B.b_tuple PyProof.Rows.boot_tuple) (X4 (t:=.tuple) B.kit (r_v 0) rfl B.b_isinstance rfl B.b_tuple PyProof.Rows.boot_tuple) (D6 _)) (V7 (E9 (S5 hu) Y8 (X4 (t:=.list) B.kit (r_v 1) rfl B.b_isinstance rfl B.b_list PyProof.Rows.boot_list) (X4 (t:=.list) B.kit (r_v 0) rfl B.b_isinstance rfl B.b_list PyProof.Rows.boot_list) (D6 _)))))
 (C3 (D4 ab2))
 G2)
 (C2 (O6 (E9 (S5 hu) Y8 (r_len (r_v 0) rfl B.b_len) (r_len (r_v 1) rfl B.b_len) (D6 _))
 (C3 (D4 ab2))
 G2)
 (C3 (D4 (aq0 rfl (M0 (N:=["_law_k","_law_found","_law_due"]) [none,some 0,some 1] rfl (⟨rfl,rfl,by decide +kernel,by decide +kernel,(fa_cons rfl (fa_cons rfl fa_nil)),(fa_cons (by walk_at "fb") (fa_cons (by walk_at "fb") (fa_cons (by walk_at "fb") (fa_cons (by walk_at "fb") (fa_cons (by walk_at "fb") fa_nil)))))⟩) (.own (.free rfl (by walk_at "o2") (by walk_at "o3") rfl (by walk_at "o2") (.free rfl (by walk_at "o2") (by walk_at "o3") rfl (by walk_at "o2") .nil))) (i_rng1 rfl B.b_range (r_len (r_v 1) rfl B.b_len)) (λ_ _ _ _=>(g_name (pg_name (i:=0) (show List.Nodup (["_law_k","_law_found","_law_due"]:List Str) from by decide +kernel) rfl (by walk_at "o2")))) (λ_ _ _ _=>N9) (λ_ _ _ _=>(r_callD D_law_alike (Nat.le_refl _) hr rfl (r_cons (r_ix (r_v 1) (r_v 0) (λ_ _=>rfl)) (r_cons (r_ix (r_v 2) (r_v 0) (λ_ _=>rfl)) r_nil))))) rfl B.b_all)))))))))
theorem sc_law_mixed:C7 ["_law_cell","_law_k","_law_number"] ["_law_cell","_law_k"] (C0 (top 39)):=by walk_at "sc"
theorem ok_law_mixed{fa:Addr}{fd:FuncData}(B:K4 K mg cm)(F:L2.Fun K "_law_mixed" "_law_mixed" (top 39) fa fd):FnOk P w K mg base CX0 (1) fa fd ["_law_cell","_law_k"] (SpF K cm f_law_mixed 2):=
 D5 F sc_law_mixed λ_ _ _ _ _ _ hr hu hu1=>by
  exact (C2 (L3 (i:=2) sc_law_mixed.nd rfl (.inl rfl) (r_bin op_mod ok_mod (r_bin as2 at8 (r_bin J7 L9 (r_bin J7 L9 (r_v 0) (r_bin as2 at8 r_int (r_v 1))) r_int) r_int) r_int))
 (C3 (D4 (r_bin op_mod ok_mod (r_bin as2 at8 (r_v 2) (r_bin J7 L9 (r_bin a56 a77 (r_v 2) r_int) r_int)) r_int))))
theorem sc_law_passings:C7 ["_law_cell","_law_many","_law_order","_law_ring","_law_found","_law_giver","_law_taker","_law_x"] ["_law_cell","_law_many"] (C0 (top 40)):=by walk_at "sc"
theorem ok_law_passings{fa:Addr}{fd:FuncData}(B:K4 K mg cm)(D_law_mixed:Def P w K mg base cm "_law_mixed" 1 ["_law_cell","_law_k"] f_law_mixed 2)(F:L2.Fun K "_law_passings" "_law_passings" (top 40) fa fd):FnOk P w K mg base CX0 (2) fa fd ["_law_cell","_law_many"] (SpF K cm N8 2):=
 D5 F sc_law_passings λ_ _ _ _ _ _ hr hu hu1=>by
  exact (C2 (L3 (i:=2) sc_law_passings.nd rfl (.inr rfl) (az0 hu (M0 (N:=["_law_hand","_law_cell"]) [none,some 0] rfl (⟨rfl,rfl,by decide +kernel,by decide +kernel,(fa_cons rfl fa_nil),(fa_cons (by walk_at "fb") (fa_cons (by walk_at "fb") (fa_cons (by walk_at "fb") (fa_cons (by walk_at "fb") fa_nil))))⟩) (.own (.free rfl (by walk_at "o2") (by walk_at "o3") rfl (by walk_at "o2") .nil)) (i_rng1 rfl B.b_range (r_v 1)) (λ_ _ _ _=>(g_name (pg_name (i:=0) (show List.Nodup (["_law_hand","_law_cell"]:List Str) from by decide +kernel) rfl (by walk_at "o2")))) (λ_ _ _ _=>N9) (λ_ _ _ _=>(R7 (r_cons (r_callD D_law_mixed (by decide) hr rfl (r_cons (r_v 1) (r_cons (r_bin J7 L9 r_int (r_v 0)) r_nil))) (r_cons (r_v 0) r_nil))))) rfl B.b_sorted))
 (C2 (ai2 (N:=["_law_k","_law_order"]) [none,some 2] rfl (⟨rfl,rfl,by decide +kernel,by decide +kernel,(fa_cons rfl fa_nil),(fa_cons (λh=>nomatch h) (fa_cons (λh=>nomatch h) (fa_cons (λ_=>rfl) fa_nil)))⟩) (.own (.free rfl (by walk_at "o2") (by walk_at "o3") rfl (by walk_at "o2") .nil)) (i_rng1 rfl B.b_range (r_v 1)) (λ_ _ _ _=>(g_name (pg_name (i:=0) (show List.Nodup (["_law_k","_law_order"]:List Str) from by decide +kernel) rfl (by walk_at "o2")))) (λ_ _ _ _=>N9) (λ_ _ _ _=>(R7 (r_cons (r_ix (r_ix (r_v 1) (r_bin bi4 bl4 (r_v 0) r_int) (λ_ _=>rfl)) r_int (λ_ _=>rfl)) (r_cons (r_ix (r_ix (r_v 1) (r_v 0) (λ_ _=>rfl)) r_int (λ_ _=>rfl)) r_nil)))) (i:=3) sc_law_passings.nd rfl (.inl rfl))
 (C2 (L3 (i:=4) sc_law_passings.nd rfl (.inl rfl) (r_lst r_nil))
 (C2 (o4 PassesOwn.never rfl (i_rng1 rfl B.b_range (r_v 1)) (g_name (pg_name (i:=5) sc_law_passings.nd rfl (.inl rfl)))
 (C3 (o4 PassesOwn.never rfl (i_rng1 rfl B.b_range (r_v 1)) (g_name (pg_name (i:=6) sc_law_passings.nd rfl (.inl rfl)))
 (C2 (L3 (i:=7) sc_law_passings.nd rfl (.inl rfl) (r_callD D_law_mixed (by decide) hr rfl (r_cons (r_v 0) (r_cons (r_bin J7 L9 (r_bin J7 L9 r_int (r_bin as2 at8 r_int (r_v 5))) (r_v 6)) r_nil))))
 (C3 (O6 (PW.pt (au1 (E9 (S5 hu) Y8 (r_v 5) (r_v 6) (D6 _)) (au0 (PW.pt (b0 (E9 (s9 hu) ai0 (R7 (r_cons (r_v 5) (r_cons (r_v 6) r_nil))) (r_v 3) (by rfl)) (V7 (E9 (M9 hu) R0 (r_bin op_mod ok_mod (r_v 7) r_int) r_int (D6 _))))))))
 (C3 (Z6 (ah7 (r_v 4) (R7 (r_cons (r_v 5) (r_cons (r_v 6) r_nil))))))
 G2))))))
 (C3 (D4 (r_v 4)))))))
theorem aC2:C7 ["_law_cell","_law_many"] ["_law_cell","_law_many"] (C0 (top 41)):=by walk_at "sc"
theorem ok_law_some{fa:Addr}{fd:FuncData}(B:K4 K mg cm)(F:L2.Fun K "_law_some" "_law_some" (top 41) fa fd):FnOk P w K mg base CX0 (1) fa fd ["_law_cell","_law_many"] (SpF K cm U7 2):=
 D5 F aC2 λ_ _ _ _ _ _ hr hu hu1=>by
  exact (C3 (D4 (M0 (N:=["_law_hand","_law_cell"]) [none,some 0] rfl (⟨rfl,rfl,by decide +kernel,by decide +kernel,(fa_cons rfl fa_nil),(fa_cons (λh=>nomatch h) (fa_cons (λh=>nomatch h) (fa_cons (λ_=>rfl) fa_nil)))⟩) (.own (.free rfl (by walk_at "o2") (by walk_at "o3") rfl (by walk_at "o2") .nil)) (i_rng1 rfl B.b_range (r_v 1)) (λ_ _ _ _=>(g_name (pg_name (i:=0) (show List.Nodup (["_law_hand","_law_cell"]:List Str) from by decide +kernel) rfl (by walk_at "o2")))) (λ_ _ _ _=>(j8 (E9 (M9 hu) R0 (r_bin bi6 bn3 (r_bin bi5 bn2 (r_v 1) (r_v 0)) r_int) r_int (D6 _)))) (λ_ _ _ _=>(r_v 0)))))
theorem aw6:C7 ["_law_ledger","_law_deed"] ["_law_ledger","_law_deed"] (C0 (top 42)):=by walk_at "sc"
theorem ok_law_tried{fa:Addr}{fd:FuncData}(B:K4 K mg cm)(D_Ledger_take:P5 P w K mg base cm 2 "take" 6 ["self","deed"] K7 2)(F:L2.Fun K "_law_tried" "_law_tried" (top 42) fa fd):FnOk P w K mg base CX0 (7) fa fd ["_law_ledger","_law_deed"] (SpF K cm M8 2):=
 D5 F aw6 λ_ _ _ _ _ _ hr hu hu1=>by
  exact (C2 (bn9 (by rfl) (Z6 (r_methD D_Ledger_take (by decide) hr (B.cls _ (by decide)) (r_v 0) (r_cons (r_v 1) r_nil) (by decide +kernel))))
 (C3 (D4 ab2)))
theorem sc_law:C7 ["_law_script","_law_cell","_law_many","_law_passings_here","_law_me","_law_leaders","_law_low","_law_limits","_law_ledger","_law_keeper","_law_turns","_law_k","_law_passing","_law_to_me","_law_ready","_law_due","_law_turn","_law_found","_law_says","_law_deed"] ["_law_script"] (C0 (top 43)):=by walk_at "sc"
theorem ok_law{fa:Addr}{fd:FuncData}(B:K4 K mg cm)(D_law_cell_at:Def P w K mg base cm "_law_cell_at" 1 ["_law_script","_law_k"] K0 2)(D_law_mixed:Def P w K mg base cm "_law_mixed" 1 ["_law_cell","_law_k"] f_law_mixed 2)(D_law_passings:Def P w K mg base cm "_law_passings" 2 ["_law_cell","_law_many"] N8 2)(D_law_some:Def P w K mg base cm "_law_some" 1 ["_law_cell","_law_many"] U7 2)(D_Ledger_init:aO4 P w K mg base cm 2 "Ledger" 1 ["self","plan","free"] N2 3)(D_Plan_init:aO4 P w K mg base cm 1 "Plan" 4 ["self","web","leaders","limits"] Q0 4)(D_Web_init:aO4 P w K mg base cm 0 "Web" 5 ["self","number","passings"] Q1 3)(D_Keeper_init:aO4 P w K mg base cm 5 "Keeper" 1 ["self","me"] f_Keeper_init 2)(D_Keeper_deeds:P5 P w K mg base cm 5 "deeds" 6 ["self","ledger"] N7 2)(D_law_alike:Def P w K mg base cm "_law_alike" 6 ["_law_found","_law_due"] l3 2)(D_law_tried:Def P w K mg base cm "_law_tried" 7 ["_law_ledger","_law_deed"] M8 2)(D_Ledger_move:P5 P w K mg base cm 2 "move" 1 ["self"] P0 1)(F:L2.Fun K "law" "law" (top 43) fa fd):FnOk P w K mg base CX0 (8) fa fd ["_law_script"] (SpF K cm aL1 1):=
 D5 F sc_law λ_ _ _ _ _ _ hr hu hu1=>by
  refine @C2 _ _ _ _ _ _ ?_ ?_
  exact (L3 (i:=1) sc_law.nd rfl (.inr rfl) (r_callD D_law_cell_at (by decide) hr rfl (r_cons (r_v 0) (r_cons r_int r_nil))))
  refine @C2 _ _ _ _ _ _ ?_ ?_
  exact (L3 (i:=2) sc_law.nd rfl (.inl rfl) (r_bin J7 L9 r_int (r_bin op_mod ok_mod (r_callD D_law_mixed (by decide) hr rfl (r_cons (r_v 1) (r_cons r_int r_nil))) r_int)))
  refine @C2 _ _ _ _ _ _ ?_ ?_
  exact (L3 (i:=3) sc_law.nd rfl (.inl rfl) (r_callD D_law_passings (by decide) hr rfl (r_cons (r_v 1) (r_cons (r_v 2) r_nil))))
  refine @C2 _ _ _ _ _ _ ?_ ?_
  exact (L3 (i:=4) sc_law.nd rfl (.inr rfl) (r_bin op_mod ok_mod (r_callD D_law_mixed (by decide) hr rfl (r_cons (r_v 1) (r_cons r_int r_nil))) (r_v 2)))
  refine @C2 _ _ _ _ _ _ ?_ ?_
  exact (L3 (i:=5) sc_law.nd rfl (.inl rfl) (aG3 rfl (r_bin J7 L9 (r_callD D_law_some (by decide) hr rfl (r_cons (r_callD D_law_mixed (by decide) hr rfl (r_cons (r_v 1) (r_cons r_int r_nil))) (r_cons (r_v 2) r_nil))) (r_lst (r_cons (r_v 4) r_nil))) rfl B.b_sorted rfl B.b_set))
  refine @C2 _ _ _ _ _ _ ?_ ?_
  exact (L3 (i:=6) sc_law.nd rfl (.inr rfl) (r_ix (r_lst (r_cons r_int (r_cons r_int (r_cons r_int (r_cons r_int r_nil))))) (r_bin op_mod ok_mod (r_callD D_law_mixed (by decide) hr rfl (r_cons (r_v 1) (r_cons r_int r_nil))) r_int) (λ_ _=>rfl)))
  refine @C2 _ _ _ _ _ _ ?_ ?_
  exact (L3 (i:=7) sc_law.nd rfl (.inr rfl) (aQ6 rfl hu (M0 (N:=["_law_k","_law_passing","_law_low","_law_cell"]) [none,none,some 6,some 1] rfl (⟨rfl,rfl,by decide +kernel,by decide +kernel,(fa_cons rfl (fa_cons rfl fa_nil)),(fa_cons (by walk_at "fb") (fa_cons (by walk_at "fb") (fa_cons (by walk_at "fb") (fa_cons (by walk_at "fb") (fa_cons (by walk_at "fb") (fa_cons (by walk_at "fb") fa_nil))))))⟩) (.own (.own (.free rfl (by walk_at "o2") (by walk_at "o3") rfl (by walk_at "o2") (.free rfl (by walk_at "o2") (by walk_at "o3") rfl (by walk_at "o2") .nil)))) (aX3 rfl B.b_enumerate (r_v 3)) (λ_ _ _ _=>(ad5 rfl (g_cons (g_name (pg_name (i:=0) (show List.Nodup (["_law_k","_law_passing","_law_low","_law_cell"]:List Str) from by decide +kernel) rfl (by walk_at "o2"))) (g_cons (g_name (pg_name (i:=1) (show List.Nodup (["_law_k","_law_passing","_law_low","_law_cell"]:List Str) from by decide +kernel) rfl (by walk_at "o2"))) g_nil)))) (λ_ _ _ _=>N9) (λ_ _ _ _=>(R7 (r_cons (r_v 1) (r_cons (r_bin J7 L9 (r_v 2) (r_bin op_mod ok_mod (r_callD D_law_mixed (by decide) hr rfl (r_cons (r_v 3) (r_cons (r_bin J7 L9 r_int (r_v 0)) r_nil))) r_int)) r_nil))))) rfl B.b_dict))
  refine @C2 _ _ _ _ _ _ ?_ ?_
  exact (L3 (i:=8) sc_law.nd rfl (.inl rfl) (ae7 D_Ledger_init (by decide) hr rfl (r_cons (ae7 D_Plan_init (by decide) hr rfl (r_cons (ae7 D_Web_init (by decide) hr rfl (r_cons (r_v 2) (r_cons (r_v 3) r_nil))) (r_cons (r_v 5) (r_cons (r_v 7) r_nil)))) (r_cons (M0 (N:=["_law_hand","_law_me"]) [none,some 4] rfl (⟨rfl,rfl,by decide +kernel,by decide +kernel,(fa_cons rfl fa_nil),(fa_cons (λh=>nomatch h) (fa_cons (λh=>nomatch h) (fa_cons (λ_=>rfl) fa_nil)))⟩) (.own (.free rfl (by walk_at "o2") (by walk_at "o3") rfl (by walk_at "o2") .nil)) (i_rng1 rfl B.b_range (r_v 2)) (λ_ _ _ _=>(g_name (pg_name (i:=0) (show List.Nodup (["_law_hand","_law_me"]:List Str) from by decide +kernel) rfl (by walk_at "o2")))) (λ_ _ _ _=>(j8 (E9 (S5 hu) Y8 (r_v 0) (r_v 1) (D6 _)))) (λ_ _ _ _=>(r_v 0))) r_nil))))
  refine @C2 _ _ _ _ _ _ ?_ ?_
  exact (L3 (i:=9) sc_law.nd rfl (.inl rfl) (ae7 D_Keeper_init (by decide) hr rfl (r_cons (r_v 4) r_nil)))
  refine @C2 _ _ _ _ _ _ ?_ ?_
  exact (L3 (i:=10) sc_law.nd rfl (.inr rfl) aj4)
  refine @C2 _ _ _ _ _ _ ?_ ?_
  exact (o4 PassesOwn.never rfl (aX3 rfl B.b_enumerate (r_v 3)) (ad5 rfl (g_cons (g_name (pg_name (i:=11) sc_law.nd rfl (.inl rfl))) (g_cons (g_name (pg_name (i:=12) sc_law.nd rfl (.inl rfl))) g_nil)))
 (C3 (O6 (E9 (S5 hu) Y8 (r_ix (r_v 12) r_int (λ_ _=>rfl)) (r_v 4) (D6 _))
 (C3 (aF6 hu1 (r_v 10) (r_v 12) (r_bin J7 L9 r_int (r_bin op_mod ok_mod (r_callD D_law_mixed (by decide) hr rfl (r_cons (r_callD D_law_cell_at (by decide) hr rfl (r_cons (r_v 0) (r_cons r_int r_nil))) (r_cons (r_v 11) r_nil))) (r_ix (r_lst (r_cons r_int (r_cons r_int (r_cons r_int (r_cons r_int r_nil))))) (r_bin op_mod ok_mod (r_callD D_law_mixed (by decide) hr rfl (r_cons (r_v 1) (r_cons r_int r_nil))) r_int) (λ_ _=>rfl))))))
 G2)))
  refine @C2 _ _ _ _ _ _ ?_ ?_
  exact (ai2 (N:=["_law_passing","_law_me"]) [none,some 4] rfl (⟨rfl,rfl,by decide +kernel,by decide +kernel,(fa_cons rfl fa_nil),(fa_cons (λh=>nomatch h) (fa_cons (λh=>nomatch h) (fa_cons (λ_=>rfl) fa_nil)))⟩) (.own (.free rfl (by walk_at "o2") (by walk_at "o3") rfl (by walk_at "o2") .nil)) (i_seq (r_v 3)) (λ_ _ _ _=>(g_name (pg_name (i:=0) (show List.Nodup (["_law_passing","_law_me"]:List Str) from by decide +kernel) rfl (by walk_at "o2")))) (λ_ _ _ _=>(j8 (E9 (M9 hu) R0 (r_ix (r_v 0) r_int (λ_ _=>rfl)) (r_v 1) (D6 _)))) (λ_ _ _ _=>(r_v 0)) (i:=13) sc_law.nd rfl (.inl rfl))
  refine @C2 _ _ _ _ _ _ ?_ ?_
  exact (L3 (i:=14) sc_law.nd rfl (.inr rfl) (r_bin J7 L9 r_int (bt0 rfl (M0 (N:=["_law_passing","_law_turns"]) [none,some 10] rfl (⟨rfl,rfl,by decide +kernel,by decide +kernel,(fa_cons rfl fa_nil),(fa_cons (λh=>nomatch h) (fa_cons (λh=>nomatch h) (fa_cons (λ_=>rfl) fa_nil)))⟩) (.own (.free rfl (by walk_at "o2") (by walk_at "o3") rfl (by walk_at "o2") .nil)) (i_seq (r_v 13)) (λ_ _ _ _=>(g_name (pg_name (i:=0) (show List.Nodup (["_law_passing","_law_turns"]:List Str) from by decide +kernel) rfl (by walk_at "o2")))) (λ_ _ _ _=>N9) (λ_ _ _ _=>(ab8 hu1 (r_v 1) (r_v 0) (λ_ _=>rfl)))) rfl B.b_max)))
  refine @C2 _ _ _ _ _ _ ?_ ?_
  exact (ai2 (N:=["_law_passing","_law_me"]) [none,some 4] rfl (⟨rfl,rfl,by decide +kernel,by decide +kernel,(fa_cons rfl fa_nil),(fa_cons (λh=>nomatch h) (fa_cons (λh=>nomatch h) (fa_cons (λ_=>rfl) fa_nil)))⟩) (.own (.free rfl (by walk_at "o2") (by walk_at "o3") rfl (by walk_at "o2") .nil)) (i_seq (r_v 13)) (λ_ _ _ _=>(g_name (pg_name (i:=0) (show List.Nodup (["_law_passing","_law_me"]:List Str) from by decide +kernel) rfl (by walk_at "o2")))) (λ_ _ _ _=>N9) (λ_ _ _ _=>(by refine @R7 _ _ _ _ _ _ ?_;refine @r_cons _ _ _ _ _ _ ?_ ?_ (by exact E5 rfl);exact a02;refine @r_cons _ _ _ _ _ _ ?_ ?_ (by exact E5 rfl);exact (r_v 0);refine @r_cons _ _ _ _ _ _ ?_ ?_ (by exact E5 rfl);refine @R7 _ _ _ _ _ _ ?_;refine @r_cons _ _ _ _ _ _ ?_ ?_ (by exact E5 rfl);exact (r_v 1);exact r_nil;exact r_nil)) (i:=15) sc_law.nd rfl (.inl rfl))
  refine @C2 _ _ _ _ _ _ ?_ ?_
  exact (O6 (K6 (bf7 rfl (M0 (N:=["_law_passing","_law_ready","_law_limits"]) [none,some 14,some 7] rfl (⟨rfl,rfl,by decide +kernel,by decide +kernel,(fa_cons rfl (fa_cons rfl fa_nil)),(fa_cons (λh=>nomatch h) (fa_cons (λh=>nomatch h) (fa_cons (λ_=>rfl) (fa_cons (λ_=>rfl) fa_nil))))⟩) (.own (.free rfl (by walk_at "o2") (by walk_at "o3") rfl (by walk_at "o2") (.free rfl (by walk_at "o2") (by walk_at "o3") rfl (by walk_at "o2") .nil))) (i_seq (r_v 13)) (λ_ _ _ _=>(g_name (pg_name (i:=0) (show List.Nodup (["_law_passing","_law_ready","_law_limits"]:List Str) from by decide +kernel) rfl (by walk_at "o2")))) (λ_ _ _ _=>N9) (λ_ _ _ _=>(V4 bd9 bf1 (r_v 1) (r_bin J7 L9 (ab8 hu1 (r_v 2) (r_v 0) (λ_ _=>rfl)) r_int) (D6 _)))) rfl B.b_any))
 (C3 (L3 (i:=15) sc_law.nd rfl (.inl rfl) (r_lst r_nil)))
 G2)
  refine @C2 _ _ _ _ _ _ ?_ ?_
  refine @o4 _ _ _ _ _ _ _ _ _ ?_ ?_ ?_ ?_ ?_ ?_
  exact PassesOwn.never
  exact rfl
  exact (bm0 rfl B.b_range r_int (r_bin J7 L9 (r_bin J7 L9 r_int r_int) (r_bin op_mod ok_mod (r_callD D_law_cell_at (by decide) hr rfl (r_cons (r_v 0) (r_cons r_int r_nil))) r_int)))
  exact (g_name (pg_name (i:=16) sc_law.nd rfl (.inr rfl)))
  refine @C2 _ _ _ _ _ _ ?_ ?_
  exact (L3 (i:=17) sc_law.nd rfl (.inl rfl) (r_methD D_Keeper_deeds (by decide) hr (B.cls _ (by decide)) (r_v 9) (r_cons (r_v 8) r_nil) (by decide +kernel)))
  refine @C2 _ _ _ _ _ _ ?_ ?_
  exact (ai2 (N:=["_law_deed"]) [none] rfl (⟨rfl,rfl,by decide +kernel,by decide +kernel,fa_nil,(fa_cons (λh=>nomatch h) (fa_cons (λh=>nomatch h) fa_nil))⟩) (.own .nil) (i_seq (r_v 17)) (λ_ _ _ _=>(g_name (pg_name (i:=0) (show List.Nodup (["_law_deed"]:List Str) from by decide +kernel) rfl (by walk_at "o2")))) (λ_ _ _ _=>(j8 (E9 (M9 hu) R0 (r_ix (r_v 0) r_int (λ_ _=>rfl)) a02 (D6 _)))) (λ_ _ _ _=>(r_v 0)) (i:=18) sc_law.nd rfl (.inl rfl))
  refine @C2 _ _ _ _ _ _ ?_ ?_
  refine @O6 _ _ _ _ _ _ _ _ _ ?_ ?_ ?_
  refine @P9 _ _ _ _ _ ?_
  refine @K6 _ _ _ _ ?_ ?_
  refine @r_callD _ _ ?_ ?_ ?_ ?_ ?_ _ _ _ _ _ _ ?D ?hk ?hr ?_ ?_ ?_ ?_ ?_
  case D=>exact D_law_alike
  case hr=>exact hr
  case hk=>exact (by decide)
  exact rfl
  refine @r_cons _ _ _ _ _ _ ?_ ?_ ?_
  exact (r_v 18)
  refine @r_cons _ _ _ _ _ _ ?_ ?_ ?_
  refine @r_ix _ _ _ _ _ _ _ ?_ ?_ ?_
  refine @r_lst _ _ _ _ _ ?_;refine @r_cons _ _ _ _ _ _ ?_ ?_ (by exact E5 rfl);refine @r_lst _ _ _ _ _ ?_;exact r_nil;refine @r_cons _ _ _ _ _ _ ?_ ?_ (by exact E5 rfl);exact (r_v 15);exact r_nil
  exact (bn5 (V4 (M9 hu) R0 (r_v 16) (r_v 14) (D6 _)) rfl B.b_int)
  exact (λ_ _=>rfl)
  exact r_nil
  exact E5 rfl
  exact E5 rfl
  decide
  exact E5 rfl
  rfl
  exact λ_=>rfl
  exact (C3 (D4 ab2))
  exact G2
  exact (C2 (o4 PassesOwn.never rfl (i_seq (r_bin J7 L9 (r_v 17) (M0 (N:=["_law_passing","_law_turns","_law_turn"]) [none,some 10,some 16] rfl (⟨rfl,rfl,by decide +kernel,by decide +kernel,(fa_cons rfl (fa_cons rfl fa_nil)),(fa_cons (λh=>nomatch h) (fa_cons (λh=>nomatch h) (fa_cons (λ_=>rfl) (fa_cons (λ_=>rfl) fa_nil))))⟩) (.own (.free rfl (by walk_at "o2") (by walk_at "o3") rfl (by walk_at "o2") (.free rfl (by walk_at "o2") (by walk_at "o3") rfl (by walk_at "o2") .nil))) (i_seq (r_v 3)) (λ_ _ _ _=>(g_name (pg_name (i:=0) (show List.Nodup (["_law_passing","_law_turns","_law_turn"]:List Str) from by decide +kernel) rfl (by walk_at "o2")))) (λ_ _ _ _=>(j8 (E9 (M9 hu) R0 (av2 hu1 (r_v 1) (r_v 0)) (r_v 2) (D6 _)))) (λ_ _ _ _=>(R7 (r_cons a02 (r_cons (r_v 0) r_nil))))))) (g_name (pg_name (i:=19) sc_law.nd rfl (.inl rfl)))
 (C3 (O6 (P9 (K6 (r_callD D_law_tried (by decide) hr rfl (r_cons (r_v 8) (r_cons (r_v 19) r_nil)))))
 (C3 (D4 ab2))
 G2)))
 (C3 (Z6 (k0 D_Ledger_move (by decide) hr (B.cls _ (by decide)) (r_v 8) (by decide +kernel)))))
  exact λ_=>rfl
  exact (C3 (D4 ab2))
end
end Ws
namespace Ws
open PySem PySem.W L2
def nsB(K:Frag)(n:Str)(f:Addr):Bool:=decide (nsIn K mainGlobals n=some (some (.ref f)))
def noB(K:Frag)(n:Str):Bool:=decide (nsIn K mainGlobals n=some none)
def glB(K:Frag)(n:Str)(v:Value):Bool:=decide (nsIn K mainGlobals n=some (some v))
def fiB(K:Frag)(C:Addr)(n:Str)(v:Option Value):Bool:=decide (findIn K (.ref C) n=some v)
def mtB(K:Frag)(C:Addr)(n:Str)(f:Addr):Bool:=fiB K C n (some (.ref f))&&isFn K (.ref f)
def ckB(K:Frag)(cd:Value)(q:Str)(f:Addr):Bool:=codeIn K cd q&&keepIn K (.ref f)
def clB(K:Frag)(C:Addr):Bool:=plainGet K C Str.empty&&hasDictIn K C&&plainOver K C&&fiB K C "__setattr__" (some (.builtin "object.__setattr__"))&&(List.range 19).all λj=>fiB K C (fnm j) none
def mkB(K:Frag)(C:Addr):Bool:=makesIn K C&&keepIn K (.ref C)
def blts:List Str:=["len","range","list","sorted","isinstance","int","bool","tuple","enumerate","reversed","max","min","all","any","set","zip","dict"]
theorem bx4{l:List Bool}(h:l.all id=true)(i:Nat){b:Bool}(hb:l[i]?=some b):b=true:=List.all_eq_true.mp h b (List.mem_of_getElem? hb)
theorem lat{α:Type}{l m:List α}(h:l=m)(i:Nat){a b:α}(ha:l[i]?=some a)(hb:m[i]?=some b):a=b:=by rw [h,hb] at ha;exact (Option.some.inj ha).symm
theorem an2{a b:Bool}(h:(a&&b)=true):a=true/\b=true:=Bool.and_eq_true_iff.mp h
structure En(P:Program)(w:World)(K:Frag)(mg:Str->Option Value)(base:Heap)(cm:Nat->Addr):Prop where
 ex:∃h:Heap,K.In h/\h.Ns mainGlobals mg
section
variable{P:Program}{w:World}{K:Frag}{mg:Str->Option Value}{base:Heap}{cm:Nat->Addr}{n q:Str}{st:Stmt}{fa T:Addr}{fd:FuncData}{k ar c:Nat}{ps:List Str}{f:Fun}{oc kV doc pm cdv ct tc:Value}{od an td:Option Addr}{osl ts:Array (Option Value)}{items:Array Value}{tn:Nat}
theorem En.of(E:En P w K mg base cm){v:Value}(h:glB K n v=true):mg n=some v:=by
 obtain⟨hp,X,G⟩:=E.ex
 exact mg_of X G (of_decide_eq_true h)
theorem En.ns(E:En P w K mg base cm){a:Addr}(h:nsB K n a=true):mg n=some (.ref a):=E.of h
theorem En.no(E:En P w K mg base cm)(h:noB K n=true):mg n=none:=by
 obtain⟨hp,X,G⟩:=E.ex
 exact mg_none_of X G (of_decide_eq_true h)
theorem mkF{x:Bool}(l:K.lookup fa=some ⟨oc,od,.func (fnOf n q (C5 st) (C4 st) (C0 st) .none kV doc pm an cdv ct),osl⟩)(b:(x&&ckB K cdv q fa)=true):L2.Fun K n q st fa (fnOf n q (C5 st) (C4 st) (C0 st) .none kV doc pm an cdv ct):=
 bk0 l (an2 (an2 b).2).1 (an2 (an2 b).2).2
theorem bx5{x:Bool}(l:K.lookup fa=some ⟨oc,od,.func (fnOf n q (C5 st) (C4 st) (C0 st) (.ref T) kV doc pm an cdv ct),osl⟩)(t:K.lookup T=some ⟨tc,td,.seq items tn,ts⟩)(b:(x&&ckB K cdv q fa)=true):FunD K n q st fa (fnOf n q (C5 st) (C4 st) (C0 st) (.ref T) kV doc pm an cdv ct) items:=
 a92 l (an2 (an2 b).2).1 (an2 (an2 b).2).2 t
theorem bd6(hb:(mtB K (cm c) n fa&&ckB K cdv q fa)=true):aN2 K (cm c) n fa:=⟨of_decide_eq_true (an2 (an2 hb).1).1,(an2 (an2 hb).1).2,(an2 (an2 hb).2).2⟩
theorem bu6(hb:(mtB K (cm c) "__init__" fa&&ckB K cdv q fa)=true)(hm:mkB K (cm c)=true):L2.Mk K (cm c) fa:=⟨(an2 hm).1,of_decide_eq_true (an2 (an2 hb).1).1,(an2 (an2 hb).1).2,(an2 hm).2⟩
variable(E:En P w K mg base cm)
include E
theorem mkD(O:FnOk P w K mg base CX0 k fa fd ps (SpF K cm f ar))(hb:(nsB K n fa&&ckB K cdv q fa)=true)(b:L2.Binds K fd ps [])(hl:∀vs A v A',f vs A=.ok v A'->vs.length=ar:=by exact λ_ _ _ _=>aE8):Def P w K mg base cm n k ps f ar:=⟨⟨_,_,O,E.ns (an2 hb).1,(an2 (an2 hb).2).2,b⟩,hl⟩
theorem mkM(O:FnOk P w K mg base CX0 k fa fd ps (SpF K cm f ar))(hb:(mtB K (cm c) n fa&&ckB K cdv q fa)=true)(b:L2.Binds K fd ps [])(hl:∀vs A v A',f vs A=.ok v A'->vs.length=ar:=by exact λ_ _ _ _=>aE8):P5 P w K mg base cm c n k ps f ar:=⟨⟨_,_,O,bd6 hb,b⟩,hl⟩
theorem mkC(O:FnOk P w K mg base CX0 k fa fd ps (SpF K cm f ar))(hb:(mtB K (cm c) "__init__" fa&&ckB K cdv q fa)=true)(hm:mkB K (cm c)=true)(hn:nsB K n (cm c)=true)(b:L2.Binds K fd ps [])(hv:∀vs A v A',f vs A=.ok v A'->v=.non)(hl:∀vs A v A',f vs A=.ok v A'->vs.length=ar:=by exact λ_ _ _ _=>aE8):aO4 P w K mg base cm c n k ps f ar:=⟨⟨_,_,O,bu6 hb hm,E.ns hn,b⟩,λvs A v A' h=>⟨hl vs A v A' h,hv vs A v A' h⟩⟩
theorem base_of(h1:((List.range 7).all λc=>clB K (cm c))=true)(h2:blts.all (noB K)=true):K4 K mg cm:=by
 have hc:∀c,c<7->clB K (cm c)=true:=λc hc=>List.all_eq_true.mp h1 c (List.mem_range.mpr hc)
 have hn:∀b∈blts,mg b=none:=λb hb=>E.no (List.all_eq_true.mp h2 b hb)
 refine⟨a86 K,λc h7=>?_,λc i hi h7=>?_,hn _ (by decide),hn _ (by decide),hn _ (by decide),hn _ (by decide),hn _ (by decide),hn _ (by decide),hn _ (by decide),hn _ (by decide),hn _ (by decide),hn _ (by decide),hn _ (by decide),hn _ (by decide),hn _ (by decide),hn _ (by decide),hn _ (by decide),hn _ (by decide),hn _ (by decide)⟩
 ·have:=hc c h7
  unfold clB at this
  simp only [Bool.and_eq_true] at this
  exact⟨this.1.1.1.1,this.1.1.1.2,this.1.1.2,of_decide_eq_true this.1.2⟩
 ·have:=hc c h7
  unfold clB at this
  simp only [Bool.and_eq_true] at this
  have h:=List.all_eq_true.mp this.2 i (List.mem_range.mpr hi)
  show findIn K (.ref (cm c)) (fnm i)=some none
  exact of_decide_eq_true h
omit E
end
end Ws
namespace Ws
open PySem
theorem ae2{vs:List PV}{A A':PHp}{v:PV}(h:N2 vs A=.ok v A'):v=.non:=au7 (L8 O1 (L8 O1 (L8 O1 (L8 O1 (L8 O1 (L8 O1 O1)))))) h
theorem ao2{vs:List PV}{A A':PHp}{v:PV}(h:Q0 vs A=.ok v A'):v=.non:=au7 (L8 (au6 n4 w9) (L8 aJ7 (L8 (bb2 (L8 (au6 n4 w9) a03)) (L8 O1 (L8 O1 (L8 O1 (L8 O1 O1))))))) h
theorem aw7{vs:List PV}{A A':PHp}{v:PV}(h:Q1 vs A=.ok v A'):v=.non:=au7 (L8 (au6 n4 w9) (L8 aJ7 (L8 (au6 n4 w9) (L8 O1 O1)))) h
theorem ae3{vs:List PV}{A A':PHp}{v:PV}(h:f_Keeper_init vs A=.ok v A'):v=.non:=au7 O1 h
end Ws
theorem arz{P:List Value->Prop}(h:P [])(us:List Value)(e:us.length=0):P us:=by
 cases us with
 | nil=>exact h
 | cons x us=>exact absurd e (Nat.succ_ne_zero _)
theorem ar1{P:List Value->Prop}(h:∀x,P [x])(us:List Value)(e:us.length=1):P us:=by
 cases us with
 | nil=>exact absurd e (by decide)
 | cons x us=>exact arz (P:=λus=>P (x::us)) (h x) us (Nat.succ.inj e)
theorem ar2{P:List Value->Prop}(h:∀x y,P [x,y])(us:List Value)(e:us.length=2):P us:=by
 cases us with
 | nil=>exact absurd e (by decide)
 | cons x us=>exact ar1 (P:=λus=>P (x::us)) (h x) us (Nat.succ.inj e)
theorem ar3{P:List Value->Prop}(h:∀x y z,P [x,y,z])(us:List Value)(e:us.length=3):P us:=by
 cases us with
 | nil=>exact absurd e (by decide)
 | cons x us=>exact ar2 (P:=λus=>P (x::us)) (h x) us (Nat.succ.inj e)
theorem ar4{P:List Value->Prop}(h:∀x y z u,P [x,y,z,u])(us:List Value)(e:us.length=4):P us:=by
 cases us with
 | nil=>exact absurd e (by decide)
 | cons x us=>exact ar3 (P:=λus=>P (x::us)) (h x) us (Nat.succ.inj e)
local macro_rules | `(tactic| walk_at "b1")=>`(tactic| exact λ_ _ _ _ _ _=>ar1 λ_=>rfl)
local macro_rules | `(tactic| walk_at "b2")=>`(tactic| exact λ_ _ _ _ _ _=>ar2 λ_ _=>rfl)
local macro_rules | `(tactic| walk_at "b3")=>`(tactic| exact λ_ _ _ _ _ _=>ar3 λ_ _ _=>rfl)
local macro_rules | `(tactic| walk_at "b4")=>`(tactic| exact λ_ _ _ _ _ _=>ar4 λ_ _ _ _=>rfl)
lay_quick PySem.Challenge.pw_wordswap_k33_own_word
namespace Ws
open PySem PySem.W L2
set_option Elab.async false
set_option maxHeartbeats 0
abbrev kps:List Nat:=[0,2,3,4,5,6,7,8,9,11,12,13,14,15,16,17,18,20,22,23,24,25,26,27,29,30,32,33,34,35,37,38,39,40,41,42,43]
abbrev lse:List Str:=[]
abbrev xt(p:Program)(s:Shared):Bool:=xlAt (view p kps) [] s&&recOk (RowW.records PySem.Challenge.rw_wordswap_k33_own_word.row.toRowW) s
def C6(p:Program)(i:Nat):Stmt:=p.main.body.getD i (.Pass ⟨0,0,0,0⟩)
def cmA(i:Nat):Addr:=([223,524,374,223,223,467,223]:List Nat).getD i 0
abbrev bs(K:Frag):List Bool:=[(List.range 7).all λc=>clB K (cmA c),blts.all (noB K),nsB K "Web" (cmA 0),nsB K "Ledger" (cmA 2),nsB K "Keeper" (cmA 5),nsB K "Plan" (cmA 1),glB K "FEWEST_HANDS" (.int (2) 337),glB K "MOST_HANDS" (.int (6) 339),glB K "LAY" (.str "lay" 475),glB K "SAY" (.str "say" 477),noB K "str",nsB K "_law_cell_at" 535&&ckB K (.ref 534) "_law_cell_at" 535,nsB K "_law_mixed" 547&&ckB K (.ref 546) "_law_mixed" 547,nsB K "_law_passings" 552&&ckB K (.ref 551) "_law_passings" 552,nsB K "_law_some" 557&&ckB K (.ref 556) "_law_some" 557,mtB K (cmA 2) "__init__" 266&&ckB K (.ref 265) "Ledger.__init__" 266,nsB K "is_rising" 474&&ckB K (.ref 473) "is_rising" 474,nsB K "is_whole" 132&&ckB K (.ref 131) "is_whole" 132,nsB K "is_hand" 139&&ckB K (.ref 138) "is_hand" 139,nsB K "are_leaders" 479&&ckB K (.ref 478) "are_leaders" 479,nsB K "is_limit" 486&&ckB K (.ref 485) "is_limit" 486,mtB K (cmA 1) "__init__" 500&&ckB K (.ref 499) "Plan.__init__" 500,nsB K "is_number_of_hands" 146&&ckB K (.ref 145) "is_number_of_hands" 146,nsB K "is_passing" 153&&ckB K (.ref 152) "is_passing" 153,nsB K "first_wrong_passing" 160&&ckB K (.ref 159) "first_wrong_passing" 160,mtB K (cmA 0) "__init__" 174&&ckB K (.ref 173) "Web.__init__" 174,mtB K (cmA 5) "__init__" 413&&ckB K (.ref 412) "Keeper.__init__" 413,mtB K (cmA 1) "leads" 514&&ckB K (.ref 513) "Plan.leads" 514,mtB K (cmA 2) "lay_turn" 308&&ckB K (.ref 307) "Ledger.lay_turn" 308,mtB K (cmA 0) "givers_of" 179&&ckB K (.ref 178) "Web.givers_of" 179,mtB K (cmA 5) "boxes_to_me" 425&&ckB K (.ref 424) "Keeper.boxes_to_me" 425,mtB K (cmA 5) "ready_turn" 435&&ckB K (.ref 434) "Keeper.ready_turn" 435,mtB K (cmA 2) "turn" 273&&ckB K (.ref 272) "Ledger.turn" 273,mtB K (cmA 0) "takers_of" 184&&ckB K (.ref 183) "Web.takers_of" 184,mtB K (cmA 5) "boxes_of_mine" 430&&ckB K (.ref 429) "Keeper.boxes_of_mine" 430,mtB K (cmA 5) "lays" 440&&ckB K (.ref 439) "Keeper.lays" 440,mtB K (cmA 1) "limit" 507&&ckB K (.ref 506) "Plan.limit" 507,mtB K (cmA 2) "is_late" 322&&ckB K (.ref 321) "Ledger.is_late" 322,mtB K (cmA 5) "says_own_word" 452&&ckB K (.ref 451) "Keeper.says_own_word" 452,mtB K (cmA 2) "said" 364&&ckB K (.ref 363) "Ledger.said" 364,mtB K (cmA 5) "rows_to_say_on" 464&&ckB K (.ref 463) "Keeper.rows_to_say_on" 464,mtB K (cmA 5) "says_word_on" 457&&ckB K (.ref 456) "Keeper.says_word_on" 457,mtB K (cmA 5) "says" 447&&ckB K (.ref 446) "Keeper.says" 447,mtB K (cmA 5) "deeds" 420&&ckB K (.ref 419) "Keeper.deeds" 420,nsB K "_law_alike" 540&&ckB K (.ref 539) "_law_alike" 540,nsB K "is_box" 239&&ckB K (.ref 238) "is_box" 239,nsB K "is_chain" 232&&ckB K (.ref 231) "is_chain" 232,nsB K "is_chain_of" 244&&ckB K (.ref 243) "is_chain_of" 244,nsB K "is_deed" 251&&ckB K (.ref 250) "is_deed" 251,mtB K (cmA 2) "take_lay" 294&&ckB K (.ref 293) "Ledger.take_lay" 294,mtB K (cmA 2) "is_laid_ahead" 315&&ckB K (.ref 314) "Ledger.is_laid_ahead" 315,mtB K (cmA 2) "is_said_ahead" 336&&ckB K (.ref 335) "Ledger.is_said_ahead" 336,mtB K (cmA 2) "is_sayable" 329&&ckB K (.ref 328) "Ledger.is_sayable" 329,mtB K (cmA 2) "take_say" 301&&ckB K (.ref 300) "Ledger.take_say" 301,mtB K (cmA 2) "take" 287&&ckB K (.ref 286) "Ledger.take" 287,nsB K "_law_tried" 564&&ckB K (.ref 563) "_law_tried" 564,mtB K (cmA 2) "move" 280&&ckB K (.ref 279) "Ledger.move" 280,nsB K "law" 569&&ckB K (.ref 568) "law" 569,mkB K (cmA 0),mkB K (cmA 2),mkB K (cmA 5),mkB K (cmA 1)]
abbrev os(K:Frag):List (Option Obj):=[K.lookup 535,K.lookup 547,K.lookup 552,K.lookup 557,K.lookup 266,K.lookup 259,K.lookup 474,K.lookup 132,K.lookup 139,K.lookup 479,K.lookup 486,K.lookup 500,K.lookup 146,K.lookup 153,K.lookup 160,K.lookup 174,K.lookup 413,K.lookup 514,K.lookup 308,K.lookup 179,K.lookup 425,K.lookup 435,K.lookup 273,K.lookup 184,K.lookup 430,K.lookup 440,K.lookup 507,K.lookup 322,K.lookup 452,K.lookup 364,K.lookup 464,K.lookup 457,K.lookup 447,K.lookup 420,K.lookup 540,K.lookup 239,K.lookup 232,K.lookup 244,K.lookup 251,K.lookup 294,K.lookup 315,K.lookup 336,K.lookup 329,K.lookup 301,K.lookup 287,K.lookup 564,K.lookup 280,K.lookup 569]
abbrev ov(p:Program):List (Option Obj):=[some ⟨(.type "function"),none,.func (fnOf "_law_cell_at" "_law_cell_at" (C5 (C6 p 37)) (C4 (C6 p 37)) (C0 (C6 p 37)) .none .none .none (.str "law_wordswap_k33_own_word" 861) none (.ref 534) .none),#[]⟩,some ⟨(.type "function"),none,.func (fnOf "_law_mixed" "_law_mixed" (C5 (C6 p 39)) (C4 (C6 p 39)) (C0 (C6 p 39)) .none .none .none (.str "law_wordswap_k33_own_word" 861) none (.ref 546) .none),#[]⟩,some ⟨(.type "function"),none,.func (fnOf "_law_passings" "_law_passings" (C5 (C6 p 40)) (C4 (C6 p 40)) (C0 (C6 p 40)) .none .none .none (.str "law_wordswap_k33_own_word" 861) none (.ref 551) .none),#[]⟩,some ⟨(.type "function"),none,.func (fnOf "_law_some" "_law_some" (C5 (C6 p 41)) (C4 (C6 p 41)) (C0 (C6 p 41)) .none .none .none (.str "law_wordswap_k33_own_word" 861) none (.ref 556) .none),#[]⟩,some ⟨(.type "function"),none,.func (fnOf "__init__" "Ledger.__init__" (C5 (B9 (C6 p 27) 0)) (C4 (B9 (C6 p 27) 0)) (C0 (B9 (C6 p 27) 0)) (.ref 259) .none .none (.str "wordswap.ledgers" 473) none (.ref 265) .none),#[]⟩,some ⟨(.type "tuple"),none,.seq #[.none] 0,#[]⟩,some ⟨(.type "function"),none,.func (fnOf "is_rising" "is_rising" (C5 (C6 p 32)) (C4 (C6 p 32)) (C0 (C6 p 32)) .none .none .none (.str "wordswap.plans" 780) none (.ref 473) .none),#[]⟩,some ⟨(.type "function"),none,.func (fnOf "is_whole" "is_whole" (C5 (C6 p 13)) (C4 (C6 p 13)) (C0 (C6 p 13)) .none .none .none (.str "wordswap.webs" 335) none (.ref 131) .none),#[]⟩,some ⟨(.type "function"),none,.func (fnOf "is_hand" "is_hand" (C5 (C6 p 14)) (C4 (C6 p 14)) (C0 (C6 p 14)) .none .none .none (.str "wordswap.webs" 335) none (.ref 138) .none),#[]⟩,some ⟨(.type "function"),none,.func (fnOf "are_leaders" "are_leaders" (C5 (C6 p 33)) (C4 (C6 p 33)) (C0 (C6 p 33)) .none .none .none (.str "wordswap.plans" 780) none (.ref 478) .none),#[]⟩,some ⟨(.type "function"),none,.func (fnOf "is_limit" "is_limit" (C5 (C6 p 34)) (C4 (C6 p 34)) (C0 (C6 p 34)) .none .none .none (.str "wordswap.plans" 780) none (.ref 485) .none),#[]⟩,some ⟨(.type "function"),none,.func (fnOf "__init__" "Plan.__init__" (C5 (B9 (C6 p 35) 0)) (C4 (B9 (C6 p 35) 0)) (C0 (B9 (C6 p 35) 0)) .none .none .none (.str "wordswap.plans" 780) none (.ref 499) .none),#[]⟩,some ⟨(.type "function"),none,.func (fnOf "is_number_of_hands" "is_number_of_hands" (C5 (C6 p 15)) (C4 (C6 p 15)) (C0 (C6 p 15)) .none .none .none (.str "wordswap.webs" 335) none (.ref 145) .none),#[]⟩,some ⟨(.type "function"),none,.func (fnOf "is_passing" "is_passing" (C5 (C6 p 16)) (C4 (C6 p 16)) (C0 (C6 p 16)) .none .none .none (.str "wordswap.webs" 335) none (.ref 152) .none),#[]⟩,some ⟨(.type "function"),none,.func (fnOf "first_wrong_passing" "first_wrong_passing" (C5 (C6 p 17)) (C4 (C6 p 17)) (C0 (C6 p 17)) .none .none .none (.str "wordswap.webs" 335) none (.ref 159) .none),#[]⟩,some ⟨(.type "function"),none,.func (fnOf "__init__" "Web.__init__" (C5 (B9 (C6 p 18) 0)) (C4 (B9 (C6 p 18) 0)) (C0 (B9 (C6 p 18) 0)) .none .none .none (.str "wordswap.webs" 335) none (.ref 173) .none),#[]⟩,some ⟨(.type "function"),none,.func (fnOf "__init__" "Keeper.__init__" (C5 (B9 (C6 p 30) 0)) (C4 (B9 (C6 p 30) 0)) (C0 (B9 (C6 p 30) 0)) .none .none .none (.str "wordswap.hands" 657) none (.ref 412) .none),#[]⟩,some ⟨(.type "function"),none,.func (fnOf "leads" "Plan.leads" (C5 (B9 (C6 p 35) 2)) (C4 (B9 (C6 p 35) 2)) (C0 (B9 (C6 p 35) 2)) .none .none .none (.str "wordswap.plans" 780) none (.ref 513) .none),#[]⟩,some ⟨(.type "function"),none,.func (fnOf "lay_turn" "Ledger.lay_turn" (C5 (B9 (C6 p 27) 6)) (C4 (B9 (C6 p 27) 6)) (C0 (B9 (C6 p 27) 6)) .none .none .none (.str "wordswap.ledgers" 473) none (.ref 307) .none),#[]⟩,some ⟨(.type "function"),none,.func (fnOf "givers_of" "Web.givers_of" (C5 (B9 (C6 p 18) 1)) (C4 (B9 (C6 p 18) 1)) (C0 (B9 (C6 p 18) 1)) .none .none .none (.str "wordswap.webs" 335) none (.ref 178) .none),#[]⟩,some ⟨(.type "function"),none,.func (fnOf "boxes_to_me" "Keeper.boxes_to_me" (C5 (B9 (C6 p 30) 2)) (C4 (B9 (C6 p 30) 2)) (C0 (B9 (C6 p 30) 2)) .none .none .none (.str "wordswap.hands" 657) none (.ref 424) .none),#[]⟩,some ⟨(.type "function"),none,.func (fnOf "ready_turn" "Keeper.ready_turn" (C5 (B9 (C6 p 30) 4)) (C4 (B9 (C6 p 30) 4)) (C0 (B9 (C6 p 30) 4)) .none .none .none (.str "wordswap.hands" 657) none (.ref 434) .none),#[]⟩,some ⟨(.type "function"),none,.func (fnOf "turn" "Ledger.turn" (C5 (B9 (C6 p 27) 1)) (C4 (B9 (C6 p 27) 1)) (C0 (B9 (C6 p 27) 1)) .none .none .none (.str "wordswap.ledgers" 473) none (.ref 272) .none),#[]⟩,some ⟨(.type "function"),none,.func (fnOf "takers_of" "Web.takers_of" (C5 (B9 (C6 p 18) 2)) (C4 (B9 (C6 p 18) 2)) (C0 (B9 (C6 p 18) 2)) .none .none .none (.str "wordswap.webs" 335) none (.ref 183) .none),#[]⟩,some ⟨(.type "function"),none,.func (fnOf "boxes_of_mine" "Keeper.boxes_of_mine" (C5 (B9 (C6 p 30) 3)) (C4 (B9 (C6 p 30) 3)) (C0 (B9 (C6 p 30) 3)) .none .none .none (.str "wordswap.hands" 657) none (.ref 429) .none),#[]⟩,some ⟨(.type "function"),none,.func (fnOf "lays" "Keeper.lays" (C5 (B9 (C6 p 30) 5)) (C4 (B9 (C6 p 30) 5)) (C0 (B9 (C6 p 30) 5)) .none .none .none (.str "wordswap.hands" 657) none (.ref 439) .none),#[]⟩,some ⟨(.type "function"),none,.func (fnOf "limit" "Plan.limit" (C5 (B9 (C6 p 35) 1)) (C4 (B9 (C6 p 35) 1)) (C0 (B9 (C6 p 35) 1)) .none .none .none (.str "wordswap.plans" 780) none (.ref 506) .none),#[]⟩,some ⟨(.type "function"),none,.func (fnOf "is_late" "Ledger.is_late" (C5 (B9 (C6 p 27) 8)) (C4 (B9 (C6 p 27) 8)) (C0 (B9 (C6 p 27) 8)) .none .none .none (.str "wordswap.ledgers" 473) none (.ref 321) .none),#[]⟩,some ⟨(.type "function"),none,.func (fnOf "says_own_word" "Keeper.says_own_word" (C5 (B9 (C6 p 30) 7)) (C4 (B9 (C6 p 30) 7)) (C0 (B9 (C6 p 30) 7)) .none .none .none (.str "wordswap.hands" 657) none (.ref 451) .none),#[]⟩,some ⟨(.type "function"),none,.func (fnOf "said" "Ledger.said" (C5 (B9 (C6 p 27) 14)) (C4 (B9 (C6 p 27) 14)) (C0 (B9 (C6 p 27) 14)) .none .none .none (.str "wordswap.ledgers" 473) none (.ref 363) .none),#[]⟩,some ⟨(.type "function"),none,.func (fnOf "rows_to_say_on" "Keeper.rows_to_say_on" (C5 (B9 (C6 p 30) 9)) (C4 (B9 (C6 p 30) 9)) (C0 (B9 (C6 p 30) 9)) .none .none .none (.str "wordswap.hands" 657) none (.ref 463) .none),#[]⟩,some ⟨(.type "function"),none,.func (fnOf "says_word_on" "Keeper.says_word_on" (C5 (B9 (C6 p 30) 8)) (C4 (B9 (C6 p 30) 8)) (C0 (B9 (C6 p 30) 8)) .none .none .none (.str "wordswap.hands" 657) none (.ref 456) .none),#[]⟩,some ⟨(.type "function"),none,.func (fnOf "says" "Keeper.says" (C5 (B9 (C6 p 30) 6)) (C4 (B9 (C6 p 30) 6)) (C0 (B9 (C6 p 30) 6)) .none .none .none (.str "wordswap.hands" 657) none (.ref 446) .none),#[]⟩,some ⟨(.type "function"),none,.func (fnOf "deeds" "Keeper.deeds" (C5 (B9 (C6 p 30) 1)) (C4 (B9 (C6 p 30) 1)) (C0 (B9 (C6 p 30) 1)) .none .none .none (.str "wordswap.hands" 657) none (.ref 419) .none),#[]⟩,some ⟨(.type "function"),none,.func (fnOf "_law_alike" "_law_alike" (C5 (C6 p 38)) (C4 (C6 p 38)) (C0 (C6 p 38)) .none .none .none (.str "law_wordswap_k33_own_word" 861) none (.ref 539) .none),#[]⟩,some ⟨(.type "function"),none,.func (fnOf "is_box" "is_box" (C5 (C6 p 24)) (C4 (C6 p 24)) (C0 (C6 p 24)) .none .none .none (.str "wordswap.ledgers" 473) none (.ref 238) .none),#[]⟩,some ⟨(.type "function"),none,.func (fnOf "is_chain" "is_chain" (C5 (C6 p 20)) (C4 (C6 p 20)) (C0 (C6 p 20)) .none .none .none (.str "wordswap.chains" 465) none (.ref 231) .none),#[]⟩,some ⟨(.type "function"),none,.func (fnOf "is_chain_of" "is_chain_of" (C5 (C6 p 25)) (C4 (C6 p 25)) (C0 (C6 p 25)) .none .none .none (.str "wordswap.ledgers" 473) none (.ref 243) .none),#[]⟩,some ⟨(.type "function"),none,.func (fnOf "is_deed" "is_deed" (C5 (C6 p 26)) (C4 (C6 p 26)) (C0 (C6 p 26)) .none .none .none (.str "wordswap.ledgers" 473) none (.ref 250) .none),#[]⟩,some ⟨(.type "function"),none,.func (fnOf "take_lay" "Ledger.take_lay" (C5 (B9 (C6 p 27) 4)) (C4 (B9 (C6 p 27) 4)) (C0 (B9 (C6 p 27) 4)) .none .none .none (.str "wordswap.ledgers" 473) none (.ref 293) .none),#[]⟩,some ⟨(.type "function"),none,.func (fnOf "is_laid_ahead" "Ledger.is_laid_ahead" (C5 (B9 (C6 p 27) 7)) (C4 (B9 (C6 p 27) 7)) (C0 (B9 (C6 p 27) 7)) .none .none .none (.str "wordswap.ledgers" 473) none (.ref 314) .none),#[]⟩,some ⟨(.type "function"),none,.func (fnOf "is_said_ahead" "Ledger.is_said_ahead" (C5 (B9 (C6 p 27) 10)) (C4 (B9 (C6 p 27) 10)) (C0 (B9 (C6 p 27) 10)) .none .none .none (.str "wordswap.ledgers" 473) none (.ref 335) .none),#[]⟩,some ⟨(.type "function"),none,.func (fnOf "is_sayable" "Ledger.is_sayable" (C5 (B9 (C6 p 27) 9)) (C4 (B9 (C6 p 27) 9)) (C0 (B9 (C6 p 27) 9)) .none .none .none (.str "wordswap.ledgers" 473) none (.ref 328) .none),#[]⟩,some ⟨(.type "function"),none,.func (fnOf "take_say" "Ledger.take_say" (C5 (B9 (C6 p 27) 5)) (C4 (B9 (C6 p 27) 5)) (C0 (B9 (C6 p 27) 5)) .none .none .none (.str "wordswap.ledgers" 473) none (.ref 300) .none),#[]⟩,some ⟨(.type "function"),none,.func (fnOf "take" "Ledger.take" (C5 (B9 (C6 p 27) 3)) (C4 (B9 (C6 p 27) 3)) (C0 (B9 (C6 p 27) 3)) .none .none .none (.str "wordswap.ledgers" 473) none (.ref 286) .none),#[]⟩,some ⟨(.type "function"),none,.func (fnOf "_law_tried" "_law_tried" (C5 (C6 p 42)) (C4 (C6 p 42)) (C0 (C6 p 42)) .none .none .none (.str "law_wordswap_k33_own_word" 861) none (.ref 563) .none),#[]⟩,some ⟨(.type "function"),none,.func (fnOf "move" "Ledger.move" (C5 (B9 (C6 p 27) 2)) (C4 (B9 (C6 p 27) 2)) (C0 (B9 (C6 p 27) 2)) .none .none .none (.str "wordswap.ledgers" 473) none (.ref 279) .none),#[]⟩,some ⟨(.type "function"),none,.func (fnOf "law" "law" (C5 (C6 p 43)) (C4 (C6 p 43)) (C0 (C6 p 43)) .none .none .none (.str "law_wordswap_k33_own_word" 861) none (.ref 568) .none),#[]⟩]
theorem hop:∀w:World,(fencedOpening treeTable PySem.Challenge.pw_wordswap_k33_own_word w 9306).map (λs=>(s.heap,s.gens,s.drawn,s.toks))=some (boot_heap w.params,#[],boot_drawn,boot_toks):=boot_open (by kernel_rfl) (by kernel_rfl) (λs=>by kernel_rfl)
theorem hck:∀(w:World) (o:OsState),(a87 (PySem.W.Fast.tw6613529449190102663 11 (some (.ref 6))) (PySem.W.Fast.tw10156331382660048174 (PySem.W.Fast.tw11892475500146522536 PySem.W.Fast.tw14364793385576792824) PySem.W.Fast.tw7266339082686277287 w) 9306 (aY2 w o) (topStub PySem.W.Fast.tw7266339082686277287)).map (λS=>(lk PySem.W.Fast.tw4187177175401517315 PySem.W.Fast.tw7266339082686277287 (view PySem.W.Fast.tw7266339082686277287 kps) lse (xt PySem.W.Fast.tw7266339082686277287) w S.abs,(bs (az2 S)).all id,os (az2 S)))=some ((true,openGood (view PySem.W.Fast.tw7266339082686277287 kps) lse),true,ov PySem.W.Fast.tw7266339082686277287):=λw o=>by kernel_rfl
theorem hdl:LeftO PySem.Challenge.pw_wordswap_k33_own_word (view PySem.Challenge.pw_wordswap_k33_own_word kps) lse (xt PySem.Challenge.pw_wordswap_k33_own_word) (λs=>az1 s.heap) (Kw PySem.Challenge.pw_wordswap_k33_own_word 9306) 9306/\∀w,((bs (Kw PySem.Challenge.pw_wordswap_k33_own_word 9306 w)).all id,os (Kw PySem.Challenge.pw_wordswap_k33_own_word 9306 w))=(true,ov PySem.Challenge.pw_wordswap_k33_own_word):=a91 (q:=λp=>view p kps) (Xt:=xt) (ob:=λK=>((bs K).all id,os K)) (va:=λp=>(true,ov p)) PySem.W.Fast.te7266339082686277287 PySem.W.Fast.te6613529449190102663 PySem.W.Fast.te10156331382660048174 PySem.W.Fast.te11892475500146522536 PySem.W.Fast.te14364793385576792824 PySem.W.Fast.te4187177175401517315 hop hck
theorem bx6{w:World}{h:Heap}{mg:Str->Option Value}{fa:Addr}{K:Frag}(e:(bs K).all id=true/\os K=ov PySem.Challenge.pw_wordswap_k33_own_word)(X:K.In h)(G:h.Ns mainGlobals mg)(hfa:mg "law" = some (.ref fa)):∃fd:FuncData,(∀(s:Shared) (v:Value),BindsTo s fd ⟨[v],[]⟩ [("_law_script",v)])/\∀base:Heap,K.In base->base.Ns mainGlobals mg->FnOk PySem.Challenge.rw_wordswap_k33_own_word.prog w K mg base CX0 8 fa fd ["_law_script"] (aY0 K):=by
 have b:=λi {x}=>bx4 e.1 i (b:=x)
 have z:=hfa.symm.trans (PySem.W.mg_of X G (of_decide_eq_true (an2 (b 57 rfl)).1))
 cases z
 refine⟨fnOf "law" "law" (C5 (top 43)) (C4 (top 43)) (C0 (top 43)) .none .none .none (.str "law_wordswap_k33_own_word" 861) none (.ref 568) .none,λs v=>.of_eq rfl,λbase _ _=>?_⟩
 have E:En PySem.Challenge.rw_wordswap_k33_own_word.prog w K mg base cmA:=⟨⟨h,X,G⟩⟩
 have B:=base_of E (b 0 rfl) (b 1 rfl)
 have GL:aH0 mg:=⟨⟨_,E.of (b 6 rfl)⟩,⟨_,E.of (b 7 rfl)⟩,⟨_,E.of (b 8 rfl)⟩,⟨_,E.of (b 9 rfl)⟩⟩
 have BS:=E.no (b 10 rfl)
 have F0:=mkF (st:=(top 37)) (lat e.2 0 rfl rfl) (b 11 rfl)
 have F1:=mkF (st:=(top 39)) (lat e.2 1 rfl rfl) (b 12 rfl)
 have F2:=mkF (st:=(top 40)) (lat e.2 2 rfl rfl) (b 13 rfl)
 have F3:=mkF (st:=(top 41)) (lat e.2 3 rfl rfl) (b 14 rfl)
 have F4:=bx5 (st:=(B9 (top 27) 0)) (lat e.2 4 rfl rfl) (lat e.2 5 rfl rfl) (b 15 rfl)
 have F5:=mkF (st:=(top 32)) (lat e.2 6 rfl rfl) (b 16 rfl)
 have F6:=mkF (st:=(top 13)) (lat e.2 7 rfl rfl) (b 17 rfl)
 have F7:=mkF (st:=(top 14)) (lat e.2 8 rfl rfl) (b 18 rfl)
 have F8:=mkF (st:=(top 33)) (lat e.2 9 rfl rfl) (b 19 rfl)
 have F9:=mkF (st:=(top 34)) (lat e.2 10 rfl rfl) (b 20 rfl)
 have F10:=mkF (st:=(B9 (top 35) 0)) (lat e.2 11 rfl rfl) (b 21 rfl)
 have F11:=mkF (st:=(top 15)) (lat e.2 12 rfl rfl) (b 22 rfl)
 have F12:=mkF (st:=(top 16)) (lat e.2 13 rfl rfl) (b 23 rfl)
 have F13:=mkF (st:=(top 17)) (lat e.2 14 rfl rfl) (b 24 rfl)
 have F14:=mkF (st:=(B9 (top 18) 0)) (lat e.2 15 rfl rfl) (b 25 rfl)
 have F15:=mkF (st:=(B9 (top 30) 0)) (lat e.2 16 rfl rfl) (b 26 rfl)
 have F16:=mkF (st:=(B9 (top 35) 2)) (lat e.2 17 rfl rfl) (b 27 rfl)
 have F17:=mkF (st:=(B9 (top 27) 6)) (lat e.2 18 rfl rfl) (b 28 rfl)
 have F18:=mkF (st:=(B9 (top 18) 1)) (lat e.2 19 rfl rfl) (b 29 rfl)
 have F19:=mkF (st:=(B9 (top 30) 2)) (lat e.2 20 rfl rfl) (b 30 rfl)
 have F20:=mkF (st:=(B9 (top 30) 4)) (lat e.2 21 rfl rfl) (b 31 rfl)
 have F21:=mkF (st:=(B9 (top 27) 1)) (lat e.2 22 rfl rfl) (b 32 rfl)
 have F22:=mkF (st:=(B9 (top 18) 2)) (lat e.2 23 rfl rfl) (b 33 rfl)
 have F23:=mkF (st:=(B9 (top 30) 3)) (lat e.2 24 rfl rfl) (b 34 rfl)
 have F24:=mkF (st:=(B9 (top 30) 5)) (lat e.2 25 rfl rfl) (b 35 rfl)
 have F25:=mkF (st:=(B9 (top 35) 1)) (lat e.2 26 rfl rfl) (b 36 rfl)
 have F26:=mkF (st:=(B9 (top 27) 8)) (lat e.2 27 rfl rfl) (b 37 rfl)
 have F27:=mkF (st:=(B9 (top 30) 7)) (lat e.2 28 rfl rfl) (b 38 rfl)
 have F28:=mkF (st:=(B9 (top 27) 14)) (lat e.2 29 rfl rfl) (b 39 rfl)
 have F29:=mkF (st:=(B9 (top 30) 9)) (lat e.2 30 rfl rfl) (b 40 rfl)
 have F30:=mkF (st:=(B9 (top 30) 8)) (lat e.2 31 rfl rfl) (b 41 rfl)
 have F31:=mkF (st:=(B9 (top 30) 6)) (lat e.2 32 rfl rfl) (b 42 rfl)
 have F32:=mkF (st:=(B9 (top 30) 1)) (lat e.2 33 rfl rfl) (b 43 rfl)
 have F33:=mkF (st:=(top 38)) (lat e.2 34 rfl rfl) (b 44 rfl)
 have F34:=mkF (st:=(top 24)) (lat e.2 35 rfl rfl) (b 45 rfl)
 have F35:=mkF (st:=(top 20)) (lat e.2 36 rfl rfl) (b 46 rfl)
 have F36:=mkF (st:=(top 25)) (lat e.2 37 rfl rfl) (b 47 rfl)
 have F37:=mkF (st:=(top 26)) (lat e.2 38 rfl rfl) (b 48 rfl)
 have F38:=mkF (st:=(B9 (top 27) 4)) (lat e.2 39 rfl rfl) (b 49 rfl)
 have F39:=mkF (st:=(B9 (top 27) 7)) (lat e.2 40 rfl rfl) (b 50 rfl)
 have F40:=mkF (st:=(B9 (top 27) 10)) (lat e.2 41 rfl rfl) (b 51 rfl)
 have F41:=mkF (st:=(B9 (top 27) 9)) (lat e.2 42 rfl rfl) (b 52 rfl)
 have F42:=mkF (st:=(B9 (top 27) 5)) (lat e.2 43 rfl rfl) (b 53 rfl)
 have F43:=mkF (st:=(B9 (top 27) 3)) (lat e.2 44 rfl rfl) (b 54 rfl)
 have F44:=mkF (st:=(top 42)) (lat e.2 45 rfl rfl) (b 55 rfl)
 have F45:=mkF (st:=(B9 (top 27) 2)) (lat e.2 46 rfl rfl) (b 56 rfl)
 have F46:=mkF (st:=(top 43)) (lat e.2 47 rfl rfl) (b 57 rfl)
 have D_law_cell_at:=mkD E (f:=K0) (ok_law_cell_at B F0) (b 11 rfl) (F0.binds (by walk_at "b2"))
 have D_law_mixed:=mkD E (f:=f_law_mixed) (ok_law_mixed B F1) (b 12 rfl) (F1.binds (by walk_at "b2"))
 have D_law_passings:=mkD E (f:=N8) (ok_law_passings B D_law_mixed F2) (b 13 rfl) (F2.binds (by walk_at "b2"))
 have D_law_some:=mkD E (f:=U7) (ok_law_some B F3) (b 14 rfl) (F3.binds (by walk_at "b2"))
 have D_Ledger_init:=mkC E (f:=N2) (ok_Ledger_init B F4) (b 15 rfl) (b 59 rfl) (b 3 rfl) (F4.binds 3 rfl λ_ _ _ _ _ _ _ us hl=>match us,hl with | [_,_,_],_=>⟨_,rfl,rfl⟩) λ_ _ _ _=>ae2
 have D_is_rising:=mkD E (f:=R8) (ok_is_rising B F5) (b 16 rfl) (F5.binds (by walk_at "b1"))
 have D_is_whole:=mkD E (f:=N0) (ok_is_whole B F6) (b 17 rfl) (F6.binds (by walk_at "b1"))
 have D_is_hand:=mkD E (f:=K8) (ok_is_hand B D_is_whole F7) (b 18 rfl) (F7.binds (by walk_at "b2"))
 have D_are_leaders:=mkD E (f:=O8) (ok_are_leaders B D_is_rising D_is_hand F8) (b 19 rfl) (F8.binds (by walk_at "b2"))
 have D_is_limit:=mkD E (f:=U4) (ok_is_limit B D_is_whole F9) (b 20 rfl) (F9.binds (by walk_at "b1"))
 have D_Plan_init:=mkC E (f:=Q0) (ok_Plan_init B D_are_leaders D_is_limit F10) (b 21 rfl) (b 61 rfl) (b 5 rfl) (F10.binds (by walk_at "b4")) λ_ _ _ _=>ao2
 have D_is_number_of_hands:=mkD E (f:=H9) (ok_is_number_of_hands B GL D_is_whole F11) (b 22 rfl) (F11.binds (by walk_at "b1"))
 have D_is_passing:=mkD E (f:=M7) (ok_is_passing B D_is_hand F12) (b 23 rfl) (F12.binds (by walk_at "b2"))
 have D_first_wrong_passing:=mkD E (f:=G8) (ok_first_wrong_passing B D_is_passing F13) (b 24 rfl) (F13.binds (by walk_at "b2"))
 have D_Web_init:=mkC E (f:=Q1) (ok_Web_init B D_is_number_of_hands D_first_wrong_passing F14) (b 25 rfl) (b 58 rfl) (b 2 rfl) (F14.binds (by walk_at "b3")) λ_ _ _ _=>aw7
 have D_Keeper_init:=mkC E (f:=f_Keeper_init) (ok_Keeper_init B F15) (b 26 rfl) (b 60 rfl) (b 4 rfl) (F15.binds (by walk_at "b2")) λ_ _ _ _=>ae3
 have D_Plan_leads:=mkM E (f:=T0) (ok_Plan_leads B F16) (b 27 rfl) (F16.binds (by walk_at "b2"))
 have D_Ledger_lay_turn:=mkM E (f:=K3) (ok_Ledger_lay_turn B F17) (b 28 rfl) (F17.binds (by walk_at "b2"))
 have D_Web_givers_of:=mkM E (f:=M4) (ok_Web_givers_of B F18) (b 29 rfl) (F18.binds (by walk_at "b2"))
 have D_Keeper_boxes_to_me:=mkM E (f:=D0) (ok_Keeper_boxes_to_me B D_Web_givers_of F19) (b 30 rfl) (F19.binds (by walk_at "b2"))
 have D_Keeper_ready_turn:=mkM E (f:=E8) (ok_Keeper_ready_turn B D_Ledger_lay_turn D_Keeper_boxes_to_me F20) (b 31 rfl) (F20.binds (by walk_at "b2"))
 have D_Ledger_turn:=mkM E (f:=f_Ledger_turn) (ok_Ledger_turn B F21) (b 32 rfl) (F21.binds (by walk_at "b1"))
 have D_Web_takers_of:=mkM E (f:=M5) (ok_Web_takers_of B F22) (b 33 rfl) (F22.binds (by walk_at "b2"))
 have D_Keeper_boxes_of_mine:=mkM E (f:=E1) (ok_Keeper_boxes_of_mine B D_Web_takers_of F23) (b 34 rfl) (F23.binds (by walk_at "b2"))
 have D_Keeper_lays:=mkM E (f:=P2) (ok_Keeper_lays B GL D_Plan_leads D_Keeper_ready_turn D_Ledger_turn D_Keeper_boxes_of_mine F24) (b 35 rfl) (F24.binds (by walk_at "b2"))
 have D_Plan_limit:=mkM E (f:=S8) (ok_Plan_limit B F25) (b 36 rfl) (F25.binds (by walk_at "b2"))
 have D_Ledger_is_late:=mkM E (f:=E7) (ok_Ledger_is_late B D_Plan_limit F26) (b 37 rfl) (F26.binds (by walk_at "b3"))
 have D_Keeper_says_own_word:=mkM E (f:=G6) (ok_Keeper_says_own_word B GL D_Keeper_boxes_to_me D_Ledger_is_late D_Ledger_turn F27) (b 38 rfl) (F27.binds (by walk_at "b3"))
 have D_Ledger_said:=mkM E (f:=P1) (ok_Ledger_said B F28) (b 39 rfl) (F28.binds (by walk_at "b2"))
 have D_Keeper_rows_to_say_on:=mkM E (f:=G3) (ok_Keeper_rows_to_say_on B D_Keeper_boxes_of_mine D_Ledger_said D_Ledger_turn F29) (b 40 rfl) (F29.binds (by walk_at "b3"))
 have D_Keeper_says_word_on:=mkM E (f:=G9) (ok_Keeper_says_word_on B GL D_Keeper_rows_to_say_on D_Ledger_turn D_Ledger_is_late D_Keeper_boxes_to_me F30) (b 41 rfl) (F30.binds (by walk_at "b4"))
 have D_Keeper_says:=mkM E (f:=P3) (ok_Keeper_says B D_Keeper_ready_turn D_Keeper_says_own_word D_Keeper_says_word_on F31) (b 42 rfl) (F31.binds (by walk_at "b2"))
 have D_Keeper_deeds:=mkM E (f:=N7) (ok_Keeper_deeds B D_Keeper_lays D_Keeper_says F32) (b 43 rfl) (F32.binds (by walk_at "b2"))
 have y:=(F33.binds (ps:=["_law_found","_law_due"]) (by walk_at "b2"))
 have D_law_alike_0:=mkD E (k:=1) (f:=a6) (ar:=2) aQ1 (b 44 rfl) y λ_ _ _ _ h=>nomatch h
 have D_law_alike_1:=mkD E (f:=o6) (ok_law_alike B BS D_law_alike_0 F33) (b 44 rfl) y
 have D_law_alike_2:=mkD E (f:=o7) (ok_law_alike B BS D_law_alike_1 F33) (b 44 rfl) y
 have D_law_alike_3:=mkD E (f:=o8) (ok_law_alike B BS D_law_alike_2 F33) (b 44 rfl) y
 have D_law_alike_4:=mkD E (f:=o9) (ok_law_alike B BS D_law_alike_3 F33) (b 44 rfl) y
 have D_law_alike:=mkD E (f:=l3) (ok_law_alike B BS D_law_alike_4 F33) (b 44 rfl) y
 have D_is_box:=mkD E (f:=b9) (ok_is_box B D_is_passing F34) (b 45 rfl) (F34.binds (by walk_at "b2"))
 have D_is_chain:=mkD E (f:=U5) (ok_is_chain B D_is_hand F35) (b 46 rfl) (F35.binds (by walk_at "b3"))
 have D_is_chain_of:=mkD E (f:=O9) (ok_is_chain_of B D_is_hand D_is_chain F36) (b 47 rfl) (F36.binds (by walk_at "b2"))
 have D_is_deed:=mkD E (f:=R9) (ok_is_deed B GL D_is_box D_is_chain_of F37) (b 48 rfl) (F37.binds (by walk_at "b2"))
 have D_Ledger_take_lay:=mkM E (f:=f_Ledger_take_lay) (ok_Ledger_take_lay B F38) (b 49 rfl) (F38.binds (by walk_at "b2"))
 have D_Ledger_is_laid_ahead:=mkM E (f:=G4) (ok_Ledger_is_laid_ahead B F39) (b 50 rfl) (F39.binds (by walk_at "b2"))
 have D_Ledger_is_said_ahead:=mkM E (f:=G5) (ok_Ledger_is_said_ahead B F40) (b 51 rfl) (F40.binds (by walk_at "b2"))
 have D_Ledger_is_sayable:=mkM E (f:=J3) (ok_Ledger_is_sayable B D_Ledger_is_said_ahead F41) (b 52 rfl) (F41.binds (by walk_at "b2"))
 have D_Ledger_take_say:=mkM E (f:=f_Ledger_take_say) (ok_Ledger_take_say B D_Ledger_is_laid_ahead D_Ledger_is_late D_Ledger_is_sayable F42) (b 53 rfl) (F42.binds (by walk_at "b2"))
 have D_Ledger_take:=mkM E (f:=K7) (ok_Ledger_take B GL D_is_deed D_Ledger_take_lay D_Ledger_take_say F43) (b 54 rfl) (F43.binds (by walk_at "b2"))
 have D_law_tried:=mkD E (f:=M8) (ok_law_tried B D_Ledger_take F44) (b 55 rfl) (F44.binds (by walk_at "b2"))
 have D_Ledger_move:=mkM E (f:=P0) (ok_Ledger_move B F45) (b 56 rfl) (F45.binds (by walk_at "b1"))
 exact (ok_law (P:=PySem.Challenge.rw_wordswap_k33_own_word.prog) (w:=w) (base:=base) B D_law_cell_at D_law_mixed D_law_passings D_law_some D_Ledger_init D_Plan_init D_Web_init D_Keeper_init D_Keeper_deeds D_law_alike D_law_tried D_Ledger_move F46).imp λvs H Q E q=>bm5 law_pure vs H Q E q
end Ws
open PySem PySem.W PyProof.Rows
set_option Elab.async false
set_option maxRecDepth 100000 in
set_option maxHeartbeats 0 in
theorem PySem.Challenge.cw_wordswap_k33_own_word_holds : PySem.Challenge.rw_wordswap_k33_own_word.Holds := by
 w_on;o_law
 refine Ws.aY5 (l:=PySem.Challenge.rw_wordswap_k33_own_word) (d:=⟨"law",L2.C5 (Ws.top 43),L2.C4 (Ws.top 43),L2.C0 (Ws.top 43),Ws.bs8 (Ws.top 43)⟩) Ws.hdl.1 (by kernel_rfl) (by kernel_rfl) (by kernel_rfl) (by first | rfl | kernel_rfl) (by assumption) (by decide +kernel) ⟨rfl,rfl,rfl,rfl,rfl,by decide +kernel⟩ ?hw ?hc
 case hw=>w_witness2
 case hc=>exact Ws.aO8 (l:=PySem.Challenge.rw_wordswap_k33_own_word) (k:=8) (x:="_law_script") rfl (by kernel_rfl) ⟨rfl,by decide,by decide⟩ (λw h Y=>Y) λw mg fa h KX G hmg=>Ws.bx6 (Prod.mk.inj (Ws.hdl.2 w)) KX G hmg
