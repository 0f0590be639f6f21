import PyProof.Rows.All
import Wide.All
import OpenK.AllK
import Wide.FinOn
import Lean
import PyProof.EqAt
import PyProof.EqKinds
import PyProof.TupleCall
import PySem.Challenge.RW_wordswap_k73_deeds_written
import PyProof.ExcBaseAll.ValueError
import PyProof.NsDelKeeps
import PyProof.ExcArgs
import KE.KIntText
import PyProof.StrLawsChain
import PyProof.StrWalks
import PyProof.Draws
import PyProof.EnumMake
import PyProof.Rows.CallKwBuiltin
import PyProof.AttrMissHeap
set_option compiler.extract_closed false
set_option Elab.async false
set_option linter.all false
set_option maxRecDepth 100000
namespace L2
open PySem PySem.Spec PyProof.Rows
noncomputable abbrev Key := Sum Int Str
noncomputable def keyIs : Key → Value → Bool
  | .inl k, v => Value.isInt k v
  | .inr x, v => Value.isStrOf x v
noncomputable def keyH (w : World) : Key → Int
  | .inl k => hashInt k
  | .inr x => hashStr w x
theorem keyIs_shape : ∀ {k : Key} {v : Value}, keyIs k v = true → (∃ i t, k = Sum.inl i ∧ v = Value.int i t) ∨ (∃ x t, k = Sum.inr x ∧ v = Value.str x t)
  | .inl i, v, h => by
    obtain ⟨t, e⟩ := Value.isInt_shape (k := i) (v := v) h
    exact .inl ⟨i, t, rfl, e⟩
  | .inr x, v, h => by
    obtain ⟨t, e⟩ := Value.isStrOf_shape (x := x) (v := v) h
    exact .inr ⟨x, t, rfl, e⟩
theorem key_ll (a b : Int) : decide ((Sum.inl a : Key) = Sum.inl b) = (a == b) := by
  by_cases e : a = b
  · subst e; simp
  · have h : ¬ (Sum.inl a : Key) = Sum.inl b := fun q => e (Sum.inl.inj q)
    rw [decide_eq_false h]
    exact (beq_eq_false_iff_ne.mpr e).symm
theorem key_rr (a b : Str) : decide ((Sum.inr a : Key) = Sum.inr b) = decide (a = b) := by
  by_cases e : a = b
  · subst e; simp
  · have h : ¬ (Sum.inr a : Key) = Sum.inr b := fun q => e (Sum.inr.inj q)
    rw [decide_eq_false h, decide_eq_false e]
theorem key_lr (a : Int) (b : Str) : decide ((Sum.inl a : Key) = Sum.inr b) = false := decide_eq_false (fun q => nomatch q)
theorem key_rl (a : Str) (b : Int) : decide ((Sum.inr a : Key) = Sum.inl b) = false := decide_eq_false (fun q => nomatch q)
noncomputable def mixKind (prog : Program) (w : World) : PySem.KeyKind prog w Key where
  is := keyIs
  hash := keyH w
  inj := fun v a b ha hb => by
    rcases keyIs_shape ha with ⟨i, t, rfl, rfl⟩ | ⟨x, t, rfl, rfl⟩
    · rcases keyIs_shape hb with ⟨j, u, rfl, e⟩ | ⟨y, u, rfl, e⟩
      · injection e with e1 _; rw [e1]
      · exact nomatch e
    · rcases keyIs_shape hb with ⟨j, u, rfl, e⟩ | ⟨y, u, rfl, e⟩
      · exact nomatch e
      · injection e with e1 _; rw [e1]
  byValue := fun k v h => by
    rcases keyIs_shape h with ⟨i, t, rfl, rfl⟩ | ⟨x, t, rfl, rfl⟩ <;> rfl
  pyHash := fun hv h => by
    rcases keyIs_shape hv with ⟨i, t, rfl, rfl⟩ | ⟨x, t, rfl, rfl⟩
    · exact wpAny_pyHash_int h
    · exact wpAny_pyHash_str h
  eqBool := fun hu hv h => by
    rcases keyIs_shape hu with ⟨i, t, rfl, rfl⟩ | ⟨x, t, rfl, rfl⟩
    · rcases keyIs_shape hv with ⟨j, u, rfl, rfl⟩ | ⟨y, u, rfl, rfl⟩
      · rw [key_ll] at h; exact wpAny_eqBool_int h
      · rw [key_lr] at h; exact SeqAt.EqAt.int_str i t y u _ _ _ _ h
    · rcases keyIs_shape hv with ⟨j, u, rfl, rfl⟩ | ⟨y, u, rfl, rfl⟩
      · rw [key_rl] at h; exact SeqAt.EqAt.str_int x t j u _ _ _ _ h
      · rw [key_rr] at h; exact wpAny_eqBool_str h
  «strs» := fun k x t v h => by
    rcases keyIs_shape h with ⟨i, u, rfl, e⟩ | ⟨y, u, rfl, e⟩
    · exact nomatch e
    · injection e with e1 _
      subst e1
      cases v <;> rfl
end L2
namespace L2
open PySem PySem.Spec PyProof.Rows
inductive V where
  | non | bl (b : Bool) | int (i : Int) | str (x : Str) | byt (b : Array UInt8) | flt (b : UInt64) | ref (a : Addr) | ty (n : String)
  deriving DecidableEq
noncomputable def RelV : V → Value → Prop
  | .non, u => u = Value.none
  | .bl b, u => u = Value.bool b
  | .int i, u => ∃ t, u = Value.int i t
  | .str x, u => ∃ t, u = Value.str x t
  | .byt b, u => ∃ t, u = Value.bytes b t
  | .flt b, u => ∃ t, u = Value.float b t
  | .ref a, u => u = Value.ref a
  | .ty n, u => u = Value.type n
noncomputable abbrev Vals : List V → List Value → Prop := Paired RelV
theorem Vals.length {xs : List V} {us : List Value} (r : Vals xs us) : xs.length = us.length := Paired.length r
theorem Vals.get : ∀ {xs : List V} {us : List Value} {i : Nat} {x : V}, Vals xs us → xs[i]? = some x → ∃ u, us[i]? = some u ∧ RelV x u
  | _, _, _, _, .nil, e => by simp at e
  | _, _, 0, _, .cons r _, e => by simp at e; subst e; exact ⟨_, rfl, r⟩
  | _, _, i + 1, x, .cons _ t, e => by
    obtain ⟨u, h1, h2⟩ := Vals.get (i := i) (x := x) t (by simpa using e)
    exact ⟨u, by simpa using h1, h2⟩
theorem Vals.append : ∀ {xs ys : List V} {us ws : List Value}, Vals xs us → Vals ys ws → Vals (xs ++ ys) (us ++ ws)
  | _, _, _, _, .nil, s => s
  | _, _, _, _, .cons r t, s => .cons r (Vals.append t s)
theorem Vals.take : ∀ {xs : List V} {us : List Value} (n : Nat), Vals xs us → Vals (xs.take n) (us.take n)
  | _, _, 0, _ => .nil
  | _, _, _ + 1, .nil => .nil
  | _, _, n + 1, .cons r t => .cons r (Vals.take n t)
theorem Vals.drop : ∀ {xs : List V} {us : List Value} (n : Nat), Vals xs us → Vals (xs.drop n) (us.drop n)
  | _, _, 0, r => r
  | _, _, _ + 1, .nil => .nil
  | _, _, n + 1, .cons _ t => Vals.drop n t
noncomputable def RelO : Option V → Option Value → Prop
  | some v, some u => RelV v u
  | none, none => True
  | _, _ => False
noncomputable def KV {κ : Type} : List (κ × V) → List (κ × Value) → Prop := Paired fun (p : κ × V) (q : κ × Value) => p.1 = q.1 ∧ RelV p.2 q.2
noncomputable def kV : Key → V
  | .inl i => .int i
  | .inr x => .str x
inductive HO where
    | lst (xs : List V)
    | tup (xs : List V)
    | dK (kvs : List (Key × V)) | dT (kvs : List (List Key × V))
    | set (S : Int → Bool) (n : Nat)
    | ins (C dx : Addr) (fs : List (Str × V))
    | own (x : Addr)
    | xd (fs : List (Str × V))
    | met (f x : Addr)
    | rng (lo hi : Int)
    | frz (o : Obj) (u : HO)
    | tbl (ps : Array Value)
    | ext (φ : Heap → Prop)
noncomputable abbrev Hp := Addr → Option HO
noncomputable def upd (H : Hp) (a : Addr) (o : HO) : Hp := fun b => if b = a then some o else H b
theorem upd_same {H : Hp} {a : Addr} {o : HO} : upd H a o a = some o := by unfold upd; rw [if_pos rfl]
theorem upd_ne {H : Hp} {a b : Addr} {o : HO} (h : b ≠ a) : upd H a o b = H b := by unfold upd; rw [if_neg h]
theorem ne_of_none {H : Hp} {a b : Addr} {o : HO} (h : H a = some o) (h' : H b = none) : a ≠ b := by
  intro e; subst e; rw [h] at h'; cases h'
section
variable (P : Program) (w : World)
noncomputable def ObjOk (H : Hp) (h : Heap) (a : Addr) : HO → Prop
  | .lst xs => xs.length ≤ sizeLine ∧ ∃ (its : List Value) (n : Nat), Vals xs its ∧ h.get? a = some { cls := .type "list", data := .seq its.toArray n }
  | .tup xs => xs.length ≤ sizeLine ∧ ∃ its : List Value, Vals xs its ∧ IsTup h a its.toArray
  | .dK kvs => kvs.length ≤ sizeLine ∧ (a == sysModules) = false ∧ ∃ vs, KV kvs vs ∧ h.DictOf (mixKind P w) a vs
  | .dT kvs => kvs.length ≤ sizeLine ∧ (a == sysModules) = false ∧ ∃ xs : List (List Key × Addr × Value),
      Paired (fun (p : List Key × V) (q : List Key × Addr × Value) => p.1 = q.1 ∧ H q.2.1 = some (.tup (p.1.map kV)) ∧ RelV p.2 q.2.2) kvs xs ∧
      ∃ o es ep, h.get? a = some o ∧ o.ExactDict ∧ o.data = .dict es ep ∧ es.toList = xs.map (entryOfKey (tupleKind (mixKind P w))) ∧ (xs.map (·.1)).Nodup
  | .set S n => h.SetOf (intKind P w) a S n
  | .ins C dx fs => H dx = some (.own a) ∧ fs.length ≤ 1000 ∧ dx ≠ a ∧ h.get? a = some (PySem.W.instObj C dx) ∧
      ∃ mA, h.Ns1 dx mA ∧ (∀ f, RelO (fs.lookup f) (mA f)) ∧ PySem.Within mA (fs.map (·.1))
  | .own _ => ∃ o, h.get? a = some o
  | .xd fs => ∃ mA, h.Ns1 a mA ∧ ∀ f, RelO (fs.lookup f) (mA f)
  | .rng lo hi => ∃ t u v, h.get? a = some { cls := .type "range", data := .fields #[.int lo t, .int hi u, .int 1 v] }
  | .frz o u => h.get? a = some o ∧ ObjOk H h a u
  | .tbl ps => h.get? a = some { cls := .none, data := .fields ps }
  | .met f x => h.get? a = some (PySem.W.methodObj (.ref f) (.ref x))
  | .ext φ => φ h ∧ (∃ o, h.get? a = some o) ∧ ∀ h1 h2 : Heap, φ h1 → (∀ o, h1.get? a = some o → h2.get? a = some o) → φ h2
noncomputable def HOk (H : Hp) (h : Heap) : Prop := ∀ a o, H a = some o → ObjOk P w H h a o
end
section
variable {P : Program} {w : World} {H H' : Hp} {h h' : Heap} {a : Addr} {o : HO}
theorem ObjOk.lt (x : ObjOk P w H h a o) : a < h.objs.size := by
  cases o with
  | lst xs => obtain ⟨_, _, _, _, e⟩ := x; exact Heap.lt_size e
  | tup xs => obtain ⟨_, _, _, p⟩ := x; exact p.lt
  | dK kvs => obtain ⟨_, _, _, _, o, _, _, e, _⟩ := x; exact Heap.lt_size e
  | dT kvs => obtain ⟨_, _, _, _, o, _, _, e, _⟩ := x; exact Heap.lt_size e
  | set S n => obtain ⟨o, _, _, _, e, _⟩ := x; exact Heap.lt_size e
  | ins C dx fs => obtain ⟨_, _, _, e, _⟩ := x; exact Heap.lt_size e
  | own y => obtain ⟨_, e⟩ := x; exact Heap.lt_size e
  | xd fs => obtain ⟨_, ⟨_, _, _, e, _⟩, _⟩ := x; exact Heap.lt_size e
  | rng lo hi => obtain ⟨_, _, _, e⟩ := x; exact Heap.lt_size e
  | frz ob u => obtain ⟨e, _⟩ := x; exact Heap.lt_size e
  | tbl ps => exact Heap.lt_size (show h.get? a = some _ from x)
  | met f y => exact Heap.lt_size (show h.get? a = some _ from x)
  | ext φ => obtain ⟨_, ⟨_, e⟩, _⟩ := x; exact Heap.lt_size e
theorem Paired.mapP {α β : Type} {F G : α → β → Prop} : ∀ {l₁ : List α} {l₂ : List β}, Paired F l₁ l₂ → (∀ a b, F a b → G a b) → Paired G l₁ l₂
  | _, _, .nil, _ => .nil
  | _, _, .cons r t, f => .cons (f _ _ r) (Paired.mapP t f)
theorem ObjOk.stay (x : ObjOk P w H h a o) (k : ∀ b u, (b = a ∨ H b = some (.own a)) → h.get? b = some u → h'.get? b = some u)
    (ho : ∀ b, H b = some (.own a) → H' b = some (.own a)) (ht : ∀ b xs, H b = some (.tup xs) → H' b = some (.tup xs)) : ObjOk P w H' h' a o := by
  induction o with
  | lst xs => obtain ⟨z, its, n, r, e⟩ := x; exact ⟨z, its, n, r, k _ _ (.inl rfl) e⟩
  | tup xs => obtain ⟨z, its, r, ob, e, c⟩ := x; exact ⟨z, its, r, ob, k _ _ (.inl rfl) e, c⟩
  | dK kvs => obtain ⟨z, y, vs, r, ob, es, ep, e, c⟩ := x; exact ⟨z, y, vs, r, ob, es, ep, k _ _ (.inl rfl) e, c⟩
  | dT kvs =>
    obtain ⟨z, y, xs, r, ob, es, ep, e, c⟩ := x
    exact ⟨z, y, xs, Paired.mapP r fun p q z => ⟨z.1, ht _ _ z.2.1, z.2.2⟩, ob, es, ep, k _ _ (.inl rfl) e, c⟩
  | set S n => obtain ⟨ob, es, ep, t, e, c⟩ := x; exact ⟨ob, es, ep, t, k _ _ (.inl rfl) e, c⟩
  | ins C dx fs =>
    obtain ⟨d, z, ne, e, mA, ⟨od, es, ep, e2, c⟩, r⟩ := x
    exact ⟨ho _ d, z, ne, k _ _ (.inl rfl) e, mA, ⟨od, es, ep, k _ _ (.inr d) e2, c⟩, r⟩
  | own y => obtain ⟨ob, e⟩ := x; exact ⟨ob, k _ _ (.inl rfl) e⟩
  | xd fs => obtain ⟨mA, ⟨od, es, ep, e, c⟩, r⟩ := x; exact ⟨mA, ⟨od, es, ep, k _ _ (.inl rfl) e, c⟩, r⟩
  | rng lo hi => obtain ⟨t, u, v, e⟩ := x; exact ⟨t, u, v, k _ _ (.inl rfl) e⟩
  | frz ob u ih => obtain ⟨e, q⟩ := x; exact ⟨k _ _ (.inl rfl) e, ih q⟩
  | tbl ps =>
    have e : h.get? a = some { cls := .none, data := .fields ps } := x
    show h'.get? a = some { cls := .none, data := .fields ps }
    exact k a _ (.inl rfl) e
  | met f y =>
    have e : h.get? a = some (PySem.W.methodObj (.ref f) (.ref y)) := x
    show h'.get? a = some (PySem.W.methodObj (.ref f) (.ref y))
    exact k a _ (.inl rfl) e
  | ext φ => obtain ⟨p, ⟨o, e⟩, st⟩ := x; exact ⟨st _ _ p fun o q => k _ _ (.inl rfl) q, ⟨o, k _ _ (.inl rfl) e⟩, st⟩
theorem HOk.lt (x : HOk P w H h) (e : H a = some o) : a < h.objs.size := (x a o e).lt
theorem HOk.fresh (x : HOk P w H h) (e : h.objs.size ≤ a) : H a = none := by
  cases q : H a with
  | none => rfl
  | some u => exact absurd (Nat.lt_of_lt_of_le (x.lt q) e) (Nat.lt_irrefl _)
theorem HOk.kept (x : HOk P w H h) (k : ∀ b u, h.get? b = some u → h'.get? b = some u) : HOk P w H h' := fun a o e =>
  (x a o e).stay (fun b u _ q => k b u q) (fun _ q => q) fun _ _ q => q
theorem HOk.laid (x : HOk P w H h) (k : ∀ b u, h.get? b = some u → h'.get? b = some u) (hp : h.objs.size ≤ a) (new : ObjOk P w (upd H a o) h' a o) : HOk P w (upd H a o) h' := fun b u e => by
  have hn := x.fresh hp
  by_cases hb : b = a
  · subst hb; rw [upd_same] at e; cases e; exact new
  · rw [upd_ne hb] at e
    exact (x b u e).stay (fun c v _ q => k c v q) (fun c q => by rw [upd_ne (ne_of_none q hn)]; exact q) fun c xs q => by rw [upd_ne (ne_of_none q hn)]; exact q
end
noncomputable def Rd (H : Hp) (a : Addr) (u : HO) : Prop := H a = some u ∨ ∃ o, H a = some (.frz o u)
theorem Rd.ok {P : Program} {w : World} {H : Hp} {h : Heap} {a : Addr} {u : HO} (r : Rd H a u) (x : HOk P w H h) : ObjOk P w H h a u := by
  rcases r with r | ⟨o, r⟩
  · exact x a u r
  · obtain ⟨_, q⟩ := x a _ r
    exact q
noncomputable def Mut : Option HO → Prop
  | some (.lst _) => True
  | some (.dK _) => True
  | some (.dT _) => True
  | some (.set _ _) => True
  | some (.ins _ _ _) => True
  | some (.ext _) => True
  | _ => False
section
variable {P : Program} {w : World} {H : Hp} {h h' : Heap} {x e : Addr} {o' : HO}
theorem HOk.write (ok : HOk P w H h) (mu : Mut (H x)) (he : e = x ∨ H e = some (.own x)) (k : ∀ b u, b ≠ e → h.get? b = some u → h'.get? b = some u) (heo : ∃ u, h'.get? e = some u)
    (new : ObjOk P w (upd H x o') h' x o') : HOk P w (upd H x o') h' := fun b u q => by
  have nown : ∀ c y, H c = some (.own y) → c ≠ x := fun c y r z => by subst z; rw [r] at mu; exact mu
  have ntup : ∀ c xs, H c = some (.tup xs) → c ≠ x := fun c xs r z => by subst z; rw [r] at mu; exact mu
  by_cases hb : b = x
  · subst hb; rw [upd_same] at q; cases q; exact new
  · rw [upd_ne hb] at q
    by_cases hbe : b = e
    · have q' : H b = some (.own x) := by
        rcases he with z | z
        · exact absurd (hbe.trans z) hb
        · rw [hbe]; exact z
      rw [q] at q'; cases q'
      obtain ⟨v, hv⟩ := heo
      exact ⟨v, by rw [hbe]; exact hv⟩
    · refine (ok b u q).stay (fun c v hc r => k c v ?_ r) (fun c r => by rw [upd_ne (nown c b r)]; exact r) fun c xs r => by rw [upd_ne (ntup c xs r)]; exact r
      rcases hc with rfl | hc
      · exact hbe
      · rintro rfl
        rcases he with z | z
        · exact nown c b hc z
        · rw [hc] at z; cases z; exact hb rfl
end
structure Un (fs ex : List Addr) (H H' : Hp) (h h' : Heap) : Prop where
  keep : ∀ b o, h.get? b = some o → H b = none → b ∉ fs → b ∉ ex → h'.get? b = some o
  slot : ∀ b o, h.get? b = some o → H b = none → b ∈ fs → b ∉ ex → ∃ sl, h'.get? b = some { o with slots := sl }
  free : ∀ b o, h.get? b = some o → H b = none → b ∉ ex → H' b = none
  there : ∀ b o, h.get? b = some o → b ∉ ex → ∃ o', h'.get? b = some o'
  tups : ∀ b xs, H b = some (.tup xs) → H' b = some (.tup xs)
  frzs : ∀ b o u, H b = some (.frz o u) → H' b = some (.frz o u)
  tbls : ∀ b ps, H b = some (.tbl ps) → ∃ more, H' b = some (.tbl (ps ++ more))
section
variable {fs fs' ex ex' : List Addr} {H H1 H2 : Hp} {h h1 h2 h' : Heap} {a x e : Addr} {o : HO}
theorem Un.any (u : Un fs ex H H1 h h1) {b : Addr} {ob : Obj} (q : h.get? b = some ob) (n : H b = none) (hx : b ∉ ex) : ∃ sl, h1.get? b = some { ob with slots := sl } := by
  by_cases hb : b ∈ fs
  · exact u.slot b ob q n hb hx
  · exact ⟨ob.slots, u.keep b ob q n hb hx⟩
theorem Un.kept (k : ∀ b u, h.get? b = some u → h'.get? b = some u) : Un fs ex H H h h' :=
  ⟨fun b ob q _ _ _ => k b ob q, fun b ob q _ _ _ => ⟨ob.slots, k b ob q⟩, fun _ _ _ n _ => n, fun b ob q _ => ⟨ob, k b ob q⟩, fun _ _ q => q, fun _ _ _ q => q, fun _ ps q => ⟨#[], by rw [q]; simp⟩⟩
theorem Un.refl : Un fs ex H H h h := Un.kept fun _ _ q => q
theorem Un.laid (k : ∀ b u, h.get? b = some u → h'.get? b = some u) (hp : h.objs.size ≤ a) (hn : H a = none) : Un fs ex H (upd H a o) h h' where
  keep := fun b u q _ _ _ => k b u q
  slot := fun b u q _ _ _ => ⟨u.slots, k b u q⟩
  free := fun b u q n _ => by rw [upd_ne (Nat.ne_of_lt (Nat.lt_of_lt_of_le (Heap.lt_size q) hp))]; exact n
  there := fun b u q _ => ⟨u, k b u q⟩
  tups := fun b xs q => by rw [upd_ne (ne_of_none q hn)]; exact q
  frzs := fun b u xs q => by rw [upd_ne (ne_of_none q hn)]; exact q
  tbls := fun b ps q => ⟨#[], by rw [upd_ne (ne_of_none q hn), q]; simp⟩
theorem Un.write (mu : Mut (H x)) (he : e = x ∨ H e = some (.own x)) (k : ∀ b u, b ≠ e → h.get? b = some u → h'.get? b = some u) (heo : ∃ u, h'.get? e = some u) : Un fs ex H (upd H x o) h h' := by
  have hx : ∀ b, H b = none → b ≠ x := fun b n z => by subst z; rw [n] at mu; exact mu
  have hb : ∀ b, H b = none → b ≠ e := fun b n z => by
    subst z
    rcases he with r | r
    · exact hx b n r
    · rw [n] at r; cases r
  have hm : ∀ b u, H b = some u → ¬ Mut (some u) → b ≠ x := fun b u q nm z => by subst z; rw [q] at mu; exact nm mu
  refine ⟨fun b u q n _ _ => k b u (hb b n) q, fun b u q n _ _ => ⟨u.slots, k b u (hb b n) q⟩, fun b u q n _ => by rw [upd_ne (hx b n)]; exact n, fun b u q _ => ?_,
    fun b xs q => by rw [upd_ne (hm b _ q fun z => z)]; exact q, fun b u xs q => by rw [upd_ne (hm b _ q fun z => z)]; exact q, fun b ps q => ⟨#[], by rw [upd_ne (hm b _ q fun z => z), q]; simp⟩⟩
  by_cases hbe : b = e
  · subst hbe; exact heo
  · exact ⟨u, k b u hbe q⟩
end
noncomputable def trk (h : Heap) (H : Hp) : List Addr := (List.range h.objs.size).filter fun a => (H a).isSome
noncomputable def hidT (h : Heap) (H : Hp) : Heap := PySem.W.hideAll h (trk h H)
theorem hidT_size (h : Heap) (H : Hp) : (hidT h H).objs.size = h.objs.size := PySem.W.hideAll_size _ _
theorem hidT_get {h : Heap} {H : Hp} {b : Addr} {o : Obj} (e : h.get? b = some o) (n : H b = none) : (hidT h H).get? b = some o :=
  PySem.W.hideAll_get _ e fun hm => by
    have q : (H b).isSome = true := (List.mem_filter.mp hm).2
    rw [n] at q; simp at q
theorem of_hidT {h : Heap} {H : Hp} {b : Addr} {o : Obj} (e : (hidT h H).get? b = some o) : h.get? b = some o ∧ H b = none := by
  have e' : h.get? b = some o := PySem.W.of_hideAll (trk h H) e
  refine ⟨e', ?_⟩
  cases q : H b with
  | none => rfl
  | some x =>
    have hm : b ∈ trk h H := List.mem_filter.mpr ⟨List.mem_range.mpr (Heap.lt_size e'), by simp [q]⟩
    have z : (hidT h H).get? b = none := PySem.W.hideAll_none (trk h H) hm
    rw [z] at e; cases e
end L2
namespace L2
open PySem PySem.Spec PyProof.Rows
structure Mod (K : PySem.W.Frag) (mg : Str → Option Value) (base : Heap) : Prop where
  kin : K.In base
  glob : base.Ns mainGlobals mg
  blt : ∃ mb, base.Ns builtinsNs mb ∧ ∀ x : Str, x ≠ "__name__" → mb x = bootBuiltins x
  nolimit : base.NoLimit
structure Cx where
  prog : Program
  w : World
  K : PySem.W.Frag
  mg : Str → Option Value
  base : Heap
  A : Around
  N : List Str
  s₀ : Shared
  H₀ : Hp
  env : Env
  outer : List Env
  stack : List Env
  ex : List Addr
  fn : Str → Bool
  calm : Bool
  pn : List (Addr × Obj)
  xe : Value → Shared → Prop
noncomputable def frs (l : List Env) : List Addr := l.filterMap (·.frame)
noncomputable abbrev Cx.fs (X : Cx) : List Addr := frs X.outer
noncomputable def Vis (sc : Scope) (x : Str) : Prop := sc.names.lookup x = some .local ∨ sc.names.lookup x = some .cell ∨ sc.names.lookup x = some .free
noncomputable def Loc (sc : Scope) (x : Str) : Prop := sc.names.lookup x = some .local ∨ sc.names.lookup x = some .cell
noncomputable def Look (env : Env) (h : Heap) (m : Str → Option Value) (x : Str) (u : Value) : Prop :=
  (env.kindOf x = some .local ∧ m x = some u) ∨ ((env.kindOf x = some .cell ∨ env.kindOf x = some .free) ∧ ∃ c, env.cells.lookup x = some c ∧ h.IsCell c (some u))
structure Cx.Ok (X : Cx) : Prop where
  mod : Mod X.K X.mg X.base
  kind : X.env.scope.kind = .function
  glob : X.env.globals = mainGlobals
  blt : X.env.builtins = builtinsNs
  above : X.s₀.heap.objs.size ≤ X.env.locals
  inj : ∀ x y c, X.env.cells.lookup x = some c → X.env.cells.lookup y = some c → x = y
  has : ∀ x, (X.env.kindOf x = some .cell ∨ X.env.kindOf x = some .free) → ∃ c, X.env.cells.lookup x = some c
  cab : ∀ x c, X.fn x = true → X.env.cells.lookup x = some c → X.s₀.heap.objs.size ≤ c
  hd : X.calm = true → X.A.handled = none
  frames : X.A.frames = some X.stack
  stk : X.stack = X.outer ∨ (X.stack = X.env :: X.outer ∧ X.env.frame = some X.env.locals)
  exf : ∀ b ∈ X.ex, b ≠ X.env.locals ∧ ∀ x c, X.env.cells.lookup x = some c → c ≠ b
  bs : ∀ b o, X.base.get? b = some o → X.s₀.heap.get? b = some o ∧ X.H₀ b = none
  bsz : X.base.objs.size ≤ X.s₀.heap.objs.size
  noex : ∀ b o, X.base.get? b = some o → b ∉ X.ex
  exfs : ∀ b ∈ X.ex, b ∉ X.fs
  funs : X.s₀.heap.FunFrames X.base X.outer
  frf : ∀ b ∈ X.fs, X.H₀ b = none
structure Inv (X : Cx) (pins : List (Addr × Obj)) (σ : List (Option V)) (H : Hp) (s : Shared) : Prop where
  ok : X.Ok
  os : s.os = X.s₀.os
  bare : AllBare s.gens
  base : Un X.fs X.ex X.H₀ H X.s₀.heap s.heap
  loc : ∃ m, s.heap.Ns X.env.locals m ∧ ∀ (i : Nat) (x : Str) (v : V), X.N[i]? = some x → σ[i]? = some (some v) → Vis X.env.scope x → ∃ u, RelV v u ∧ Look X.env s.heap m x u
  cell : ∀ x c, X.env.cells.lookup x = some c → ∃ v, s.heap.IsCell c v
  free : H X.env.locals = none
  freeC : ∀ x c, X.env.cells.lookup x = some c → H c = none
  pin : ∀ p ∈ X.pn ++ pins, s.heap.get? p.1 = some p.2 ∧ H p.1 = none ∧ p.1 ≠ X.env.locals ∧ p.1 ∉ X.fs ∧ ∀ v, p.2.data ≠ .cell v
  hok : HOk X.prog X.w H s.heap
  len : σ.length = X.N.length
section
variable {X : Cx} {pins : List (Addr × Obj)} {σ : List (Option V)} {H H' : Hp} {s : Shared} {h' : Heap}
theorem Cx.Ok.nofr (ok : X.Ok) {b : Addr} {o : Obj} (e : X.base.get? b = some o) : b ∉ X.fs := fun hb => by
  have := (ok.funs.mem hb).1
  rw [e] at this; cases this
theorem Inv.bs (I : Inv X pins σ H s) : ∀ b o, X.base.get? b = some o → s.heap.get? b = some o ∧ H b = none := fun b o e =>
  ⟨I.base.keep b o (I.ok.bs b o e).1 (I.ok.bs b o e).2 (I.ok.nofr e) (I.ok.noex b o e), I.base.free b o (I.ok.bs b o e).1 (I.ok.bs b o e).2 (I.ok.noex b o e)⟩
theorem Inv.bk (I : Inv X pins σ H s) : ∀ b o, X.base.get? b = some o → s.heap.get? b = some o := fun b o e => (I.bs b o e).1
theorem Inv.mod (I : Inv X pins σ H s) : Mod X.K X.mg X.base := I.ok.mod
theorem Inv.kIn (I : Inv X pins σ H s) : X.K.In s.heap := I.ok.mod.kin.keeps I.bk
theorem Inv.lt (I : Inv X pins σ H s) : X.env.locals < s.heap.objs.size := let ⟨_, hn, _⟩ := I.loc; hn.lt
theorem Inv.sz (I : Inv X pins σ H s) : X.s₀.heap.objs.size ≤ s.heap.objs.size := Nat.le_trans I.ok.above (Nat.le_of_lt I.lt)
theorem Inv.nofs (I : Inv X pins σ H s) {a : Addr} (h : s.heap.objs.size ≤ a) : a ∉ X.fs := fun hb => by
  obtain ⟨_, o, ho, _⟩ := I.ok.funs.mem hb
  exact absurd (Nat.lt_of_lt_of_le (Heap.lt_size ho) (Nat.le_trans I.sz h)) (Nat.lt_irrefl _)
theorem Inv.cne (I : Inv X pins σ H s) : ∀ x c, X.env.cells.lookup x = some c → c ≠ X.env.locals := fun x c e z => by
  obtain ⟨v, o, ho, hd⟩ := I.cell x c e
  obtain ⟨m, ⟨o', es, ep, ho', hd', _⟩, _⟩ := I.loc
  rw [z, ho'] at ho; cases ho; rw [hd'] at hd; cases hd
theorem Inv.funs (I : Inv X pins σ H s) : s.heap.FunFrames X.base X.outer := by
  have all : ∀ (l : List Env), (∀ b ∈ frs l, b ∈ X.fs) → X.s₀.heap.FunFrames X.base l → s.heap.FunFrames X.base l := by
    intro l
    induction l with
    | nil => intro _ _; trivial
    | cons env r ih =>
      intro hs hl
      obtain ⟨hk, ⟨L, o, hf, hn, ho, hd⟩, hr⟩ := hl
      have hL : L ∈ X.fs := hs L (by unfold frs; rw [List.filterMap_cons, hf]; exact List.mem_cons_self)
      obtain ⟨sl, e⟩ := I.base.slot L o ho (I.ok.frf L hL) hL fun z => I.ok.exfs L z hL
      exact ⟨hk, ⟨L, _, hf, hn, e, hd⟩, ih (fun b hb => hs b (by unfold frs; rw [List.filterMap_cons, hf]; exact List.mem_cons_of_mem _ hb)) hr⟩
  exact all X.outer (fun _ hb => hb) I.ok.funs
theorem Inv.stack (I : Inv X pins σ H s) : s.heap.FunFrames X.base X.stack := by
  rcases I.ok.stk with e | ⟨e, hf⟩
  · rw [e]; exact I.funs
  · rw [e]
    obtain ⟨m, hn, _⟩ := I.loc
    refine .cons (by rw [I.ok.kind]; decide) hf hn ?_ I.funs
    exact Heap.get?_none_of_le (Nat.le_trans I.ok.bsz I.ok.above)
theorem Inv.stkSub (I : Inv X pins σ H s) : ∀ b ∈ frs X.stack, b ∈ X.env.locals :: X.fs := fun b hb => by
  rcases I.ok.stk with e | ⟨e, hf⟩
  · rw [e] at hb; exact List.mem_cons_of_mem _ hb
  · rw [e] at hb
    unfold frs at hb
    rw [List.filterMap_cons, hf] at hb
    exact hb
theorem Inv.stkFree (I : Inv X pins σ H s) : ∀ b ∈ frs X.stack, H b = none := fun b hb => by
  rcases List.mem_cons.mp (I.stkSub b hb) with e | hb
  · rw [e]; exact I.free
  · obtain ⟨_, o, ho, _⟩ := I.ok.funs.mem hb
    exact I.base.free b o ho (I.ok.frf b hb) fun z => I.ok.exfs b z hb
theorem Inv.step {g' : Array GenState} {t' : Nat} {d' : Drawn} {ch : List Addr} (I : Inv X pins σ H s)
    (hch : ∀ b ∈ ch, (b ∈ X.ex ∨ X.s₀.heap.objs.size ≤ b) ∧ b ≠ X.env.locals ∧ (∀ x c, X.env.cells.lookup x = some c → c ≠ b) ∧ ∀ p ∈ X.pn ++ pins, p.1 ≠ b)
    (keep : ∀ b o, b ≠ X.env.locals → b ∉ X.fs → b ∉ ch → s.heap.get? b = some o → H b = none → h'.get? b = some o)
    (slot : ∀ b o, b ≠ X.env.locals → b ∈ X.fs → b ∉ ch → s.heap.get? b = some o → H b = none → ∃ sl, h'.get? b = some { o with slots := sl }) (free : ∀ b o, b ∉ ch → s.heap.get? b = some o → H b = none → H' b = none)
    (there : ∀ b o, b ∉ ch → s.heap.get? b = some o → ∃ o', h'.get? b = some o')
    (tups : ∀ b xs, H b = some (.tup xs) → H' b = some (.tup xs)) (frzs : ∀ b o u, H b = some (.frz o u) → H' b = some (.frz o u)) (tbls : ∀ b ps, H b = some (.tbl ps) → ∃ more, H' b = some (.tbl (ps ++ more)))
    (ns : ∀ m, s.heap.Ns X.env.locals m → h'.Ns X.env.locals m) (hok : HOk X.prog X.w H' h') (hg : AllBare g') :
    Inv X pins σ H' { s with heap := h', gens := g', drawn := d', toks := t' } := by
  have neL : ∀ b o, X.s₀.heap.get? b = some o → b ≠ X.env.locals := fun b o e => Nat.ne_of_lt (Nat.lt_of_lt_of_le (Heap.lt_size e) I.ok.above)
  have neC : ∀ b o, X.s₀.heap.get? b = some o → b ∉ X.ex → b ∉ ch := fun b o e hx hb => by
    rcases (hch b hb).1 with z | z
    · exact hx z
    · exact absurd (Nat.lt_of_lt_of_le (Heap.lt_size e) z) (Nat.lt_irrefl _)
  have cellK : ∀ x c, X.env.cells.lookup x = some c → ∀ v, s.heap.IsCell c v → h'.IsCell c v := fun x c e v ⟨o, ho, hd⟩ => by
    have nch : c ∉ ch := fun z => (hch c z).2.2.1 x c e rfl
    by_cases hc : c ∈ X.fs
    · obtain ⟨sl, q⟩ := slot c o (I.cne x c e) hc nch ho (I.freeC x c e)
      exact ⟨_, q, hd⟩
    · exact ⟨o, keep c o (I.cne x c e) hc nch ho (I.freeC x c e), hd⟩
  refine ⟨I.ok, I.os, hg, ⟨fun b o e n hb hx => ?_, fun b o e n hb hx => ?_, fun b o e n hx => ?_, fun b o e hx => ?_, fun b xs e => tups b xs (I.base.tups b xs e), fun b o xs e => frzs b o xs (I.base.frzs b o xs e), fun b ps e => ?_⟩, ?_, fun x c e => ?_, ?_, fun x c e => ?_, fun p hp => ?_, hok, I.len⟩
  · exact keep b o (neL b o e) hb (neC b o e hx) (I.base.keep b o e n hb hx) (I.base.free b o e n hx)
  · obtain ⟨sl, e1⟩ := I.base.slot b o e n hb hx
    obtain ⟨sl', e2⟩ := slot b _ (neL b o e) hb (neC b o e hx) e1 (I.base.free b o e n hx)
    exact ⟨sl', e2⟩
  · obtain ⟨o', e1⟩ := I.base.there b o e hx
    exact free b o' (neC b o e hx) e1 (I.base.free b o e n hx)
  · obtain ⟨o', e1⟩ := I.base.there b o e hx
    exact there b o' (neC b o e hx) e1
  · obtain ⟨m1, e1⟩ := I.base.tbls b ps e
    obtain ⟨m2, e2⟩ := tbls b _ e1
    exact ⟨m1 ++ m2, by rw [e2, Array.append_assoc]⟩
  · obtain ⟨m, hn, hl⟩ := I.loc
    refine ⟨m, ns m hn, fun i x v e1 e2 e3 => ?_⟩
    obtain ⟨u, r, l⟩ := hl i x v e1 e2 e3
    refine ⟨u, r, ?_⟩
    rcases l with l | ⟨k, c, e, z⟩
    · exact .inl l
    · exact .inr ⟨k, c, e, cellK x c e _ z⟩
  · obtain ⟨v, z⟩ := I.cell x c e
    exact ⟨v, cellK x c e v z⟩
  · obtain ⟨m, ⟨o, _, _, ho, _⟩, _⟩ := I.loc
    exact free _ o (fun z => (hch _ z).2.1 rfl) ho I.free
  · obtain ⟨v, o, ho, hd⟩ := I.cell x c e
    exact free c o (fun z => (hch c z).2.2.1 x c e rfl) ho (I.freeC x c e)
  · obtain ⟨e, n, ne, nf, d⟩ := I.pin p hp
    have nch : p.1 ∉ ch := fun z => (hch p.1 z).2.2.2 p hp rfl
    exact ⟨keep p.1 p.2 ne nf nch e n, free p.1 p.2 nch e n, ne, nf, d⟩
theorem Inv.un {t' : Nat} (I : Inv X pins σ H s) (u : Un X.fs [] H H' s.heap h') (hok : HOk X.prog X.w H' h') : Inv X pins σ H' { s with heap := h', toks := t' } := by
  obtain ⟨m, ⟨o, es, ep, ho, r⟩, _⟩ := id I.loc
  obtain ⟨sl, hL⟩ := u.any ho I.free (by simp)
  exact I.step (g' := s.gens) (d' := s.drawn) (ch := []) (fun _ z => nomatch z) (fun b o _ hb _ e n => u.keep b o e n hb (by simp)) (fun b o _ hb _ e n => u.slot b o e n hb (by simp)) (fun b o _ e n => u.free b o e n (by simp)) (fun b o _ e => u.there b o e (by simp)) u.tups u.frzs u.tbls (fun m' hm => by
    obtain ⟨o', es', ep', ho', r'⟩ := hm
    rw [ho] at ho'; cases ho'
    exact ⟨_, es', ep', hL, r'⟩) hok I.bare
theorem Inv.call {g' : Array GenState} {t' : Nat} {d' : Drawn} {ch : List Addr} (I : Inv X pins σ H s) (u : Un (frs X.stack) ch H H' s.heap h') (hok : HOk X.prog X.w H' h') (hg : AllBare g')
    (hch : ∀ b ∈ ch, (b ∈ X.ex ∨ X.s₀.heap.objs.size ≤ b) ∧ b ≠ X.env.locals ∧ (∀ x c, X.env.cells.lookup x = some c → c ≠ b) ∧ ∀ p ∈ X.pn ++ pins, p.1 ≠ b) :
    Inv X pins σ H' { s with heap := h', gens := g', drawn := d', toks := t' } := by
  obtain ⟨m, ⟨o, es, ep, ho, r⟩, _⟩ := id I.loc
  obtain ⟨sl, hL⟩ := u.any ho I.free fun z => (hch _ z).2.1 rfl
  exact I.step (ch := ch) hch (fun b o hL hb hc e n => u.keep b o e n (fun z => (List.mem_cons.mp (I.stkSub b z)).elim hL hb) hc) (fun b o _ _ hc e n => u.any e n hc) (fun b o hc e n => u.free b o e n hc) (fun b o hc e => u.there b o e hc) u.tups u.frzs u.tbls (fun m' hm => by
    obtain ⟨o', es', ep', ho', r'⟩ := hm
    rw [ho] at ho'; cases ho'
    exact ⟨_, es', ep', hL, r'⟩) hok hg
theorem Inv.turned {t' : Nat} {it : Addr} (I : Inv X pins σ H s) (k : ∀ b o, b ≠ it → s.heap.get? b = some o → h'.get? b = some o) (hn : H it = none) (hL : it ≠ X.env.locals)
    (h1 : it ∈ X.ex ∨ X.s₀.heap.objs.size ≤ it) (h2 : ∀ x c, X.env.cells.lookup x = some c → c ≠ it) (h3 : ∀ p ∈ X.pn ++ pins, p.1 ≠ it) : Inv X pins σ H { s with heap := h', toks := t' } := by
  have nit : ∀ b u, H b = some u → b ≠ it := fun b u e z => by rw [z, hn] at e; cases e
  refine I.step (g' := s.gens) (d' := s.drawn) (ch := [it]) (fun b hb => ?_) (fun b o _ _ hc e _ => k b o (fun z => hc (by simp [z])) e) (fun b o _ _ hc e _ => ⟨o.slots, k b o (fun z => hc (by simp [z])) e⟩) (fun _ _ _ _ n => n)
    (fun b o hc e => ⟨o, k b o (fun z => hc (by simp [z])) e⟩) (fun _ _ e => e) (fun _ _ _ e => e) (fun b ps e => ⟨#[], by rw [e]; simp⟩) (fun m hm => ?_) (fun b u e => ?_) I.bare
  · have e : b = it := by simpa using hb
    subst e
    exact ⟨h1, hL, h2, h3⟩
  · obtain ⟨o, es, ep, ho, r⟩ := hm
    exact ⟨o, es, ep, k _ o (Ne.symm hL) ho, r⟩
  · refine (I.hok b u e).stay (fun c v hc q => k c v ?_ q) (fun _ q => q) fun _ _ q => q
    rcases hc with z | z
    · rw [z]; exact nit b u e
    · exact nit c _ z
theorem Inv.tok (I : Inv X pins σ H s) (t : Nat) : Inv X pins σ H { s with toks := t } := I.un (h' := s.heap) (t' := t) Un.refl I.hok
theorem Inv.kept {t' : Nat} (I : Inv X pins σ H s) (k : ∀ b u, s.heap.get? b = some u → h'.get? b = some u) : Inv X pins σ H { s with heap := h', toks := t' } := I.un (Un.kept k) (I.hok.kept k)
theorem Inv.laid {a : Addr} {o : HO} {t' : Nat} (I : Inv X pins σ H s) (k : ∀ b u, s.heap.get? b = some u → h'.get? b = some u) (hp : s.heap.objs.size ≤ a) (new : ObjOk X.prog X.w (upd H a o) h' a o) :
    Inv X pins σ (upd H a o) { s with heap := h', toks := t' } := I.un (Un.laid k hp (I.hok.fresh hp)) (I.hok.laid k hp new)
theorem Inv.write {x e : Addr} {o : HO} {t' : Nat} (I : Inv X pins σ H s) (mu : Mut (H x)) (he : e = x ∨ H e = some (.own x)) (k : ∀ b u, b ≠ e → s.heap.get? b = some u → h'.get? b = some u) (heo : ∃ u, h'.get? e = some u)
    (new : ObjOk X.prog X.w (upd H x o) h' x o) : Inv X pins σ (upd H x o) { s with heap := h', toks := t' } := I.un (Un.write mu he k heo) (I.hok.write mu he k heo new)
theorem Inv.pins_of {pins' : List (Addr × Obj)} (I : Inv X pins σ H s) (h : ∀ p ∈ pins', s.heap.get? p.1 = some p.2 ∧ H p.1 = none ∧ p.1 ≠ X.env.locals ∧ p.1 ∉ X.fs ∧ ∀ v, p.2.data ≠ .cell v) : Inv X pins' σ H s :=
  ⟨I.ok, I.os, I.bare, I.base, I.loc, I.cell, I.free, I.freeC, fun p hp => (List.mem_append.mp hp).elim (fun z => I.pin p (List.mem_append_left _ z)) (h p), I.hok, I.len⟩
theorem nodup_ix {N : List Str} (hN : N.Nodup) {i j : Nat} {x : Str} (a : N[i]? = some x) (b : N[j]? = some x) : i = j := by
  obtain ⟨h1, e1⟩ := List.getElem?_eq_some_iff.mp a
  obtain ⟨h2, e2⟩ := List.getElem?_eq_some_iff.mp b
  exact (List.getElem_inj hN).mp (e1.trans e2.symm)
theorem store_ok2 {M : Model} {A : Around} {E : Value → Shared → Prop} {i : Nat} {x : Str} {v : V} {u : Value} {Q : Unit → Shared → Prop} (I : Inv X pins σ H s) (hN : X.N.Nodup) (hi : X.N[i]? = some x) (hx : Loc X.env.scope x) (r : RelV v u)
    (h : ∀ s', Inv X pins (σ.set i (some v)) H s' → (∃ a, Heap.SameBut a s.heap s'.heap ∧ (a = X.env.locals ∨ X.env.cells.lookup x = some a)) → Q () s') (hf : X.fn x = true ∨ X.env.scope.names.lookup x = some .local := by first | exact .inl rfl | exact .inr rfl | assumption) : wpAny M A (storeName X.env x u) Q E s := by
  obtain ⟨m, hn, hl⟩ := id I.loc
  have hcls : (X.env.scope.kind == .class || (X.env.scope.kind == .module && X.env.locals != X.env.globals)) = false := by rw [I.ok.kind]; rfl
  have hiσ : i < σ.length := by rw [I.len]; exact (List.getElem?_eq_some_iff.mp hi).1
  have cne := I.cne
  have tracked : ∀ {a : Addr} {h' : Heap}, (∃ o, s.heap.get? a = some o ∧ H a = none) → Heap.SameBut a s.heap h' → HOk X.prog X.w H h' := fun {a h'} ha hs b ob e => by
    obtain ⟨_, _, hfree⟩ := ha
    refine (I.hok b ob e).stay (fun c w' hc q => (hs.2 c ?_).trans q) (fun _ q => q) fun _ _ q => q
    rintro rfl
    rcases hc with rfl | hc
    · rw [hfree] at e; cases e
    · rw [hfree] at hc; cases hc
  rcases hx with hk | hk
  · refine wpAny_storeName_local hk hn (fun h' hn' hs => ?_) hcls
    obtain ⟨oL, _, _, hoL, _⟩ := id hn
    refine h _ ⟨I.ok, I.os, I.bare, ⟨fun b o e n hb hx => ?_, fun b o e n hb hx => ?_, I.base.free, fun b o e hx => ?_, I.base.tups, I.base.frzs, I.base.tbls⟩, ⟨_, hn', fun j y v' e1 e2 e3 => ?_⟩, fun y c e => ?_, I.free, I.freeC, fun p hp => ?_, tracked ⟨oL, hoL, I.free⟩ hs, by simpa using I.len⟩ ⟨_, hs, .inl rfl⟩
    · exact (hs.2 b (Nat.ne_of_lt (Nat.lt_of_lt_of_le (Heap.lt_size e) I.ok.above))).trans (I.base.keep b o e n hb hx)
    · obtain ⟨sl, e1⟩ := I.base.slot b o e n hb hx
      exact ⟨sl, (hs.2 b (Nat.ne_of_lt (Nat.lt_of_lt_of_le (Heap.lt_size e) I.ok.above))).trans e1⟩
    · obtain ⟨o', e1⟩ := I.base.there b o e hx
      exact ⟨o', (hs.2 b (Nat.ne_of_lt (Nat.lt_of_lt_of_le (Heap.lt_size e) I.ok.above))).trans e1⟩
    · by_cases hj : j = i
      · subst hj
        rw [hi] at e1; cases e1
        rw [List.getElem?_set_self hiσ] at e2
        cases e2
        exact ⟨u, r, .inl ⟨hk, by simp⟩⟩
      · rw [List.getElem?_set_ne (Ne.symm hj)] at e2
        obtain ⟨u', r', q⟩ := hl j y v' e1 e2 e3
        refine ⟨u', r', ?_⟩
        rcases q with ⟨k, e⟩ | ⟨k, c, e, z⟩
        · refine .inl ⟨k, ?_⟩
          have : y ≠ x := fun e => hj (nodup_ix hN e1 (e ▸ hi))
          simp [this, e]
        · exact .inr ⟨k, c, e, z.sameBut hs (cne y c e)⟩
    · obtain ⟨w', z⟩ := I.cell y c e
      exact ⟨w', z.sameBut hs (cne y c e)⟩
    · obtain ⟨e, n, ne, nf, d⟩ := I.pin p hp
      exact ⟨(hs.2 p.1 ne).trans e, n, ne, nf, d⟩
  · have hfn : X.fn x = true := by
      rcases hf with z | z
      · exact z
      · rw [z] at hk; cases hk
    obtain ⟨c, hc⟩ := I.ok.has x (.inl hk)
    obtain ⟨w', z⟩ := I.cell x c hc
    refine wpAny_storeName_cell I.ok.kind hk hc z (fun h' hc' hs => ?_)
    obtain ⟨oc, hoc, hocd⟩ := id z
    refine h { s with heap := h' } ⟨I.ok, I.os, I.bare, ⟨fun b o e n hb hx => ?_, fun b o e n hb hx => ?_, I.base.free, fun b o e hx => ?_, I.base.tups, I.base.frzs, I.base.tbls⟩, ⟨m, hn.sameBut hs (Ne.symm (cne x c hc)), fun j y v' e1 e2 e3 => ?_⟩, fun y c' e => ?_, I.free, I.freeC, fun p hp => ?_, tracked ⟨oc, hoc, I.freeC x c hc⟩ hs, by simpa using I.len⟩ ⟨c, hs, .inr hc⟩
    · exact (hs.2 b (Nat.ne_of_lt (Nat.lt_of_lt_of_le (Heap.lt_size e) (I.ok.cab x c hfn hc)))).trans (I.base.keep b o e n hb hx)
    · obtain ⟨sl, e1⟩ := I.base.slot b o e n hb hx
      exact ⟨sl, (hs.2 b (Nat.ne_of_lt (Nat.lt_of_lt_of_le (Heap.lt_size e) (I.ok.cab x c hfn hc)))).trans e1⟩
    · obtain ⟨o', e1⟩ := I.base.there b o e hx
      exact ⟨o', (hs.2 b (Nat.ne_of_lt (Nat.lt_of_lt_of_le (Heap.lt_size e) (I.ok.cab x c hfn hc)))).trans e1⟩
    · by_cases hj : j = i
      · subst hj
        rw [hi] at e1; cases e1
        rw [List.getElem?_set_self hiσ] at e2
        cases e2
        exact ⟨u, r, .inr ⟨.inl hk, c, hc, hc'⟩⟩
      · rw [List.getElem?_set_ne (Ne.symm hj)] at e2
        obtain ⟨u', r', q⟩ := hl j y v' e1 e2 e3
        refine ⟨u', r', ?_⟩
        rcases q with q | ⟨k, c', e, z'⟩
        · exact .inl q
        · refine .inr ⟨k, c', e, z'.sameBut hs ?_⟩
          rintro rfl
          exact hj (nodup_ix hN e1 (I.ok.inj _ _ _ e hc ▸ hi))
    · by_cases hcc : c' = c
      · subst hcc; exact ⟨_, hc'⟩
      · obtain ⟨w2, z2⟩ := I.cell y c' e
        exact ⟨w2, z2.sameBut hs hcc⟩
    · obtain ⟨e, n, ne, nf, d⟩ := I.pin p hp
      refine ⟨(hs.2 p.1 ?_).trans e, n, ne, nf, d⟩
      intro q
      rw [q, hoc] at e
      have q' : oc = p.2 := Option.some.inj e
      exact d w' (by rw [← q']; exact hocd)
theorem store_ok {M : Model} {A : Around} {E : Value → Shared → Prop} {i : Nat} {x : Str} {v : V} {u : Value} {Q : Unit → Shared → Prop} (I : Inv X pins σ H s) (hN : X.N.Nodup) (hi : X.N[i]? = some x) (hx : Loc X.env.scope x) (r : RelV v u)
    (h : ∀ s', Inv X pins (σ.set i (some v)) H s' → Q () s') (hf : X.fn x = true ∨ X.env.scope.names.lookup x = some .local := by first | exact .inl rfl | exact .inr rfl | assumption) : wpAny M A (storeName X.env x u) Q E s :=
  store_ok2 I hN hi hx r (fun s' I' _ => h s' I') hf
theorem Inv.call' {s' : Shared} {ch : List Addr} (I : Inv X pins σ H s) (ho : s'.os = s.os) (u : Un (frs X.stack) ch H H' s.heap s'.heap) (hok : HOk X.prog X.w H' s'.heap) (hg : AllBare s'.gens)
    (hch : ∀ b ∈ ch, (b ∈ X.ex ∨ X.s₀.heap.objs.size ≤ b) ∧ b ≠ X.env.locals ∧ (∀ x c, X.env.cells.lookup x = some c → c ≠ b) ∧ ∀ p ∈ X.pn ++ pins, p.1 ≠ b) : Inv X pins σ H' s' := by
  obtain ⟨h', g', d', t', o'⟩ := s'
  have e : o' = s.os := ho
  subst e
  exact I.call (g' := g') (t' := t') (d' := d') u hok hg hch
end
noncomputable abbrev XK := Value → Option Addr → Hp → Prop
noncomputable abbrev St := List (Option V)
noncomputable abbrev VK := V → Hp → Prop
noncomputable abbrev TE := St → Hp → VK → Prop
noncomputable abbrev TT := St → Hp → (Bool → Hp → Prop) → Prop
noncomputable abbrev TA := St → Hp → (List V → Hp → Prop) → Prop
structure Ends where
  nx : St → Hp → Prop
  rt : VK
  bk : St → Hp → Prop := fun _ _ => False
  ct : St → Hp → Prop := fun _ _ => False
noncomputable abbrev TS := Ends → St → Hp → Prop
noncomputable def EP (X : Cx) (pins : List (Addr × Obj)) (σ : St) (Q : VK) (u : Value) (s' : Shared) : Prop := ∃ v H', Inv X pins σ H' s' ∧ RelV v u ∧ Q v H'
noncomputable def TP (X : Cx) (pins : List (Addr × Obj)) (σ : St) (Q : Bool → Hp → Prop) (b : Bool) (s' : Shared) : Prop := ∃ H', Inv X pins σ H' s' ∧ Q b H'
noncomputable def AP (X : Cx) (pins : List (Addr × Obj)) (σ : St) (Q : List V → Hp → Prop) (us : List Value) (s' : Shared) : Prop := ∃ vs H', Inv X pins σ H' s' ∧ Vals vs us ∧ Q vs H'
noncomputable def SP (X : Cx) (pins : List (Addr × Obj)) (D : Ends) (f : Flow) (s' : Shared) : Prop :=
  match f with
  | .next => ∃ σ' H', Inv X pins σ' H' s' ∧ D.nx σ' H'
  | .brk => ∃ σ' H', Inv X pins σ' H' s' ∧ D.bk σ' H'
  | .cont => ∃ σ' H', Inv X pins σ' H' s' ∧ D.ct σ' H'
  | .ret u => ∃ v σ' H', Inv X pins σ' H' s' ∧ RelV v u ∧ D.rt v H'
noncomputable def PE (X : Cx) (e : Expr) (t : TE) : Prop :=
  ∀ (pins : List (Addr × Obj)) (s : Shared) (σ : St) (H : Hp) (Q : VK), Inv X pins σ H s → t σ H Q → wpAny (model X.prog X.w) X.A (eval e X.env) (EP X pins σ Q) X.xe s
noncomputable def PT (X : Cx) (e : Expr) (t : TT) : Prop :=
  ∀ (pins : List (Addr × Obj)) (s : Shared) (σ : St) (H : Hp) (Q : Bool → Hp → Prop), Inv X pins σ H s → t σ H Q → wpAny (model X.prog X.w) X.A (isTrue e X.env (eval e X.env)) (TP X pins σ Q) X.xe s
noncomputable def PW (X : Cx) (e : Expr) (t : TT) : Prop :=
  ∀ (whole : Sem Value) (pins : List (Addr × Obj)) (s : Shared) (σ : St) (H : Hp) (Q : Bool → Hp → Prop), Inv X pins σ H s → t σ H Q → wpAny (model X.prog X.w) X.A (isTrue e X.env whole) (TP X pins σ Q) X.xe s
theorem PW.pt {X : Cx} {e : Expr} {t : TT} (h : PW X e t) : PT X e t := h _
noncomputable def PA (X : Cx) (es : List Expr) (t : TA) : Prop :=
  ∀ (pos : Pos) (pins : List (Addr × Obj)) (s : Shared) (σ : St) (H : Hp) (Q : List V → Hp → Prop), Inv X pins σ H s → t σ H Q → wpAny (model X.prog X.w) X.A (spliced (backTo pos (starEach es X.env))) (AP X pins σ Q) X.xe s
noncomputable def PS (X : Cx) (st : Stmt) (t : TS) : Prop :=
  ∀ (pins : List (Addr × Obj)) (s : Shared) (σ : St) (H : Hp) (D : Ends), Inv X pins σ H s → t D σ H → wpAny (model X.prog X.w) X.A (exec st X.env) (SP X pins D) X.xe s
noncomputable def PSs (X : Cx) (st : List Stmt) (t : TS) : Prop :=
  ∀ (pins : List (Addr × Obj)) (s : Shared) (σ : St) (H : Hp) (D : Ends), Inv X pins σ H s → t D σ H → wpAny (model X.prog X.w) X.A (execs st X.env) (SP X pins D) X.xe s
theorem thn {α : Type} {t : Sem α} {Q Q' : α → Shared → Prop} {M : Model} {A : Around} {E : Value → Shared → Prop} {s : Shared} (h : wpAny M A t Q E s) (hQ : ∀ a s, Q a s → Q' a s) : wpAny M A t Q' E s := wpAny_mono h hQ fun _ _ x => x
end L2
namespace L2
open PySem PySem.Spec PyProof.Rows
section
variable {X : Cx}
noncomputable def tVar (i : Nat) : TE := fun σ H Q => ∃ v, σ[i]? = some (some v) ∧ Q v H
noncomputable def tC (v : V) : TE := fun _ H Q => Q v H
theorem pe_var {i : Nat} {x : Str} {pos : Pos} (hN : X.N[i]? = some x) (hv : Vis X.env.scope x) (hd : (x == ("__debug__" : Str)) = false := by decide) (hcd : (x == ("__classdict__" : Str)) = false := by decide) : PE X (.Name x pos) (tVar i) := by
  intro pins s σ H Q I h
  obtain ⟨v, e, h⟩ := h
  obtain ⟨m, hn, hl⟩ := I.loc
  obtain ⟨u, r, l⟩ := hl i x v hN e hv
  have fin : EP X pins σ Q u s := ⟨v, H, I, r, h⟩
  rcases l with ⟨hk, hm⟩ | ⟨hk, c, hc, hcell⟩
  · exact wpAny_Name (wpAny_loadName_local I.ok.kind hk hn hm fin) hd
  · rcases hk with hk | hk
    · exact wpAny_Name (wpAny_loadName_cell I.ok.kind hk hc hcell fin) hd
    · exact wpAny_Name (wpAny_loadName_free I.ok.kind hk hc hcell fin hcd) hd
theorem pe_int {i j pos} : PE X (.Constant (.int i) j pos) (tC (.int i)) := fun _ _ _ H _ I h => wpAny_Constant_int ⟨.int i, H, I.tok _, ⟨_, rfl⟩, h⟩
theorem pe_bl {b j pos} : PE X (.Constant (.bool b) j pos) (tC (.bl b)) := fun _ _ _ H _ I h => Constant_bool ⟨.bl b, H, I, rfl, h⟩
theorem pe_non {j pos} : PE X (.Constant .none j pos) (tC .non) := fun _ _ _ H _ I h => Constant_none ⟨.non, H, I, rfl, h⟩
theorem pe_str {x j pos} : PE X (.Constant (.str x) j pos) (tC (.str x)) := fun _ _ _ H _ I h => Calls.Constant_str ⟨.str x, H, I.tok _, ⟨_, rfl⟩, h⟩
noncomputable def Gl (X : Cx) (x : Str) : Prop := X.env.kindOf x = some .globalImplicit
theorem ld_glob {E : Value → Shared → Prop} {pins : List (Addr × Obj)} {s : Shared} {σ : St} {H : Hp} {x : Str} {u : Value} {pos : Pos} {Q : Value → Shared → Prop} (I : Inv X pins σ H s) (hg : Gl X x) (hm : X.mg x = some u) (h : Q u s)
    (hd : (x == ("__debug__" : Str)) = false := by decide) : wpAny (model X.prog X.w) X.A (eval (.Name x pos) X.env) Q E s :=
  Calls.Name_function_global I.ok.kind hg (Calls.loadGlobal_global (by rw [I.ok.glob]; exact I.mod.glob.keeps I.bk) hm h) hd
theorem ld_blt {E : Value → Shared → Prop} {pins : List (Addr × Obj)} {s : Shared} {σ : St} {H : Hp} {x : Str} {u : Value} {pos : Pos} {Q : Value → Shared → Prop} (I : Inv X pins σ H s) (hg : Gl X x) (hm : X.mg x = none) (hv : bootBuiltins x = some u) (h : Q u s)
    (hn : x ≠ "__name__" := by decide) (hd : (x == ("__debug__" : Str)) = false := by decide) : wpAny (model X.prog X.w) X.A (eval (.Name x pos) X.env) Q E s := by
  obtain ⟨mb, h1, h2⟩ := I.mod.blt
  exact Calls.Name_function_global I.ok.kind hg (Calls.loadGlobal_builtin (by rw [I.ok.glob]; exact I.mod.glob.keeps I.bk) hm (by rw [I.ok.blt]; exact h1.keeps I.bk) ((h2 x hn).trans hv) h) hd
theorem pe_glob {x : Str} {v : V} {u : Value} {pos : Pos} (hg : Gl X x) (hm : X.mg x = some u) (r : RelV v u) (hd : (x == ("__debug__" : Str)) = false := by decide) : PE X (.Name x pos) (tC v) :=
  fun _ _ _ H _ I h => ld_glob I hg hm ⟨v, H, I, r, h⟩ hd
theorem pe_bltn {x : Str} {v : V} {u : Value} {pos : Pos} (hg : Gl X x) (hm : X.mg x = none) (hv : bootBuiltins x = some u) (r : RelV v u) (hn : x ≠ "__name__" := by decide) (hd : (x == ("__debug__" : Str)) = false := by decide) : PE X (.Name x pos) (tC v) :=
  fun _ _ _ H _ I h => ld_blt I hg hm hv ⟨v, H, I, r, h⟩ hn hd
variable {a b : Expr} {ta tb : TE} {pos : Pos}
noncomputable def PC (X : Cx) (op : CmpOp) (a b : Expr) (t : TE) : Prop :=
  ∀ (pins : List (Addr × Obj)) (s : Shared) (σ : St) (H : Hp) (Q : VK), Inv X pins σ H s → t σ H Q →
    wpAny (model X.prog X.w) X.A (eval a X.env) (fun v s₁ => wpAny (model X.prog X.w) X.A (eval b X.env) (fun u s₂ => wpAny (model X.prog X.w) X.A (compareOp op v u) (EP X pins σ Q) X.xe s₂) X.xe s₁) X.xe s
noncomputable def tIsN (ta : TE) : TE := fun σ H Q => ta σ H fun x H1 => Q (.bl (decide (x = .non))) H1
theorem RelV.none_iff {x : V} {v : Value} (r : RelV x v) : (v == Value.none) = decide (x = .non) := by
  cases x with
  | non => cases r; rfl
  | bl _ => cases r; rfl
  | int _ => obtain ⟨t, rfl⟩ := r; rfl
  | str _ => obtain ⟨t, rfl⟩ := r; rfl
  | byt _ => obtain ⟨t, rfl⟩ := r; rfl
  | flt _ => obtain ⟨t, rfl⟩ := r; rfl
  | ref _ => cases r; rfl
  | ty _ => cases r; rfl
theorem pc_isN {j pos'} (ha : PE X a ta) : PC X .Is a (.Constant .none j pos') (tIsN ta) := by
  intro pins s σ H Q I h
  refine thn (ha pins s σ H _ I h) fun v s1 ⟨x, H1, I1, r1, q1⟩ => ?_
  exact Constant_none (is_none_gen ⟨.bl _, H1, I1, by rw [r1.none_iff]; rfl, q1⟩)
noncomputable def tB (t : TE) : TT := fun σ H Q => t σ H fun x H1 => ∃ c, x = .bl c ∧ Q c H1
theorem pt_cmp {op : CmpOp} {t : TE} (h : PC X op a b t) (h1 : behindInMarks op b = false := by first | exact nobehind _ (by decide) (by decide) | rfl) : PT X (.Compare a [op] [b] pos) (tB t) := by
  intro pins s σ H Q I hw
  refine wpAny_isTrue_Compare1 (thn (h pins s σ H _ I hw) fun v s1 h1 => thn h1 fun u s2 h2 => thn h2 fun c s3 ⟨x, H1, I1, r1, q1⟩ => ?_) h1
  obtain ⟨d, rfl, q⟩ := q1
  cases r1
  exact wpAny_truthy_bool ⟨H1, I1, q⟩
theorem pt_val {e : Expr} {t : TE} (h : PE X e t) (he : ∀ whole, isTrue e X.env whole = (do let v ← whole; standAt e.pos; holding [v] (truthy v)) := by intro _; rfl) : PT X e (tB t) := by
  intro pins s σ H Q I hw
  refine isTrue_plain (thn (h pins s σ H _ I hw) fun v s1 ⟨x, H1, I1, r1, q1⟩ => ?_) (he _)
  obtain ⟨d, rfl, q⟩ := q1
  cases r1
  exact wpAny_truthy_bool ⟨H1, I1, q⟩
variable {tA tB' : TT} {rest : List Expr}
noncomputable def tAnd (t u : TT) : TT := fun σ H Q => t σ H fun c H1 => if c = true then u σ H1 Q else Q false H1
noncomputable def tOr (t u : TT) : TT := fun σ H Q => t σ H fun c H1 => if c = true then Q true H1 else u σ H1 Q
noncomputable def tNot (t : TT) : TT := fun σ H Q => t σ H fun c H1 => Q (!c) H1
theorem pw_and1 (ha : PT X a tA) : PW X (.BoolOp .And [a] pos) tA := by
  intro wh pins s σ H Q I h
  refine isTrue_and (thn (ha pins s σ H Q I h) fun c s1 e => ?_)
  cases c with
  | true => exact isTrue_and_nil e
  | false => exact e
theorem pw_or1 (ha : PT X a tA) : PW X (.BoolOp .Or [a] pos) tA := by
  intro wh pins s σ H Q I h
  refine isTrue_or (thn (ha pins s σ H Q I h) fun c s1 e => ?_)
  cases c with
  | false => exact isTrue_or_nil e
  | true => exact e
theorem pw_and (ha : PT X a tA) (hb : PW X (.BoolOp .And (b :: rest) pos) tB') : PW X (.BoolOp .And (a :: b :: rest) pos) (tAnd tA tB') := by
  intro wh pins s σ H Q I h
  refine isTrue_and (thn (ha pins s σ H _ I h) fun c s1 ⟨H1, I1, q1⟩ => ?_)
  cases c with
  | true => exact hb wh pins s1 σ H1 Q I1 q1
  | false => exact ⟨H1, I1, q1⟩
theorem pw_or (ha : PT X a tA) (hb : PW X (.BoolOp .Or (b :: rest) pos) tB') : PW X (.BoolOp .Or (a :: b :: rest) pos) (tOr tA tB') := by
  intro wh pins s σ H Q I h
  refine isTrue_or (thn (ha pins s σ H _ I h) fun c s1 ⟨H1, I1, q1⟩ => ?_)
  cases c with
  | true => exact ⟨H1, I1, q1⟩
  | false => exact hb wh pins s1 σ H1 Q I1 q1
theorem pt_not (ha : PT X a tA) : PT X (.UnaryOp .Not a pos) (tNot tA) := by
  intro pins s σ H Q I h
  exact isTrue_not (ha pins s σ H (fun c H1 => Q (!c) H1) I h)
noncomputable def tAndV (ta tb : TE) : TE := fun σ H Q => ta σ H fun x H1 => ∃ c, x = .bl c ∧ if c = true then tb σ H1 Q else Q (.bl false) H1
noncomputable def tOrV (ta tb : TE) : TE := fun σ H Q => ta σ H fun x H1 => ∃ c, x = .bl c ∧ if c = true then Q (.bl true) H1 else tb σ H1 Q
theorem pe_one {op} {t : TE} (h : PE X a t) : PE X (.BoolOp op [a] pos) t := fun pins s σ H Q I hw => BoolOp_one (h pins s σ H Q I hw)
theorem pe_and (ha : PE X a ta) (hb : PE X (.BoolOp .And (b :: rest) pos) tb) : PE X (.BoolOp .And (a :: b :: rest) pos) (tAndV ta tb) := by
  intro pins s σ H Q I h
  refine BoolOp_and (thn (ha pins s σ H _ I h) fun v s1 ⟨x, H1, I1, r1, q1⟩ => ?_)
  obtain ⟨c, rfl, q1⟩ := q1
  cases r1
  refine wpAny_truthy_bool ?_
  cases c with
  | true => exact hb pins s1 σ H1 Q I1 q1
  | false => exact ⟨.bl false, H1, I1, rfl, q1⟩
theorem pe_or (ha : PE X a ta) (hb : PE X (.BoolOp .Or (b :: rest) pos) tb) : PE X (.BoolOp .Or (a :: b :: rest) pos) (tOrV ta tb) := by
  intro pins s σ H Q I h
  refine BoolOp_or (thn (ha pins s σ H _ I h) fun v s1 ⟨x, H1, I1, r1, q1⟩ => ?_)
  obtain ⟨c, rfl, q1⟩ := q1
  cases r1
  refine wpAny_truthy_bool ?_
  cases c with
  | false => exact hb pins s1 σ H1 Q I1 q1
  | true => exact ⟨.bl true, H1, I1, rfl, q1⟩
noncomputable def tIf (t : TT) (ta tb : TE) : TE := fun σ H Q => t σ H fun c H1 => if c = true then ta σ H1 Q else tb σ H1 Q
theorem pe_ifExp {c : Expr} (hc : PT X c tA) (ha : PE X a ta) (hb : PE X b tb) : PE X (.IfExp c a b pos) (tIf tA ta tb) := by
  intro pins s σ H Q I h
  refine wpAny_IfExp (thn (hc pins s σ H _ I h) fun d s1 ⟨H1, I1, q1⟩ => ?_)
  cases d with
  | true => exact ha pins s1 σ H1 Q I1 q1
  | false => exact hb pins s1 σ H1 Q I1 q1
end
end L2
namespace L2
open PySem PySem.Spec PyProof.Rows
noncomputable def SqL (K : PySem.W.Frag) (H : Hp) (a : Addr) (xs : List V) : Prop :=
  Rd H a (.lst xs) ∨
    ∃ (o : Obj) (its : Array Value) (n : Nat), K.lookup a = some o ∧ o.cls = .type "list" ∧ o.dict = none ∧ o.data = .seq its n ∧ its.size ≤ sizeLine ∧ Vals xs its.toList
noncomputable def SqT (K : PySem.W.Frag) (H : Hp) (a : Addr) (xs : List V) : Prop :=
  Rd H a (.tup xs) ∨
    ∃ (o : Obj) (its : Array Value) (n : Nat), K.lookup a = some o ∧ o.cls = .type "tuple" ∧ o.data = .seq its n ∧ its.size ≤ sizeLine ∧ Vals xs its.toList
noncomputable def absV : Value → Option V
  | .none => some .non
  | .bool b => some (.bl b)
  | .int i _ => some (.int i)
  | .str x _ => some (.str x)
  | .bytes b _ => some (.byt b)
  | .float b _ => some (.flt b)
  | .ref a => some (.ref a)
  | .type n => some (.ty n)
  | _ => none
theorem RelV.abs {x : V} {u : Value} (r : RelV x u) : absV u = some x := by
  cases x with
  | non => cases r; rfl
  | bl _ => cases r; rfl
  | int _ => obtain ⟨t, rfl⟩ := r; rfl
  | str _ => obtain ⟨t, rfl⟩ := r; rfl
  | byt _ => obtain ⟨t, rfl⟩ := r; rfl
  | flt _ => obtain ⟨t, rfl⟩ := r; rfl
  | ref _ => cases r; rfl
  | ty _ => cases r; rfl
theorem RelV.inj {x y : V} {u : Value} (r : RelV x u) (q : RelV y u) : x = y := Option.some.inj (r.abs.symm.trans q.abs)
theorem Vals.inj : ∀ {xs ys : List V} {us : List Value}, Vals xs us → Vals ys us → xs = ys
  | _, _, _, .nil, .nil => rfl
  | _, _, _, .cons r t, .cons r' t' => by rw [r.inj r', Vals.inj t t']
section
variable {X : Cx} {pins : List (Addr × Obj)} {σ : St} {H : Hp} {s : Shared} {a : Addr} {xs ys : List V}
theorem SqL.of {K : PySem.W.Frag} (h : H a = some (.lst xs)) : SqL K H a xs := .inl (.inl h)
theorem SqT.of {K : PySem.W.Frag} (h : H a = some (.tup xs)) : SqT K H a xs := .inl (.inl h)
theorem Inv.list (I : Inv X pins σ H s) (h : SqL X.K H a xs) : ∃ its : List Value, Vals xs its ∧ PlainL s.heap a its.toArray ∧ xs.length ≤ sizeLine := by
  rcases h with h | ⟨o, its, n, hk, hc, hd, hs, hz, r⟩
  · obtain ⟨z, its, n, r, e⟩ := h.ok I.hok
    exact ⟨its, r, ⟨_, n, e, rfl, rfl, rfl⟩, z⟩
  · refine ⟨its.toList, r, ⟨o, n, I.kIn a o hk, hc, hd, by simpa using hs⟩, ?_⟩
    have e := r.length
    simp only [Array.length_toList] at e
    omega
theorem Inv.tuple (I : Inv X pins σ H s) (h : SqT X.K H a xs) : ∃ its : List Value, Vals xs its ∧ IsTup s.heap a its.toArray ∧ xs.length ≤ sizeLine := by
  rcases h with h | ⟨o, its, n, hk, hc, hs, hz, r⟩
  · obtain ⟨z, its, r, p⟩ := h.ok I.hok
    exact ⟨its, r, p, z⟩
  · refine ⟨its.toList, r, ⟨o, I.kIn a o hk, hc, n, by simpa using hs⟩, ?_⟩
    have e := r.length
    simp only [Array.length_toList] at e
    omega
theorem Inv.list_inj (I : Inv X pins σ H s) (h : SqL X.K H a xs) (h' : SqL X.K H a ys) : xs = ys := by
  obtain ⟨its, r, ⟨o, n, e, _, _, d⟩, _⟩ := I.list h
  obtain ⟨its', r', ⟨o', n', e', _, _, d'⟩, _⟩ := I.list h'
  rw [e] at e'; cases e'
  rw [d] at d'
  injection d' with d1 _
  have : its = its' := by simpa using congrArg Array.toList d1
  subst this
  exact r.inj r'
theorem Inv.tuple_inj (I : Inv X pins σ H s) (h : SqT X.K H a xs) (h' : SqT X.K H a ys) : xs = ys := by
  obtain ⟨its, r, ⟨o, e, _, n, d⟩, _⟩ := I.tuple h
  obtain ⟨its', r', ⟨o', e', _, n', d'⟩, _⟩ := I.tuple h'
  rw [e] at e'; cases e'
  rw [d] at d'
  injection d' with d1 _
  have : its = its' := by simpa using congrArg Array.toList d1
  subst this
  exact r.inj r'
end
noncomputable abbrev Cx.wish (X : Cx) (E : Value → Shared → Prop) : Cx := { X with xe := E }
noncomputable abbrev Cx.nox (X : Cx) : Cx := X.wish fun _ _ => False
theorem Cx.Ok.wish {X : Cx} (ok : X.Ok) (E : Value → Shared → Prop) : (X.wish E).Ok :=
  ⟨ok.mod, ok.kind, ok.glob, ok.blt, ok.above, ok.inj, ok.has, ok.cab, ok.hd, ok.frames, ok.stk, ok.exf, ok.bs, ok.bsz, ok.noex, ok.exfs, ok.funs, ok.frf⟩
theorem Cx.Ok.unwish {X : Cx} {E : Value → Shared → Prop} (ok : (X.wish E).Ok) : X.Ok :=
  ⟨ok.mod, ok.kind, ok.glob, ok.blt, ok.above, ok.inj, ok.has, ok.cab, ok.hd, ok.frames, ok.stk, ok.exf, ok.bs, ok.bsz, ok.noex, ok.exfs, ok.funs, ok.frf⟩
section
variable {X : Cx} {pins : List (Addr × Obj)} {σ : St} {H : Hp} {s : Shared} {E : Value → Shared → Prop}
theorem Inv.wish (I : Inv X pins σ H s) (E : Value → Shared → Prop) : Inv (X.wish E) pins σ H s := ⟨I.ok.wish E, I.os, I.bare, I.base, I.loc, I.cell, I.free, I.freeC, I.pin, I.hok, I.len⟩
theorem Inv.unwish (I : Inv (X.wish E) pins σ H s) : Inv X pins σ H s := ⟨I.ok.unwish, I.os, I.bare, I.base, I.loc, I.cell, I.free, I.freeC, I.pin, I.hok, I.len⟩
theorem SP.unwish {D : Ends} {f : Flow} {s' : Shared} (h : SP (X.wish E) pins D f s') : SP X pins D f s' := by
  cases f with
  | next => obtain ⟨σ', H', I, q⟩ := h; exact ⟨σ', H', I.unwish, q⟩
  | brk => obtain ⟨σ', H', I, q⟩ := h; exact ⟨σ', H', I.unwish, q⟩
  | cont => obtain ⟨σ', H', I, q⟩ := h; exact ⟨σ', H', I.unwish, q⟩
  | ret u => obtain ⟨v, σ', H', I, r, q⟩ := h; exact ⟨v, σ', H', I.unwish, r, q⟩
theorem PSs.nox {st : List Stmt} {t : TS} (h : PSs X.nox st t) : PSs X st t := fun pins s σ H D I hw =>
  wpAny_mono (h pins s σ H D (I.wish _) hw) (fun _ _ q => q.unwish) fun _ _ z => False.elim z
end
section
variable {X : Cx} {st : Stmt} {rest : List Stmt} {t u : TS} {e : Expr} {te : TE} {pos : Pos}
noncomputable def tNext : TS := fun D σ H => D.nx σ H
noncomputable def tSeq (t u : TS) : TS := fun D σ H => t { D with nx := u D } σ H
theorem pss_nil : PSs X [] tNext := fun _ _ σ H _ I h => wpAny_execs_nil ⟨σ, H, I, h⟩
theorem pss_cons (h1 : PS X st t) (h2 : PSs X rest u) : PSs X (st :: rest) (tSeq t u) := by
  intro pins s σ H D I h
  refine wpAny_execs_cons (thn (h1 pins s σ H { D with nx := u D } I h) fun f s1 q => ?_)
  cases f with
  | next =>
    obtain ⟨σ', H', I', q⟩ := q
    exact h2 pins s1 σ' H' D I' q
  | ret v => exact q
  | brk => exact q
  | cont => exact q
theorem pss_one (h1 : PS X st t) : PSs X [st] t := by
  intro pins s σ H D I h
  refine wpAny_execs_cons (thn (h1 pins s σ H D I h) fun f s1 q => ?_)
  cases f with
  | next => exact wpAny_execs_nil q
  | ret v => exact q
  | brk => exact q
  | cont => exact q
theorem Inv.quiet {pins : List (Addr × Obj)} {σ : St} {H : Hp} {s : Shared} (I : Inv X pins σ H s) : interactive X.env = false := by simp [interactive, I.ok.kind]
noncomputable def tDrop (te : TE) : TS := fun D σ H => te σ H fun _ H1 => D.nx σ H1
theorem ps_expr (he : PE X e te) (hs : swapsWith e none pos.line X.env = pure false := by rfl) : PS X (.Expr e pos) (tDrop te) := by
  intro pins s σ H D I h
  exact wpAny_Expr_any (thn (he pins s σ H _ I h) fun v s1 ⟨x, H1, I1, r1, q1⟩ => ⟨σ, H1, I1, q1⟩) I.quiet hs
noncomputable def tRet (te : TE) : TS := fun D σ H => te σ H D.rt
theorem ps_ret (he : PE X e te) : PS X (.Return (some e) pos) (tRet te) := by
  intro pins s σ H D I h
  exact wpAny_Return_some (thn (he pins s σ H _ I h) fun v s1 ⟨x, H1, I1, r1, q1⟩ => ⟨x, σ, H1, I1, r1, q1⟩)
noncomputable def tIfS (c : TT) (t u : TS) : TS := fun D σ H => c σ H fun b H1 => if b = true then t D σ H1 else u D σ H1
theorem ps_if {c : Expr} {a b : List Stmt} {tc : TT} (hc : PT X c tc) (ha : PSs X a t) (hb : PSs X b u) : PS X (.If c a b pos) (tIfS tc t u) := by
  intro pins s σ H D I h
  refine wpAny_If (thn (hc pins s σ H _ I h) fun d s1 ⟨H1, I1, q1⟩ => ?_)
  cases d with
  | true => exact ha pins s1 σ H1 D I1 q1
  | false => exact hb pins s1 σ H1 D I1 q1
noncomputable def tNever : TS := fun _ _ _ => False
theorem ps_never : PS X st tNever := fun _ _ _ _ _ _ h => h.elim
end
noncomputable abbrev TG := V → St → Hp → (St → Hp → Prop) → Prop
noncomputable abbrev TGs := List V → St → Hp → (St → Hp → Prop) → Prop
noncomputable def PG (X : Cx) (target : Expr) (t : TG) : Prop :=
  ∀ (pins : List (Addr × Obj)) (s : Shared) (σ : St) (H : Hp) (v : V) (u : Value) (Q : St → Hp → Prop), Inv X pins σ H s → RelV v u → t v σ H Q →
    wpAny (model X.prog X.w) X.A (assign target X.env u) (fun _ s' => ∃ σ' H', Inv X pins σ' H' s' ∧ Q σ' H') X.xe s
noncomputable def PGs (X : Cx) (ts : List Expr) (t : TGs) : Prop :=
  ∀ (pins : List (Addr × Obj)) (s : Shared) (σ : St) (H : Hp) (vs : List V) (us : List Value) (Q : St → Hp → Prop), Inv X pins σ H s → Vals vs us → t vs σ H Q →
    wpAny (model X.prog X.w) X.A (assignInOrder ((assignEach ts X.env).map (·.2)) us) (fun _ s' => ∃ σ' H', Inv X pins σ' H' s' ∧ Q σ' H') X.xe s
section
variable {X : Cx} {pos : Pos}
noncomputable def gName (i : Nat) : TG := fun v σ H Q => Q (σ.set i (some v)) H
theorem pg_name {i : Nat} {x : Str} (hN : X.N.Nodup) (hi : X.N[i]? = some x) (hx : Loc X.env.scope x) (hf : X.fn x = true ∨ X.env.scope.names.lookup x = some .local := by first | exact .inl rfl | exact .inr rfl | assumption) : PG X (.Name x pos) (gName i) := by
  intro pins s σ H v u Q I r h
  exact wpAny_assign_Name (store_ok I hN hi hx r (fun s' I' => ⟨_, H, I', h⟩) hf)
noncomputable def gNil : TGs := fun vs σ H Q => vs = [] ∧ Q σ H
noncomputable def gCons (t : TG) (u : TGs) : TGs := fun vs σ H Q => ∃ v r, vs = v :: r ∧ t v σ H fun σ' H' => u r σ' H' Q
theorem pgs_nil : PGs X [] gNil := by
  intro pins s σ H vs us Q I r h
  obtain ⟨e, h⟩ := h
  subst e
  cases r
  exact assignInOrder_nil ⟨σ, H, I, h⟩
theorem pgs_cons {e : Expr} {es : List Expr} {t : TG} {u : TGs} (h1 : PG X e t) (h2 : PGs X es u)
    (hs : (assignEach (e :: es) X.env).map (·.2) = assign e X.env :: (assignEach es X.env).map (·.2) := by rfl) : PGs X (e :: es) (gCons t u) := by
  intro pins s σ H vs us Q I r h
  obtain ⟨v, vr, e1, h⟩ := h
  subst e1
  cases r with
  | cons r rr =>
    rw [hs]
    refine assignInOrder_cons (thn (h1 pins s σ H _ _ _ I r h) fun _ s1 ⟨σ1, H1, I1, q1⟩ => ?_)
    exact h2 pins s1 σ1 H1 _ _ Q I1 rr q1
noncomputable def gTup (K : PySem.W.Frag) (n : Nat) (t : TGs) : TG := fun v σ H Q => ∃ a xs, v = .ref a ∧ SqT K H a xs ∧ xs.length = n ∧ t xs σ H Q
theorem pg_tup {es : List Expr} {k : Nat} {t : TGs} {n : Nat} (hc : X.calm = true) (h : PGs X es t)
    (hn : (assignEach es X.env).length = n := by rfl) (hst : (assignEach es X.env).findIdx? (·.1) = none := by rfl) : PG X (.Tuple es k pos) (gTup X.K n t) := by
  intro pins s σ H v u Q I r hw
  obtain ⟨a, xs, e1, hq, hl, hw⟩ := hw
  subst e1
  cases r
  obtain ⟨its, rv, ht, hz⟩ := I.tuple hq
  refine assign_Tuple_tuple (I.ok.hd hc) ht (by simp [hn, ← hl, rv.length]) hst fun h' hx => ?_
  have I1 : Inv X pins σ H { s with heap := h' } := I.kept (t' := s.toks) fun b o e => hx b o (Nat.ne_of_lt (Heap.lt_size e)) e
  exact h pins _ σ H xs _ Q I1 (by simpa using rv) hw
noncomputable def tAsg (te : TE) (g : TG) : TS := fun D σ H => te σ H fun x H1 => g x σ H1 D.nx
theorem ps_set {i : Nat} {x : Str} {e : Expr} {te : TE} {pos' : Pos} (hN : X.N.Nodup) (hi : X.N[i]? = some x) (hx : Loc X.env.scope x) (he : PE X e te) (hs : swapsWith e (some (.Name x pos')) pos.line X.env = pure false := by rfl) (hf : X.fn x = true ∨ X.env.scope.names.lookup x = some .local := by first | exact .inl rfl | exact .inr rfl | assumption) :
    PS X (.Assign [.Name x pos'] e pos) (tAsg te (gName i)) := by
  intro pins s σ H D I h
  refine wpAny_Assign_Name (thn (he pins s σ H _ I h) fun v s1 ⟨y, H1, I1, r1, q1⟩ => ?_) hs
  exact store_ok I1 hN hi hx r1 (fun s2 I2 => ⟨_, H1, I2, q1⟩) hf
end
structure It where
  go : Nat → Hp → Prop
  yld : Nat → Hp → V → Hp → Prop
  stop : Nat → Hp → Prop
noncomputable def FpOk (X : Cx) (pins : List (Addr × Obj)) (H : Hp) (b : Addr) : Prop :=
  H b = none ∧ b ≠ X.env.locals ∧ b ∉ X.fs ∧ (b ∈ X.ex ∨ X.s₀.heap.objs.size ≤ b) ∧ (∀ x c, X.env.cells.lookup x = some c → c ≠ b) ∧ ∀ p ∈ X.pn ++ pins, p.1 ≠ b
theorem Inv.fpOk {X : Cx} {pins : List (Addr × Obj)} {σ : St} {H H' : Hp} {s : Shared} {b : Addr} (I : Inv X pins σ H s) (hb : s.heap.objs.size ≤ b) (hn : H' b = none) : FpOk X pins H' b := by
  refine ⟨hn, Nat.ne_of_gt (Nat.lt_of_lt_of_le I.lt hb), I.nofs hb, .inr (Nat.le_trans I.sz hb), fun x c e z => ?_, fun p hp z => ?_⟩
  · obtain ⟨v, q⟩ := I.cell x c e
    exact absurd (Nat.lt_of_lt_of_le q.lt (by rw [z]; exact hb)) (Nat.lt_irrefl _)
  · exact absurd (Nat.lt_of_lt_of_le (Heap.lt_size (I.pin p hp).1) (by rw [z]; exact hb)) (Nat.lt_irrefl _)
structure Turn (P : Program) (w : World) (K : PySem.W.Frag) (tg : Expr) (J : It) (fp : List Addr) (it : Addr) (tn : Nat → Heap → Prop) : Prop where
  mem : it ∈ fp
  obj : ∀ i h, tn i h → ∀ b ∈ fp, ∃ o, h.get? b = some o ∧ ∀ v, o.data ≠ .cell v
  keep : ∀ i h h', tn i h → (∀ b ∈ fp, ∀ o, h.get? b = some o → h'.get? b = some o) → tn i h'
  item : ∀ (X : Cx), X.prog = P → X.w = w → X.K = K → X.calm = true → ∀ (i : Nat) (pins : List (Addr × Obj)) (s : Shared) (σ : St) (H : Hp) (E : Value → Shared → Prop), Inv X pins σ H s → (∀ b ∈ fp, FpOk X pins H b) → tn i s.heap → J.go i H →
    wpAny (model P w) X.A (pyNext (.ref it)) (fun r s1 => ∃ u, r = some u ∧
      wpAny (model P w) X.A (letOwnedTupleGo tg (.ref it) u) (fun _ s2 => ∃ x H', Inv X pins σ H' s2 ∧ RelV x u ∧ J.yld i H x H' ∧ tn (i + 1) s2.heap ∧ ∀ b ∈ fp, H' b = none) E s1) E s
  done : ∀ (X : Cx), X.prog = P → X.w = w → X.K = K → X.calm = true → ∀ (i : Nat) (pins : List (Addr × Obj)) (s : Shared) (σ : St) (H : Hp) (E : Value → Shared → Prop), Inv X pins σ H s → (∀ b ∈ fp, FpOk X pins H b) → tn i s.heap → J.stop i H →
    wpAny (model P w) X.A (pyNext (.ref it)) (fun r s1 => r = none ∧ Inv X pins σ H s1) E s
  self : ∀ (A : Around) (i : Nat) (s : Shared) (Q : Value → Shared → Prop) (E : Value → Shared → Prop), tn i s.heap → Q (.ref it) s → wpAny (model P w) A (pyIter (.ref it)) Q E s
noncomputable abbrev TI := St → Hp → (It → Hp → Prop) → Prop
noncomputable def PIE (X : Cx) (pins : List (Addr × Obj)) (σ : St) (tg : Expr) (R : It → Hp → Prop) (itv : Value) (s2 : Shared) : Prop :=
  ∃ (it : Addr) (fp : List Addr) (tn : Nat → Heap → Prop) (J : It) (H' : Hp), itv = .ref it ∧ Inv X pins σ H' s2 ∧ Turn X.prog X.w X.K tg J fp it tn ∧ tn 0 s2.heap ∧ (∀ b ∈ fp, FpOk X pins H' b) ∧ R J H'
noncomputable def PI (X : Cx) (tg iter : Expr) (wi : TI) : Prop :=
  ∀ (pins : List (Addr × Obj)) (s : Shared) (σ : St) (H : Hp) (R : It → Hp → Prop), Inv X pins σ H s → wi σ H R →
    wpAny (model X.prog X.w) X.A (eval iter X.env) (fun v s1 => wpAny (model X.prog X.w) X.A (pyIter v) (PIE X pins σ tg R) X.xe s1) X.xe s
theorem go_of {M : Model} {A : Around} {E : Value → Shared → Prop} {s : Shared} {tg : Expr} {it : Addr} {u : Value} {o : Obj} {n : String} {vs : Array Value} {Q : Unit → Shared → Prop} (ho : s.heap.get? it = some o) (hc : o.cls = .type n) (hd : o.data = .fields vs)
    (hn : ["enumerate", "zip", "dict_itemiterator", "dict_reverseitemiterator", "odict_iterator", "itertools.zip_longest", "itertools.pairwise"].contains n = false) (hQ : Q () s) : wpAny M A (letOwnedTupleGo tg (.ref it) u) Q E s := by
  unfold letOwnedTupleGo
  cases tg <;> first
    | exact wpAny_pure hQ
    | (cases u <;> first
        | exact wpAny_pure hQ
        | (refine wpAny_bind (wpAny_load ho ?_)
           rw [hc, hd]
           show wpAny M A (if (["enumerate", "zip", "dict_itemiterator", "dict_reverseitemiterator", "odict_iterator", "itertools.zip_longest", "itertools.pairwise"].contains n && vs[0]? == some (rawInt _)) = true then _ else _) Q E s
           rw [if_neg (by intro h; rw [hn, Bool.false_and] at h; cases h)]
           exact wpAny_pure hQ))
noncomputable def Itl (K : PySem.W.Frag) (a : Addr) : It :=
  ⟨fun i H => ∃ xs x, SqL K H a xs ∧ xs[i]? = some x, fun i H x H' => H' = H ∧ ∀ xs, SqL K H a xs → xs[i]? = some x, fun i H => ∃ xs, SqL K H a xs ∧ xs.length ≤ i⟩
noncomputable def Itt (K : PySem.W.Frag) (a : Addr) : It :=
  ⟨fun i H => ∃ xs x, SqT K H a xs ∧ xs[i]? = some x, fun i H x H' => H' = H ∧ ∀ xs, SqT K H a xs → xs[i]? = some x, fun i H => ∃ xs, SqT K H a xs ∧ xs.length ≤ i⟩
noncomputable def Itr (lo : Int) (n : Nat) : It := ⟨fun i _ => i < n, fun i H x H' => H' = H ∧ x = .int (lo + i), fun i _ => n ≤ i⟩
theorem turn_list {P : Program} {w : World} {K : PySem.W.Frag} {tg : Expr} (a it : Addr) : Turn P w K tg (Itl K a) [it] it (fun i h => h.IsListIter it a i) where
  mem := by simp
  obj := fun i h st b hb => by
    have e : b = it := by simpa using hb
    subst e
    obtain ⟨o, e, c, d⟩ := st
    exact ⟨o, e, fun v z => by rw [d] at z; cases z⟩
  keep := fun i h h' st k => st.at fun o e => k it (by simp) o e
  item := by
    intro X hP hw hK hc i pins s σ H E I hf st hg
    subst hP hw hK
    obtain ⟨xs, x, hq, hx⟩ := hg
    obtain ⟨its, rv, p, hz⟩ := I.list hq
    obtain ⟨u, hu, ru⟩ := rv.get hx
    obtain ⟨f0, f1, f2, f3, f4, f5⟩ := hf it (by simp)
    refine wpAny_pyNext_list_item st p.isList (x := u) (by simpa using hu) fun h' st' sb => ?_
    have I1 : Inv X pins σ H { s with heap := h' } := I.turned (t' := s.toks) (fun b o hb e => (sb.2 b hb).trans e) f0 f1 f3 f4 f5
    obtain ⟨o, e, c, d⟩ := id st'
    exact ⟨u, rfl, go_of (s := { s with heap := h' }) e c d (by decide) ⟨x, H, I1, ru, ⟨rfl, fun ys hy => by rw [I.list_inj hy hq]; exact hx⟩, st', fun b hb => (hf b hb).1⟩⟩
  done := by
    intro X hP hw hK hc i pins s σ H E I hf st hg
    subst hP hw hK
    obtain ⟨xs, hq, hx⟩ := hg
    obtain ⟨its, rv, p, hz⟩ := I.list hq
    obtain ⟨f0, f1, f2, f3, f4, f5⟩ := hf it (by simp)
    have hl := rv.length
    exact wpAny_pyNext_list_end (I.ok.hd hc) st p.isList (by simp; omega) fun h' eb => ⟨rfl, I.turned (t' := s.toks) (fun b o hb e => eb b o hb e) f0 f1 f3 f4 f5⟩
  self := fun _ _ _ _ _ st h => wpAny_pyIter_listiter st h
theorem turn_tuple {P : Program} {w : World} {K : PySem.W.Frag} {tg : Expr} (a it : Addr) : Turn P w K tg (Itt K a) [it] it (fun i h => h.IsTupleIter it a i) where
  mem := by simp
  obj := fun i h st b hb => by
    have e : b = it := by simpa using hb
    subst e
    obtain ⟨o, e, c, d⟩ := st
    exact ⟨o, e, fun v z => by rw [d] at z; cases z⟩
  keep := fun i h h' st k => st.at fun o e => k it (by simp) o e
  item := by
    intro X hP hw hK hc i pins s σ H E I hf st hg
    subst hP hw hK
    obtain ⟨xs, x, hq, hx⟩ := hg
    obtain ⟨its, rv, p, hz⟩ := I.tuple hq
    obtain ⟨u, hu, ru⟩ := rv.get hx
    obtain ⟨f0, f1, f2, f3, f4, f5⟩ := hf it (by simp)
    refine wpAny_pyNext_tuple_item st (show s.heap.IsTuple a its.toArray from p) (x := u) (by simpa using hu) fun h' st' sb => ?_
    have I1 : Inv X pins σ H { s with heap := h' } := I.turned (t' := s.toks) (fun b o hb e => (sb.2 b hb).trans e) f0 f1 f3 f4 f5
    obtain ⟨o, e, c, d⟩ := id st'
    exact ⟨u, rfl, go_of (s := { s with heap := h' }) e c d (by decide) ⟨x, H, I1, ru, ⟨rfl, fun ys hy => by rw [I.tuple_inj hy hq]; exact hx⟩, st', fun b hb => (hf b hb).1⟩⟩
  done := by
    intro X hP hw hK hc i pins s σ H E I hf st hg
    subst hP hw hK
    obtain ⟨xs, hq, hx⟩ := hg
    obtain ⟨its, rv, p, hz⟩ := I.tuple hq
    obtain ⟨f0, f1, f2, f3, f4, f5⟩ := hf it (by simp)
    have hl := rv.length
    exact wpAny_pyNext_tuple_end (I.ok.hd hc) st (show s.heap.IsTuple a its.toArray from p) (by simp; omega) fun h' eb => ⟨rfl, I.turned (t' := s.toks) (fun b o hb e => eb b o hb e) f0 f1 f3 f4 f5⟩
  self := fun _ _ _ _ _ st h => wpAny_pyIter_tupleiter st h
theorem turn_range {P : Program} {w : World} {K : PySem.W.Frag} {tg : Expr} (it : Addr) (lo : Int) (n : Nat) : Turn P w K tg (Itr lo n) [it] it (fun i h => IsRangeIter h it (lo + (i : Nat) * 1) ((n : Int) - (i : Nat)) 1) where
  mem := by simp
  obj := fun i h st b hb => by
    have e : b = it := by simpa using hb
    subst e
    exact ⟨_, st, fun v z => by
      have z' : Data.fields _ = Data.cell v := z
      cases z'⟩
  keep := fun i h h' st k => k it (by simp) _ st
  item := by
    intro X hP hw hK hc i pins s σ H E I hf st hg
    subst hP hw hK
    obtain ⟨f0, f1, f2, f3, f4, f5⟩ := hf it (by simp)
    have W := Walks.range (prog := X.prog) (w := X.w) (I.ok.hd hc) it lo 1 n
    refine W.item i s _ _ hg st fun v h' tk hv st' kk => ?_
    obtain ⟨t, rfl⟩ := hv
    have I1 : Inv X pins σ H { s with heap := h', toks := tk } := I.turned (fun b o hb e => kk b o (by simpa using hb) e) f0 f1 f3 f4 f5
    refine ⟨_, rfl, go_of (s := { s with heap := h', toks := tk }) (n := "range_iterator") st' rfl rfl (by decide) ⟨.int (lo + i), H, I1, ⟨t, ?_⟩, ⟨rfl, rfl⟩, st', fun b hb => (hf b hb).1⟩⟩
    rw [Int.mul_one]
  done := by
    intro X hP hw hK hc i pins s σ H E I hf st hg
    subst hP hw hK
    obtain ⟨f0, f1, f2, f3, f4, f5⟩ := hf it (by simp)
    exact wpAny_pyNext_range_end (I.ok.hd hc) st (by have : n ≤ i := hg; omega) fun h' eb => ⟨rfl, I.turned (t' := s.toks) (fun b o hb e => eb b o hb e) f0 f1 f3 f4 f5⟩
  self := fun _ _ _ _ _ st h => wpAny_pyIter_rangeiter st h
end L2
namespace L2
open PySem PySem.Spec PyProof.Rows
section
variable {X : Cx} {tg : Expr}
noncomputable def iList (K : PySem.W.Frag) (tl : TE) : TI := fun σ H R => tl σ H fun x H1 => ∃ a, x = .ref a ∧ (∃ xs, SqL K H1 a xs) ∧ R (Itl K a) H1
noncomputable def iTup (K : PySem.W.Frag) (tl : TE) : TI := fun σ H R => tl σ H fun x H1 => ∃ a, x = .ref a ∧ (∃ xs, SqT K H1 a xs) ∧ R (Itt K a) H1
theorem pi_list {l : Expr} {tl : TE} (hl : PE X l tl) : PI X tg l (iList X.K tl) := by
  intro pins s σ H R I h
  refine thn (hl pins s σ H _ I h) fun v s1 ⟨x, H1, I1, r1, q1⟩ => ?_
  obtain ⟨a, e, ⟨xs, hq⟩, q⟩ := q1
  subst e
  cases r1
  obtain ⟨its, rv, p, hz⟩ := I1.list hq
  refine wpAny_pyIter_list p.isList ?_
  refine ⟨s1.heap.objs.size, [s1.heap.objs.size], _, _, H1, rfl, I1.kept (t' := s1.toks) fun b o e => Heap.get?_push_of_some _ e, turn_list a _, ⟨_, Heap.get?_push_size _ rfl, rfl, rfl⟩, fun b hb => ?_, q⟩
  have e : b = s1.heap.objs.size := by simpa using hb
  subst e
  exact I1.fpOk (Nat.le_refl _) (I1.hok.fresh (Nat.le_refl _))
theorem pi_tup {l : Expr} {tl : TE} (hl : PE X l tl) : PI X tg l (iTup X.K tl) := by
  intro pins s σ H R I h
  refine thn (hl pins s σ H _ I h) fun v s1 ⟨x, H1, I1, r1, q1⟩ => ?_
  obtain ⟨a, e, ⟨xs, hq⟩, q⟩ := q1
  subst e
  cases r1
  obtain ⟨its, rv, p, hz⟩ := I1.tuple hq
  refine wpAny_pyIter_tuple (show s1.heap.IsTuple a its.toArray from p) ?_
  refine ⟨s1.heap.objs.size, [s1.heap.objs.size], _, _, H1, rfl, I1.kept (t' := s1.toks) fun b o e => Heap.get?_push_of_some _ e, turn_tuple a _, ⟨_, Heap.get?_push_size _ rfl, rfl, rfl⟩, fun b hb => ?_, q⟩
  have e : b = s1.heap.objs.size := by simpa using hb
  subst e
  exact I1.fpOk (Nat.le_refl _) (I1.hok.fresh (Nat.le_refl _))
theorem range_it {pins : List (Addr × Obj)} {σ : St} {H : Hp} {s : Shared} {R : It → Hp → Prop} {E : Value → Shared → Prop} {lo hi : Int} {t u v : Tok} {tk : Nat} (I : Inv X pins σ H s) (h1 : -(2 ^ 62) ≤ lo) (h2 : lo < 2 ^ 62) (h3 : -(2 ^ 62) ≤ hi) (h4 : hi < 2 ^ 62)
    (q : R (Itr lo (hi - lo).toNat) H) : wpAny (model X.prog X.w) X.A (pyIter (.ref s.heap.objs.size)) (PIE X pins σ tg R) E { s with heap := s.heap.push { cls := .type "range", data := .fields #[.int lo t, .int hi u, .int 1 v] }, toks := tk } := by
  refine wpAny_pyIter_range (IsRange.new ..) (small_one h1 h2 h3 h4) ?_
  have I1 : Inv X pins σ H { s with heap := s.heap.push { cls := .type "range", data := .fields #[.int lo t, .int hi u, .int 1 v] }, toks := tk } := I.kept fun b o e => Heap.get?_push_of_some _ e
  refine ⟨(s.heap.push { cls := .type "range", data := .fields #[.int lo t, .int hi u, .int 1 v] }).objs.size, [(s.heap.push { cls := .type "range", data := .fields #[.int lo t, .int hi u, .int 1 v] }).objs.size], _, _, H, rfl,
    I1.kept (t' := tk) fun b o e => Heap.get?_push_of_some _ e, turn_range _ lo (hi - lo).toNat, ?_, fun b hb => ?_, q⟩
  · have e1 : lo + ((0 : Nat) : Int) * 1 = lo := by simp
    have e2 : (((hi - lo).toNat : Nat) : Int) - ((0 : Nat) : Int) = Builtin.Range.rangeSize lo hi 1 := by rw [rangeSize_one]; split <;> omega
    show IsRangeIter _ _ (lo + ((0 : Nat) : Int) * 1) ((((hi - lo).toNat : Nat) : Int) - ((0 : Nat) : Int)) 1
    rw [e1, e2]
    exact Heap.get?_push_size _ rfl
  · have e : b = (s.heap.push { cls := .type "range", data := .fields #[.int lo t, .int hi u, .int 1 v] }).objs.size := by simpa using hb
    subst e
    exact I1.fpOk (Nat.le_refl _) (I1.hok.fresh (Nat.le_refl _))
noncomputable def iRng1 (ta : TA) : TI := fun σ H R => ta σ H fun vs H1 => ∃ j : Int, vs = [.int j] ∧ -(2 ^ 62) ≤ j ∧ j < 2 ^ 62 ∧ R (Itr 0 j.toNat) H1
theorem pi_range1 {a : Expr} {ta : TA} {p pos : Pos} (hg : Gl X "range") (hm : X.mg "range" = none) (ha : PA X [a] ta) (hs : starEach [a] X.env = [(false, eval a X.env)] := by rfl) : PI X tg (.Call (.Name "range" p) [a] [] pos) (iRng1 ta) := by
  intro pins s σ H R I h
  refine Call_ (ld_blt I hg hm boot_range (PyProof.Rows.callWith_type1 (thn (ha pos pins s σ H _ I h) fun us s1 ⟨vs, H1, I1, r1, q1⟩ => ?_) hs rfl))
  obtain ⟨j, e, q1, q2, q⟩ := q1
  subst e
  cases r1 with
  | cons r rr =>
    cases rr
    obtain ⟨t, rfl⟩ := r
    exact call_range_1 (range_it I1 (by omega) (by omega) q1 q2 (by simpa using q))
noncomputable def tFor (wi : TI) (g : TG) (tb : TS) : TS := fun D σ H => wi σ H fun J H1 => ∃ W : Nat → Nat → St → Hp → Prop, (∃ m, W 0 m σ H1) ∧ ∀ i m σ H, W i m σ H →
  (J.stop i H ∧ D.nx σ H) ∨ (J.go i H ∧ ∃ N : St → Hp → Prop, (∀ σ' H', N σ' H' → ∃ m', m' < m ∧ W (i + 1) m' σ' H') ∧ ∀ x H', J.yld i H x H' → g x σ H' fun σ2 H2 => tb { D with nx := N, ct := N, bk := D.nx } σ2 H2)
noncomputable def pinsAt (fp : List Addr) (h : Heap) : List (Addr × Obj) := fp.filterMap fun b => (h.get? b).map fun o => (b, o)
theorem mem_pinsAt {fp : List Addr} {h : Heap} {b : Addr} {o : Obj} (hb : b ∈ fp) (e : h.get? b = some o) : (b, o) ∈ pinsAt fp h := List.mem_filterMap.mpr ⟨b, hb, by rw [e]; rfl⟩
theorem of_pinsAt {fp : List Addr} {h : Heap} {p : Addr × Obj} (hp : p ∈ pinsAt fp h) : p.1 ∈ fp ∧ h.get? p.1 = some p.2 := by
  obtain ⟨b, hb, e⟩ := List.mem_filterMap.mp hp
  cases q : h.get? b with
  | none => rw [q] at e; cases e
  | some o =>
    rw [q] at e
    have e' : (b, o) = p := Option.some.inj e
    subst e'
    exact ⟨hb, q⟩
theorem Inv.pinned {pins : List (Addr × Obj)} {σ : St} {H : Hp} {s : Shared} {fp : List Addr} (I : Inv X pins σ H s) (hf : ∀ b ∈ fp, FpOk X pins H b) (ho : ∀ b ∈ fp, ∃ o, s.heap.get? b = some o ∧ ∀ v, o.data ≠ .cell v) : Inv X (pins ++ pinsAt fp s.heap) σ H s :=
  I.pins_of fun p hp => (List.mem_append.mp hp).elim (fun z => I.pin p (List.mem_append_right _ z)) fun z => by
    obtain ⟨hb, e⟩ := of_pinsAt z
    obtain ⟨f0, f1, f2, _⟩ := hf p.1 hb
    obtain ⟨o, e', d⟩ := ho p.1 hb
    rw [e] at e'; cases e'
    exact ⟨e, f0, f1, f2, d⟩
theorem Inv.unpinned {pins pl : List (Addr × Obj)} {σ : St} {H : Hp} {s : Shared} (I : Inv X (pins ++ pl) σ H s) : Inv X pins σ H s := I.pins_of fun p hp => I.pin p (List.mem_append_right _ (List.mem_append_left _ hp))
theorem ps_for {iter : Expr} {body : List Stmt} {wi : TI} {g : TG} {tb : TS} {pos : Pos} (hp : PassesOwn (model X.prog X.w) X.A X.env X.xe) (hc : X.calm = true) (hi : PI X tg iter wi) (hg : PG X tg g) (hb : PSs X body tb)
    (hs : ∀ x, foldedSetIterable iter X.env x = pure x := by intro _; rfl) : PS X (.For tg iter body [] pos) (tFor wi g tb) := by
  intro pins s σ H D I h
  refine wpAny_For (thn (hi pins s σ H _ I h) fun v s1 h1 => thn h1 fun itv s2 h2 => ?_) hs
  obtain ⟨it, fp, tn, J, H2, e, I2, T, st2, f2, W, ⟨m0, w0⟩, turn⟩ := h2
  subst e
  have stat : ∀ {H' : Hp}, (∀ b ∈ fp, H' b = none) → ∀ b ∈ fp, FpOk X pins H' b := fun hn b hb => ⟨hn b hb, (f2 b hb).2⟩
  refine codeAny_forLoop_any (fun n s' => ∃ i σ' H', Inv X pins σ' H' s' ∧ tn i s'.heap ∧ (∀ b ∈ fp, H' b = none) ∧ W i n σ' H') ?_ m0 ⟨0, σ, H2, I2, st2, fun b hb => (f2 b hb).1, w0⟩
  rintro n s3 ⟨i, σ3, H3, I3, st3, fr3, w3⟩
  rcases turn i n σ3 H3 w3 with ⟨stop, qn⟩ | ⟨go, N, hN, step⟩
  · refine wpAny_passesOwn hp (thn (T.done X rfl rfl rfl hc i pins s3 σ3 H3 X.xe I3 (stat fr3) st3 stop) fun r s4 ⟨hr, I4⟩ => ?_)
    subst hr
    exact wpAny_execs_nil ⟨σ3, H3, I4, qn⟩
  · refine wpAny_passesOwn hp (thn (T.item X rfl rfl rfl hc i pins s3 σ3 H3 X.xe I3 (stat fr3) st3 go) fun r s4 ⟨u, hr, h4⟩ => ?_)
    subst hr
    refine wpAny_passesOwn hp (thn h4 fun _ s5 ⟨x, H5, I5, r5, y5, st5, fr5⟩ => ?_)
    have I5' := I5.pinned (stat fr5) (T.obj _ _ st5)
    refine wpAny_passesOwn hp (thn (hg _ s5 σ3 H5 x u _ I5' r5 (step x H5 y5)) fun _ s6 ⟨σ6, H6, I6, q6⟩ => ?_)
    refine wpAny_passesOwn hp (thn (hb _ s6 σ6 H6 _ I6 q6) fun f s7 q7 => ?_)
    have again : ∀ {σ7 : St} {H7 : Hp}, Inv X (pins ++ pinsAt fp s5.heap) σ7 H7 s7 → N σ7 H7 → ∃ m, m < n ∧ ∃ i σ' H', Inv X pins σ' H' s7 ∧ tn i s7.heap ∧ (∀ b ∈ fp, H' b = none) ∧ W i m σ' H' := fun {σ7 H7} I7 n7 => by
      obtain ⟨m', hm, w7⟩ := hN σ7 H7 n7
      refine ⟨m', hm, i + 1, σ7, H7, I7.unpinned, T.keep _ _ _ st5 fun b hb o e => (I7.pin (b, o) (List.mem_append_right _ (List.mem_append_right _ (mem_pinsAt hb e)))).1, fun b hb => ?_, w7⟩
      obtain ⟨o, e, d⟩ := T.obj _ _ st5 b hb
      exact (I7.pin (b, o) (List.mem_append_right _ (List.mem_append_right _ (mem_pinsAt hb e)))).2.1
    cases f with
    | next => obtain ⟨σ7, H7, I7, n7⟩ := q7; exact again I7 n7
    | cont => obtain ⟨σ7, H7, I7, n7⟩ := q7; exact again I7 n7
    | brk => obtain ⟨σ7, H7, I7, q7⟩ := q7; exact ⟨σ7, H7, I7.unpinned, q7⟩
    | ret v => obtain ⟨x7, σ7, H7, I7, r7, q7⟩ := q7; exact ⟨x7, σ7, H7, I7.unpinned, r7, q7⟩
end
end L2
namespace L2
open PySem PySem.Spec PyProof.Rows
noncomputable abbrev R2 := V → V → Hp → VK → Prop
noncomputable def OpR (X : Cx) (f : Value → Value → Sem Value) (r : R2) : Prop :=
  ∀ (pins : List (Addr × Obj)) (s : Shared) (σ : St) (H : Hp) (x y : V) (v u : Value) (Q : VK), Inv X pins σ H s → RelV x v → RelV y u → r x y H Q →
    wpAny (model X.prog X.w) X.A (f v u) (EP X pins σ Q) X.xe s
noncomputable def CallR (X : Cx) (f : Value) (r : List V → Hp → VK → Prop) : Prop :=
  ∀ (pins : List (Addr × Obj)) (s : Shared) (σ : St) (H : Hp) (xs : List V) (us : List Value) (Q : VK), Inv X pins σ H s → Vals xs us → r xs H Q →
    wpAny (model X.prog X.w) X.A (call f us) (EP X pins σ Q) X.xe s
noncomputable def tOp (r : R2) (ta tb : TE) : TE := fun σ H Q => ta σ H fun x H1 => tb σ H1 fun y H2 => r x y H2 Q
noncomputable def rI (C : Int → Int → Prop) (g : Int → Int → V) : R2 := fun x y H Q => ∃ i j, x = .int i ∧ y = .int j ∧ C i j ∧ Q (g i j) H
noncomputable def rI0 (g : Int → Int → V) : R2 := fun x y H Q => ∃ i j, x = .int i ∧ y = .int j ∧ Q (g i j) H
section
variable {X : Cx} {a b c : Expr} {ta tb tc : TE} {pos : Pos}
theorem binT (ha : PE X a ta) (hb : PE X b tb) {pins : List (Addr × Obj)} {s : Shared} {σ : St} {H : Hp} {R : V → V → Hp → Prop} (I : Inv X pins σ H s)
    (h : ta σ H fun x H1 => tb σ H1 fun y H2 => R x y H2) {Q : Value → Shared → Prop} {f : Value → Value → Sem Value}
    (hf : ∀ v u s2 x y H2, Inv X pins σ H2 s2 → RelV x v → RelV y u → R x y H2 → wpAny (model X.prog X.w) X.A (f v u) Q X.xe s2) :
    wpAny (model X.prog X.w) X.A (eval a X.env) (fun v s₁ => wpAny (model X.prog X.w) X.A (eval b X.env) (fun u s₂ => wpAny (model X.prog X.w) X.A (f v u) Q X.xe s₂) X.xe s₁) X.xe s := by
  refine thn (ha pins s σ H _ I h) fun v s1 ⟨x, H1, I1, r1, q1⟩ => ?_
  refine thn (hb pins s1 σ H1 _ I1 q1) fun u s2 ⟨y, H2, I2, r2, q2⟩ => ?_
  exact hf v u s2 x y H2 I2 r1 r2 q2
theorem pe_op {op : Operator} {r : R2} (ho : OpR X (binaryOp op) r) (ha : PE X a ta) (hb : PE X b tb) : PE X (.BinOp a op b pos) (tOp r ta tb) := by
  intro pins s σ H Q I h
  exact wpAny_BinOp (binT ha hb I h fun v u s2 x y H2 I2 rx ry q => ho pins s2 σ H2 x y v u Q I2 rx ry q)
theorem opI {f : Value → Value → Sem Value} {C : Int → Int → Prop} {g : Int → Int → Int}
    (rule : ∀ (i j : Int) (t u : Tok) (s : Shared) (Q : Value → Shared → Prop) (E : Value → Shared → Prop), C i j → Q (.int (g i j) s.toks) { s with toks := s.toks + 1 } → wpAny (model X.prog X.w) X.A (f (.int i t) (.int j u)) Q E s) :
    OpR X f (rI C fun i j => .int (g i j)) := by
  intro pins s σ H x y v u Q I rx ry h
  obtain ⟨i, j, rfl, rfl, hc, q⟩ := h
  obtain ⟨t, rfl⟩ := rx
  obtain ⟨t', rfl⟩ := ry
  exact rule i j t t' s _ _ hc ⟨.int (g i j), H, I.tok _, ⟨_, rfl⟩, q⟩
theorem opI0 {f : Value → Value → Sem Value} {g : Int → Int → Int}
    (rule : ∀ (i j : Int) (t u : Tok) (s : Shared) (Q : Value → Shared → Prop) (E : Value → Shared → Prop), Q (.int (g i j) s.toks) { s with toks := s.toks + 1 } → wpAny (model X.prog X.w) X.A (f (.int i t) (.int j u)) Q E s) :
    OpR X f (rI0 fun i j => .int (g i j)) := by
  intro pins s σ H x y v u Q I rx ry h
  obtain ⟨i, j, rfl, rfl, q⟩ := h
  obtain ⟨t, rfl⟩ := rx
  obtain ⟨t', rfl⟩ := ry
  exact rule i j t t' s _ _ ⟨.int (g i j), H, I.tok _, ⟨_, rfl⟩, q⟩
theorem opB0 {f : Value → Value → Sem Value} {g : Int → Int → Bool}
    (rule : ∀ (i j : Int) (t u : Tok) (s : Shared) (Q : Value → Shared → Prop) (E : Value → Shared → Prop), Q (.bool (g i j)) s → wpAny (model X.prog X.w) X.A (f (.int i t) (.int j u)) Q E s) :
    OpR X f (rI0 fun i j => .bl (g i j)) := by
  intro pins s σ H x y v u Q I rx ry h
  obtain ⟨i, j, rfl, rfl, q⟩ := h
  obtain ⟨t, rfl⟩ := rx
  obtain ⟨t', rfl⟩ := ry
  exact rule i j t t' s _ _ ⟨.bl (g i j), H, I, rfl, q⟩
noncomputable def CDiv (i j : Int) : Prop := 0 < j ∧ j < 1073741824
noncomputable def CPow (i j : Int) : Prop := 0 ≤ j ∧ j ≤ 1000000 ∧ i.natAbs < 2 ^ 64
noncomputable def CMul (i j : Int) : Prop := (-(2 ^ 64) < i ∧ i < 2 ^ 64) ∨ (-(2 ^ 64) < j ∧ j < 2 ^ 64)
theorem CMul.ok {i j : Int} (h : CMul i j) : IntMulOk i j := by
  rcases h with ⟨h1, h2⟩ | ⟨h1, h2⟩
  · exact .of_left (intBits_le_64 h1 h2)
  · exact .of_right (intBits_le_64 h1 h2)
theorem op_add : OpR X (binaryOp .Add) (rI0 fun i j => .int (i + j)) := opI0 fun _ _ _ _ _ _ _ q => add_int q
theorem op_mul : OpR X (binaryOp .Mult) (rI CMul fun i j => .int (i * j)) := opI fun _ _ _ _ _ _ _ hc q => mul_int q hc.ok
theorem op_fdiv : OpR X (binaryOp .FloorDiv) (rI CDiv fun i j => .int (i / j)) := opI fun i j _ _ _ _ _ hc q => by
  have h1 : (0 : Int) < j := hc.1
  have h2 : j < 1073741824 := hc.2
  exact floordiv_int (by omega) (by rw [Int.fdiv_eq_ediv_of_nonneg i (by omega)]; exact q) (.inl (PyProof.noPylong_small (by omega)))
theorem op_mod : OpR X (binaryOp .Mod) (rI (fun _ j => 0 < j) fun i j => .int (i % j)) := opI fun i j _ _ _ _ _ hc q => by
  have h1 : (0 : Int) < j := hc
  exact mod_int' (by omega) (by rw [Int.fmod_eq_emod_of_nonneg i (by omega)]; exact q)
theorem op_pow : OpR X (binaryOp .Pow) (rI CPow fun i j => .int (i ^ j.toNat)) := opI fun _ _ _ _ _ _ _ hc q => pow_int_small hc.1 hc.2.1 hc.2.2 q
end
section
variable {X : Cx} {a b c : Expr} {ta tb tc : TE} {pos : Pos}
theorem fin_bl {pins : List (Addr × Obj)} {σ : St} {H : Hp} {s : Shared} {Q : VK} {k k' : Bool} (I : Inv X pins σ H s) (q : Q (.bl k) H) (e : k = k') : EP X pins σ Q (.bool k') s := by
  subst e
  exact ⟨.bl k, H, I, rfl, q⟩
theorem op_lt : OpR X (compareOp .Lt) (rI0 fun i j => .bl (decide (i < j))) := opB0 fun _ _ _ _ _ _ _ q => lt_int q
theorem op_le : OpR X (compareOp .LtE) (rI0 fun i j => .bl (decide (i ≤ j))) := opB0 fun _ _ _ _ _ _ _ q => le_int q
theorem op_in_str : OpR X (compareOp .In) (fun x y H Q => ∃ i j, x = .str i ∧ y = .str j ∧ Q (.bl (!(Builtin.Str.occurrences j i 0 j.length 1).isEmpty)) H) := by
  intro pins s σ H x y v u Q I rx ry h
  obtain ⟨i, j, rfl, rfl, q⟩ := h
  obtain ⟨t, rfl⟩ := rx
  obtain ⟨t', rfl⟩ := ry
  exact in_str (fin_bl I q rfl)
theorem OpR.or {f : Value → Value → Sem Value} {r r' : R2} (h : OpR X f r) (h' : OpR X f r') : OpR X f (fun x y H Q => r x y H Q ∨ r' x y H Q) := by
  intro pins s σ H x y v u Q I rx ry q
  rcases q with q | q
  · exact h pins s σ H x y v u Q I rx ry q
  · exact h' pins s σ H x y v u Q I rx ry q
theorem nomark (b : Expr) {op : CmpOp} (h : op ≠ .In := by decide) (h2 : op ≠ .NotIn := by decide) : behindInMarks op b = false := by
  have e1 : (op == CmpOp.In) = false := by cases op <;> first | rfl | exact absurd rfl h
  have e2 : (op == CmpOp.NotIn) = false := by cases op <;> first | rfl | exact absurd rfl h2
  cases b <;> simp [behindInMarks, e1, e2]
theorem pe_cmpR {op : CmpOp} {r : R2} (ho : OpR X (compareOp op) r) (ha : PE X a ta) (hb : PE X b tb) (hm : behindInMarks op b = false) : PE X (.Compare a [op] [b] pos) (tOp r ta tb) := by
  intro pins s σ H Q I h
  exact wpAny_Compare1 (binT ha hb I h fun v u s2 x y H2 I2 rx ry q => ho pins s2 σ H2 x y v u Q I2 rx ry q) hm
noncomputable def tTest (t : TE) : TT := fun σ H Q => t σ H fun x H' => ∃ k, x = .bl k ∧ Q k H'
theorem pt_cmpR {op : CmpOp} {r : R2} (ho : OpR X (compareOp op) r) (ha : PE X a ta) (hb : PE X b tb) (hm : behindInMarks op b = false) : PT X (.Compare a [op] [b] pos) (tTest (tOp r ta tb)) := by
  intro pins s σ H Q I h
  refine wpAny_isTrue_Compare1 (thn (ha pins s σ H _ I h) fun v s1 ⟨x, H1, I1, r1, q1⟩ => thn (hb pins s1 σ H1 _ I1 q1) fun u s2 ⟨y, H2, I2, r2, q2⟩ =>
    thn (ho pins s2 σ H2 x y v u _ I2 r1 r2 q2) fun c s3 ⟨z, H3, I3, r3, k, e, q3⟩ => ?_) hm
  subst e
  cases r3
  exact wpAny_truthy_bool ⟨H3, I3, q3⟩
noncomputable def tChain (r r' : R2) (ta tb tc : TE) : TE := fun σ H Q => ta σ H fun x H1 => tb σ H1 fun y H2 => r x y H2 fun z H3 => ∃ k, z = .bl k ∧
  (if k = true then tc σ H3 fun w' H4 => r' y w' H4 Q else Q (.bl false) H3)
theorem pt_chain {op op' : CmpOp} {r r' : R2} (ho : OpR X (compareOp op) r) (ho' : OpR X (compareOp op') r') (ha : PE X a ta) (hb : PE X b tb) (hc : PE X c tc)
    (hm : lastMarks [op, op'] [b, c] = false := by with_unfolding_all rfl) : PT X (.Compare a [op, op'] [b, c] pos) (tTest (tChain r r' ta tb tc)) := by
  intro pins s σ H Q I h
  refine isTrue_chain (thn (ha pins s σ H _ I h) fun v s1 ⟨x, H1, I1, r1, q1⟩ => test_link (thn (hb pins s1 σ H1 _ I1 q1) fun u s2 ⟨y, H2, I2, r2, q2⟩ =>
    thn (ho pins s2 σ H2 x y v u _ I2 r1 r2 q2) fun d s3 ⟨z, H3, I3, r3, k, e, q3⟩ => ?_)) hm
  subst e
  cases r3
  refine wpAny_truthy_bool ?_
  cases k with
  | false =>
    obtain ⟨k', e', q'⟩ := q3
    cases e'
    exact ite_ff ⟨H3, I3, q'⟩
  | true =>
    refine ite_tt (test_last (thn (hc pins s3 σ H3 _ I3 q3) fun w' s4 ⟨z', H4, I4, r4, q4⟩ => thn (ho' pins s4 σ H4 y z' u w' _ I4 r2 r4 q4) fun d' s5 ⟨z2, H5, I5, r5, k2, e2, q5⟩ => ?_))
    subst e2
    cases r5
    exact wpAny_truthy_bool ⟨H5, I5, q5⟩
theorem line63 : (sizeLine : Nat) < 2 ^ 63 := by rw [sizeLine_eq]; decide
theorem op_add_str : OpR X (binaryOp .Add) (fun x y H Q => ∃ i j, x = .str i ∧ y = .str j ∧ i.length + j.length ≤ sizeLine ∧ Q (.str (i ++ j)) H) := by
  intro pins s σ H x y v u Q I rx ry h
  obtain ⟨i, j, rfl, rfl, hz, q⟩ := h
  obtain ⟨t, rfl⟩ := rx
  obtain ⟨t', rfl⟩ := ry
  exact add_str (fun t' tk => ⟨.str (i ++ j), H, I.tok _, ⟨_, rfl⟩, q⟩) hz
theorem vals1 {x : V} {us : List Value} (r : Vals [x] us) : ∃ u, us = [u] ∧ RelV x u := by
  cases r with
  | cons r1 r2 => cases r2; exact ⟨_, rfl, r1⟩
theorem vals2 {x y : V} {us : List Value} (r : Vals [x, y] us) : ∃ u w', us = [u, w'] ∧ RelV x u ∧ RelV y w' := by
  cases r with
  | cons r1 r2 =>
    cases r2 with
    | cons r3 r4 => cases r4; exact ⟨_, _, rfl, r1, r3⟩
theorem call_str_int : CallR X (.type "str") (fun xs H Q => ∃ i, xs = [.int i] ∧ i.natAbs.log2 < 1920 ∧ Q (.str (toString i)) H) := by
  intro pins s σ H xs us Q I r h
  obtain ⟨i, rfl, hz, q⟩ := h
  obtain ⟨u, rfl, t, rfl⟩ := vals1 r
  exact PySem.P.str_of_int hz ⟨.str _, H, I.tok _, ⟨_, rfl⟩, q⟩
end
end L2
namespace L2
open PySem PySem.Spec PyProof.Rows
structure ObjM (h : Heap) (x dx C : Addr) (mA : Str → Option Value) : Prop where
  obj : h.get? x = some (PySem.W.instObj C dx)
  ns : h.Ns1 dx mA
  ne : dx ≠ x
theorem lookIn_ns {h : Heap} {dx : Addr} {mA : Str → Option Value} (n : h.Ns1 dx mA) : ∃ od, h.get? dx = some od ∧ ∀ name, PySem.W.lookIn name od = some (mA name) := by
  obtain ⟨o, es, ep, ho, hd, hk, _, hm⟩ := n
  refine ⟨o, ho, fun name => ?_⟩
  have e := hm name
  unfold nsFind findBy at e
  rw [← Array.find?_toList] at e
  unfold PySem.W.lookIn
  rw [hd]
  dsimp only
  split
  · rename_i y q
    rw [q] at e
    exact congrArg some e
  · rename_i q
    rw [q] at e
    have a : es.toList.any (·.refKey) = false := by
      rw [List.any_eq_false]
      intro y hy
      obtain ⟨z, t, hkey⟩ := hk y (Array.mem_toList_iff.mp hy)
      simp [DictEntry.refKey, hkey]
    have a' : ¬ es.toList.any (·.refKey) = true := by rw [a]; exact Bool.false_ne_true
    rw [if_neg a']
    exact congrArg some e
theorem ObjM.look {h : Heap} {x dx C : Addr} {mA : Str → Option Value} (I : ObjM h x dx C mA) : ∃ od, PySem.W.InstAt h x (PySem.W.instObj C dx) C (some od) ∧ ∀ name, PySem.W.lookIn name od = some (mA name) :=
  let ⟨od, ho, hl⟩ := lookIn_ns I.ns
  ⟨od, ⟨I.obj, rfl, rfl, ho⟩, hl⟩
section
variable {P : Program} {w : World} {H H' : Hp} {h h' : Heap} {a C dx : Addr} {fs fs' : List (Str × V)}
theorem ins_get (hok : HOk P w H h) (e : H a = some (.ins C dx fs)) : ∃ mA, ObjM h a dx C mA ∧ (∀ f, RelO (fs.lookup f) (mA f)) ∧ PySem.Within mA (fs.map (·.1)) ∧ fs.length ≤ 1000 ∧ H dx = some (.own a) := by
  obtain ⟨d, z, ne, ob, mA, n, r, q⟩ := (show ObjOk P w H h a (.ins C dx fs) from hok a _ e)
  exact ⟨mA, ⟨ob, n, ne⟩, r, q, z, d⟩
end
structure Cls (K : PySem.W.Frag) (C : Addr) : Prop where
  pg : PySem.W.plainGet K C Str.empty = true
  hd : PySem.W.hasDictIn K C = true
  po : PySem.W.plainOver K C = true
  sa : PySem.W.findIn K (.ref C) "__setattr__" = some (some (.builtin "object.__setattr__"))
theorem Cls.get {K : PySem.W.Frag} {C : Addr} (c : Cls K C) (f : Str) : PySem.W.plainGet K C f = true := c.pg
section
variable {X : Cx} {pins : List (Addr × Obj)} {σ : St} {H : Hp} {s : Shared} {A : Around} {E : Value → Shared → Prop} {Q : Value → Shared → Prop} {c : Value} {b : Bool}
inductive TyOf (K : PySem.W.Frag) (H : Hp) : V → Value → Prop where
  | non : TyOf K H .non (.type "NoneType")
  | bl (x : Bool) : TyOf K H (.bl x) (.type "bool")
  | int (i : Int) : TyOf K H (.int i) (.type "int")
  | str (x : Str) : TyOf K H (.str x) (.type "str")
  | flt (x : UInt64) : TyOf K H (.flt x) (.type "float")
  | lst {a : Addr} {xs : List V} (e : H a = some (.lst xs)) : TyOf K H (.ref a) (.type "list")
  | frz {a : Addr} {o : Obj} {xs : List V} (e : H a = some (.frz o (.lst xs))) : TyOf K H (.ref a) (.type "list")
  | tup {a : Addr} {xs : List V} (e : H a = some (.tup xs)) : TyOf K H (.ref a) (.type "tuple")
  | dK {a : Addr} {kvs : List (Key × V)} (e : H a = some (.dK kvs)) : TyOf K H (.ref a) (.type "dict")
  | dT {a : Addr} {kvs : List (List Key × V)} (e : H a = some (.dT kvs)) : TyOf K H (.ref a) (.type "dict")
  | ins {a C dx : Addr} {fs : List (Str × V)} (e : H a = some (.ins C dx fs)) (cl : Cls K C) (ha : PySem.W.findIn K (.ref C) "__class__" = some (some (.builtin "object.__class__")))
      (hn : PySem.W.specialIn K (.builtin "object.__class__") "__get__" = some (some (.builtin "getset_descriptor.__get__"))) (htk : PySem.W.takesIn K (.builtin "object.__class__") = some true)
      (hm : PySem.W.mroIn K C (.type "object") = some true) : TyOf K H (.ref a) (.ref C)
theorem isinst_ok {x : V} {u t : Value} (I : Inv X pins σ H s) (rx : RelV x u) (ty : TyOf X.K H x t) (e : PySem.W.kitOne X.K t c = some b) (h : ∀ tk, Q (.bool b) { s with toks := tk }) :
    wpAny (model X.prog X.w) A (call (.builtin "isinstance") [u, c]) Q E s := by
  cases ty with
  | non => cases (show u = Value.none from rx); exact PySem.W.kia_one PySem.W.kitx_none I.kIn True.intro e (fun z => nomatch z) h
  | bl y => cases (show u = Value.bool y from rx); exact PySem.W.kia_one PySem.W.kitx_bool I.kIn True.intro e (fun z => nomatch z) h
  | int i => obtain ⟨t, q⟩ := (show ∃ t, u = Value.int i t from rx); cases q; exact PySem.W.kia_one PySem.W.kitx_int I.kIn True.intro e (fun z => nomatch z) h
  | str y => obtain ⟨t, q⟩ := (show ∃ t, u = Value.str y t from rx); cases q; exact PySem.W.kia_one PySem.W.kitx_str I.kIn True.intro e (fun z => nomatch z) h
  | flt y => obtain ⟨t, q⟩ := (show ∃ t, u = Value.float y t from rx); cases q; exact PySem.W.kia_one PySem.W.kitx_float I.kIn True.intro e (fun z => nomatch z) h
  | @lst a xs ea =>
    cases (show u = Value.ref a from rx)
    obtain ⟨_, _, n, _, h1⟩ := (show ObjOk X.prog X.w H s.heap a (.lst xs) from I.hok a _ ea)
    exact PySem.W.kia_one PySem.W.kitx_list I.kIn ⟨_, h1, rfl⟩ e (fun z => nomatch z) h
  | @frz a ob xs ea =>
    cases (show u = Value.ref a from rx)
    obtain ⟨_, _, _, n, _, h1⟩ := (show ObjOk X.prog X.w H s.heap a (.frz ob (.lst xs)) from I.hok a _ ea)
    exact PySem.W.kia_one PySem.W.kitx_list I.kIn ⟨_, h1, rfl⟩ e (fun z => nomatch z) h
  | @tup a xs ea =>
    cases (show u = Value.ref a from rx)
    obtain ⟨_, _, _, p⟩ := (show ObjOk X.prog X.w H s.heap a (.tup xs) from I.hok a _ ea)
    obtain ⟨o, h1, h2, _⟩ := p
    exact PySem.W.kia_one PySem.W.kitx_tuple I.kIn ⟨o, h1, h2⟩ e (fun z => nomatch z) h
  | @dK a kvs ea =>
    cases (show u = Value.ref a from rx)
    obtain ⟨_, _, vs, _, p⟩ := (show ObjOk X.prog X.w H s.heap a (.dK kvs) from I.hok a _ ea)
    obtain ⟨o, es, ep, h1, h2, _⟩ := p
    exact PySem.W.kia_one PySem.W.kitx_dict I.kIn ⟨o, h1, h2.1⟩ e (fun z => nomatch z) h
  | @dT a kvs ea =>
    cases (show u = Value.ref a from rx)
    obtain ⟨_, _, xs, _, o, es, ep, h1, h2, _⟩ := (show ObjOk X.prog X.w H s.heap a (.dT kvs) from I.hok a _ ea)
    exact PySem.W.kia_one PySem.W.kitx_dict I.kIn ⟨o, h1, h2.1⟩ e (fun z => nomatch z) h
  | @ins a C dx fs ea cl ha hn htk hm =>
    cases (show u = Value.ref a from rx)
    obtain ⟨mA, O, _⟩ := ins_get I.hok ea
    obtain ⟨od, J, _⟩ := O.look
    exact PySem.W.kia_one (PySem.W.kitx_own (cl.get _) cl.hd ha hn htk hm) I.kIn J e (fun z => nomatch z) h
end
end L2
namespace L2
open PySem PySem.Spec PyProof.Rows
structure Room (k : Nat) (A : Around) : Prop where
  hd : A.handled = none
  dp : A.depth + 3 * k + 5 < recursionLimit
  un : A.units + 16 * k + 200 < cLine
theorem Room.mono {j k : Nat} {A : Around} (r : Room k A) (h : j ≤ k) : Room j A := ⟨r.hd, by have := r.dp; omega, by have := r.un; omega⟩
theorem Room.deeper {k : Nat} {A : Around} (r : Room (k + 1) A) (env : Env) : Room k (A.deeper env) :=
  ⟨r.hd, by have := r.dp; show A.depth + 1 + 3 * k + 5 < _; omega, by have := r.un; show A.units + 3 + 16 * k + 200 < _; omega⟩
theorem Room.depth {k : Nat} {A : Around} (r : Room k A) : A.depth < recursionLimit := by have := r.dp; omega
theorem Room.units {k : Nat} {A : Around} (r : Room k A) : A.units + 64 < cLine := by have := r.un; omega
noncomputable def tNil : TA := fun _ H Q => Q [] H
noncomputable def tCons (ta : TE) (tr : TA) : TA := fun σ H Q => ta σ H fun x H1 => tr σ H1 fun xs H2 => Q (x :: xs) H2
section
variable {X : Cx} {e : Expr} {es : List Expr} {te : TE} {t : TA} {pos : Pos}
theorem pa_nil : PA X [] tNil := fun _ _ _ _ H Q I h => Calls.spliced_nil ⟨[], H, I, .nil, h⟩
theorem pa_cons (ha : PE X e te) (hr : PA X es t) (hs : starEach (e :: es) X.env = (false, eval e X.env) :: starEach es X.env := by rfl) : PA X (e :: es) (tCons te t) := by
  intro pos pins s σ H Q I h
  rw [hs]
  show wpAny _ _ (spliced ((false, eval e X.env) :: backTo pos (starEach es X.env))) _ _ s
  refine Calls.spliced_cons (thn (ha pins s σ H _ I h) fun u s1 ⟨x, H1, I1, r1, q1⟩ => ?_)
  exact thn (hr pos pins s1 σ H1 _ I1 q1) fun us s2 ⟨xs, H2, I2, r2, q2⟩ => ⟨x :: xs, H2, I2, .cons r1 r2, q2⟩
noncomputable def tTup (t : TA) : TE := fun σ H Q => t σ H fun xs H1 => xs.length ≤ sizeLine ∧ ∀ p, H1 p = none → Q (.ref p) (upd H1 p (.tup xs))
noncomputable def tLst (t : TA) : TE := fun σ H Q => t σ H fun xs H1 => xs.length ≤ sizeLine ∧ ∀ p, H1 p = none → Q (.ref p) (upd H1 p (.lst xs))
theorem pe_tup {x1} (h : PA X es t) : PE X (.Tuple es x1 pos) (tTup t) := by
  intro pins s σ H Q I hq
  refine wpAny_Tuple_spliced (thn (h pos pins s σ H _ I hq) fun us s1 ⟨xs, H1, I1, r, z, q⟩ => ⟨by rw [← r.length]; exact z, ?_⟩)
  have hf : H1 s1.heap.objs.size = none := I1.hok.fresh (Nat.le_refl _)
  refine ⟨.ref s1.heap.objs.size, upd H1 s1.heap.objs.size (.tup xs), I1.laid (t' := s1.toks) (fun b u e => Heap.get?_push_of_some _ e) (Nat.le_refl _) ?_, rfl, q _ hf⟩
  exact ⟨z, us, r, ⟨_, Heap.get?_push_size _ rfl, rfl, _, rfl⟩⟩
theorem pe_lst (h : PA X es t) : PE X (.List es pos) (tLst t) := by
  intro pins s σ H Q I hq
  refine wpAny_List_spliced (thn (h pos pins s σ H _ I hq) fun us s1 ⟨xs, H1, I1, r, z, q⟩ => ⟨by rw [← r.length]; exact z, ?_⟩)
  have hf : H1 s1.heap.objs.size = none := I1.hok.fresh (Nat.le_refl _)
  refine ⟨.ref s1.heap.objs.size, upd H1 s1.heap.objs.size (.lst xs), I1.laid (t' := s1.toks) (fun b u e => Heap.get?_push_of_some _ e) (Nat.le_refl _) ?_, rfl, q _ hf⟩
  exact ⟨z, us, 0, r, Heap.get?_push_size _ rfl⟩
end
noncomputable abbrev Sp := List V → Hp → VK → XK → Prop
noncomputable abbrev CXT := List Env → Hp → Shared → XK → Value → Shared → Prop
structure Env0 (P : Program) (w : World) (K : PySem.W.Frag) (mg : Str → Option Value) (base : Heap) (A : Around) (outer : List Env) (s : Shared) (H : Hp) : Prop where
  frames : A.frames = some outer
  mod : Mod K mg base
  bs : ∀ b o, base.get? b = some o → s.heap.get? b = some o ∧ H b = none
  bsz : base.objs.size ≤ s.heap.objs.size
  funs : s.heap.FunFrames base outer
  frf : ∀ b ∈ frs outer, H b = none
  hok : HOk P w H s.heap
  bare : AllBare s.gens
noncomputable def CE (outer : List Env) (P : Program) (w : World) (H : Hp) (s : Shared) (Q : VK) (u : Value) (s' : Shared) : Prop :=
  ∃ v H', s'.os = s.os ∧ AllBare s'.gens ∧ Un (frs outer) [] H H' s.heap s'.heap ∧ HOk P w H' s'.heap ∧ RelV v u ∧ Q v H'
noncomputable def CR (CX : CXT) (outer : List Env) (P : Program) (w : World) (H : Hp) (s : Shared) (Q : VK) (E : XK) (r : Result) (s' : Shared) : Prop :=
  match r with
  | .ok (.ret u) => CE outer P w H s Q u s'
  | .ok _ => False
  | .error e => CX outer H s E e s'
structure FnOk (P : Program) (w : World) (K : PySem.W.Frag) (mg : Str → Option Value) (base : Heap) (CX : CXT) (k : Nat) (f : Addr) (fd : FuncData) (ps : List Str) (sp : Sp) : Prop where
  len : ∀ vs H Q E, sp vs H Q E → vs.length = ps.length
  run : ∀ (A : Around) (outer : List Env) (s : Shared) (H : Hp) (args : Args) (us : List Value) (vs : List V) (Q : VK) (E : XK), Room k A → Env0 P w K mg base A outer s H → BindsTo s fd args (ps.zip us) → Vals vs us → sp vs H Q E →
    codeAny (model P w) A (.call (.ref f) args) (CR CX outer P w H s Q E) s
theorem FnOk.imp {P : Program} {w : World} {K : PySem.W.Frag} {mg : Str → Option Value} {base : Heap} {CX : CXT} {k : Nat} {f : Addr} {fd : FuncData} {ps : List Str} {sp sp' : Sp} (F : FnOk P w K mg base CX k f fd ps sp)
    (h : ∀ vs H Q E, sp' vs H Q E → sp vs H Q E) : FnOk P w K mg base CX k f fd ps sp' :=
  ⟨fun vs H Q E q => F.len vs H Q E (h _ _ _ _ q), fun A outer s H args us vs Q E hr he hb hv hs => F.run A outer s H args us vs Q E hr he hb hv (h _ _ _ _ hs)⟩
section
variable {X : Cx} {pins : List (Addr × Obj)} {σ : St} {H : Hp} {s s' : Shared}
theorem Inv.env0 (I : Inv X pins σ H s) : Env0 X.prog X.w X.K X.mg X.base X.A X.stack s H :=
  ⟨I.ok.frames, I.ok.mod, I.bs, Nat.le_trans I.ok.bsz I.sz, I.stack, I.stkFree, I.hok, I.bare⟩
theorem Inv.after {Q : VK} {u : Value} (I : Inv X pins σ H s) (h : CE X.stack X.prog X.w H s Q u s') : EP X pins σ Q u s' := by
  obtain ⟨v, H', os, bare, un, hok, r, q⟩ := h
  obtain ⟨hh, g, d, t, os'⟩ := s'
  obtain rfl : os' = s.os := os
  exact ⟨v, H', I.call (h' := hh) (g' := g) (d' := d) (t' := t) (ch := []) un hok bare (fun b z => absurd z (by simp)), r, q⟩
end
noncomputable def tCall (sp : Sp) (dvs : List V) (E : XK) (t : TA) : TE := fun σ H Q => t σ H fun vs H1 => sp (vs ++ dvs) H1 Q E
noncomputable def Binds (K : PySem.W.Frag) (fd : FuncData) (ps : List Str) (ds : List Value) : Prop :=
  ∀ (s : Shared) (us : List Value), K.In s.heap → (us ++ ds).length = ps.length → BindsTo s fd ⟨us, []⟩ (ps.zip (us ++ ds))
theorem Binds.all {K : PySem.W.Frag} {fd : FuncData} {ps : List Str} (h : ∀ us : List Value, us.length = ps.length → bindArgs fd ⟨us, []⟩ = pure (ps.zip us)) : Binds K fd ps [] := fun s us _ hl => by
  rw [List.append_nil] at hl ⊢
  exact .of_eq (h us hl)
noncomputable def Passes (CX : CXT) (X : Cx) (E : XK) : Prop := ∀ (pins : List (Addr × Obj)) (σ : St) (H : Hp) (s : Shared) (e : Value) (s' : Shared), Inv X pins σ H s → CX X.stack H s E e s' → X.xe e s'
section
variable {X : Cx} {CX : CXT} {k : Nat} {f C : Addr} {fd : FuncData} {ps : List Str} {sp : Sp} {dvs : List V} {ds : List Value} {E : XK} {x m : Str} {p pos apos : Pos} {e o : Expr} {es : List Expr} {ta : TE} {t : TA}
theorem run_fn {pins : List (Addr × Obj)} {σ : St} {H : Hp} {s : Shared} {Q : VK} {us : List Value} {vs : List V} (F : FnOk X.prog X.w X.K X.mg X.base CX k f fd ps sp) (hr : Room k X.A) (hb : Binds X.K fd ps ds) (hd : Vals dvs ds) (hx : Passes CX X E)
    (I : Inv X pins σ H s) (r : Vals vs us) (h : sp (vs ++ dvs) H Q E) : wpAny (model X.prog X.w) X.A (call (.ref f) us) (EP X pins σ Q) X.xe s := by
  have r2 : Vals (vs ++ dvs) (us ++ ds) := r.append hd
  have hl : (us ++ ds).length = ps.length := by rw [← r2.length]; exact F.len _ _ _ _ h
  refine wpAny_call (codeAny_mono (F.run X.A X.stack s H ⟨us, []⟩ (us ++ ds) (vs ++ dvs) Q E hr I.env0 (hb s us I.kIn hl) r2 h) fun r s' hq => ?_)
  cases r with
  | error e => exact hx pins σ H s e s' I hq
  | ok fl =>
    cases fl with
    | ret u => exact I.after hq
    | next => exact False.elim hq
    | brk => exact False.elim hq
    | cont => exact False.elim hq
theorem pe_call (F : FnOk X.prog X.w X.K X.mg X.base CX k f fd ps sp) (hr : Room k X.A) (hg : Gl X x) (hm : X.mg x = some (.ref f)) (hk : PySem.W.keepIn X.K (.ref f) = true) (hb : Binds X.K fd ps ds) (hd : Vals dvs ds) (hx : Passes CX X E)
    (ha : PA X (e :: es) t) (hdb : (x == ("__debug__" : Str)) = false := by decide) (he : starEach (e :: es) X.env = (false, eval e X.env) :: starEach es X.env := by rfl) (hpl : (backTo pos (starEach es X.env)).any (·.1) = false := by rfl) :
    PE X (.Call (.Name x p) (e :: es) [] pos) (tCall sp dvs E t) := by
  intro pins s σ H Q I h
  refine wpAny_Call_Name_kw (ld_glob I hg hm ?_ hdb)
  refine PySem.W.callWith_K (h₀ := X.base) I.ok.mod.kin hk (thn (ha pos pins s σ H _ I h) fun us s1 ⟨vs, H1, I1, r, q⟩ => ⟨I1.kIn, ?_⟩) he hpl
  exact run_fn F hr hb hd hx I1 r q
end
noncomputable def PK (X : Cx) (kws : List Keyword) (t : TA) : Prop :=
  ∀ (pos : Pos) (pins : List (Addr × Obj)) (s : Shared) (σ : St) (H : Hp) (Q : List V → Hp → Prop), Inv X pins σ H s → t σ H Q → wpAny (model X.prog X.w) X.A (evalAll ((backToKw pos (keywordEach kws X.env)).map (·.2))) (AP X pins σ Q) X.xe s
section
variable {X : Cx} {CX : CXT} {k : Nat} {f C : Addr} {fd : FuncData} {ps ks : List Str} {sp : Sp} {E : XK} {x m : Str} {p pos apos kpos : Pos} {e o : Expr} {es : List Expr} {kws : List Keyword} {te ta : TE} {t tk : TA} {nm : Option Str}
theorem pk_nil : PK X [] tNil := fun _ _ _ _ H Q I h => wpAny_evalAll_nil ⟨[], H, I, .nil, h⟩
theorem pk_cons (ha : PE X e te) (hr : PK X kws t) : PK X (⟨nm, e, kpos⟩ :: kws) (tCons te t) := by
  intro pos pins s σ H Q I h
  show wpAny _ _ (evalAll ((do let v ← eval e X.env; standAt pos; pure v) :: (backToKw pos (keywordEach kws X.env)).map (·.2))) _ _ s
  refine wpAny_evalAll_cons (wpAny_bind (thn (ha pins s σ H _ I h) fun u s1 ⟨x, H1, I1, r1, q1⟩ => wpAny_bind (wpAny_standAt (wpAny_pure ?_))))
  exact thn (hr pos pins s1 σ H1 _ I1 q1) fun us s2 ⟨xs, H2, I2, r2, q2⟩ => ⟨x :: xs, H2, I2, .cons r1 r2, q2⟩
variable {g : List Value → List Value → List Value} {gV : List V → List V → List V}
end
structure FnScope (N P : List Str) (sc : Scope) : Prop where
  kind : sc.kind = .function
  co : sc.isCoroutine = false
  gen : sc.isGenerator = false
  nd : N.Nodup
  pre : N.take P.length = P
  par : ∀ x ∈ P, sc.names.lookup x = some .local ∨ sc.names.lookup x = some .cell
  nofree : ∀ y ∈ sc.names, y.2 ≠ .free
theorem bindL_out {kindOf : Str → Option NameKind} {x : Str} : ∀ {binds : List (Str × Value)} {m : Str → Option Value}, (∀ v, (x, v) ∉ binds) → bindL kindOf binds m x = m x
  | [], _, _ => rfl
  | (n, v) :: r, m, h => by
    unfold bindL
    rw [bindL_out fun w hw => h w (List.mem_cons_of_mem _ hw)]
    split
    · have : x ≠ n := by rintro rfl; exact h v List.mem_cons_self
      simp [this]
    · rfl
theorem bindC_out {kindOf : Str → Option NameKind} {x : Str} : ∀ {binds : List (Str × Value)} {m : Str → Option Value}, (∀ v, (x, v) ∉ binds) → bindC kindOf binds m x = m x
  | [], _, _ => rfl
  | (n, v) :: r, m, h => by
    unfold bindC
    rw [bindC_out fun w hw => h w (List.mem_cons_of_mem _ hw)]
    split
    · rfl
    · have : x ≠ n := by rintro rfl; exact h v List.mem_cons_self
      simp [this]
theorem bindL_get {kindOf : Str → Option NameKind} {x : Str} {v : Value} : ∀ {P : List Str} {vs : List Value} {i : Nat} {m : Str → Option Value}, P.Nodup → P[i]? = some x → vs[i]? = some v → kindOf x = some .local →
    bindL kindOf (P.zip vs) m x = some v
  | [], _, _, _, _, h, _, _ => by simp at h
  | _ :: _, [], _, _, _, _, h, _ => by simp at h
  | p :: P, w :: vs, 0, m, nd, h1, h2, hk => by
    simp at h1 h2; subst h1; subst h2
    show bindL kindOf ((p, w) :: P.zip vs) m p = _
    unfold bindL
    rw [bindL_out fun v hv => (List.nodup_cons.mp nd).1 (List.of_mem_zip hv).1, if_pos hk]
    simp
  | p :: P, w :: vs, i + 1, m, nd, h1, h2, hk => by
    show bindL kindOf ((p, w) :: P.zip vs) m x = _
    unfold bindL
    exact bindL_get (i := i) (List.nodup_cons.mp nd).2 (by simpa using h1) (by simpa using h2) hk
theorem bindC_get {kindOf : Str → Option NameKind} {x : Str} {v : Value} : ∀ {P : List Str} {vs : List Value} {i : Nat} {m : Str → Option Value}, P.Nodup → P[i]? = some x → vs[i]? = some v → kindOf x ≠ some .local →
    bindC kindOf (P.zip vs) m x = some v
  | [], _, _, _, _, h, _, _ => by simp at h
  | _ :: _, [], _, _, _, _, h, _ => by simp at h
  | p :: P, w :: vs, 0, m, nd, h1, h2, hk => by
    simp at h1 h2; subst h1; subst h2
    show bindC kindOf ((p, w) :: P.zip vs) m p = _
    unfold bindC
    rw [bindC_out fun v hv => (List.nodup_cons.mp nd).1 (List.of_mem_zip hv).1, if_neg hk]
    simp
  | p :: P, w :: vs, i + 1, m, nd, h1, h2, hk => by
    show bindC kindOf ((p, w) :: P.zip vs) m x = _
    unfold bindC
    exact bindC_get (i := i) (List.nodup_cons.mp nd).2 (by simpa using h1) (by simpa using h2) hk
noncomputable def start (N : List Str) (vs : List V) : St := vs.map some ++ List.replicate (N.length - vs.length) none
noncomputable def cxOf (CX : CXT) (P : Program) (w : World) (K : PySem.W.Frag) (mg : Str → Option Value) (base : Heap) (N : List Str) (qual : Str) (scope : Scope) (f : Addr) (cd : Value) (A : Around) (outer : List Env) (s : Shared) (H : Hp) (E : XK) : Cx where
  prog := P
  w := w
  K := K
  mg := mg
  base := base
  A := A.deeper (envOfC qual scope s.heap.objs.size f cd)
  N := N
  s₀ := s
  H₀ := H
  env := envOfC qual scope s.heap.objs.size f cd
  outer := outer
  stack := envOfC qual scope s.heap.objs.size f cd :: outer
  ex := []
  calm := true
  fn := fun _ => true
  pn := []
  xe := fun e s' => wpAny (model P w) (A.deeper (envOfC qual scope s.heap.objs.size f cd)) (leaving (envOfC qual scope s.heap.objs.size f cd) e) (fun _ s'' => CX outer H s E e s'') (fun e' s'' => CX outer H s E e' s'') s'
theorem cell_has {sc : Scope} {n : Nat} {x : Str} (h : sc.names.lookup x = some .cell) : ∃ c, (cellsFrom n sc.names []).lookup x = some c := by
  have q := PySem.W.cellsFrom_some sc.names n [] (.inl h)
  exact Option.isSome_iff_exists.mp q
theorem inv_start {CX : CXT} {P : Program} {w : World} {K : PySem.W.Frag} {mg : Str → Option Value} {base : Heap} {N ps : List Str} {qual : Str} {scope : Scope} {f : Addr} {cd : Value} {A : Around} {outer : List Env} {s s1 : Shared} {H : Hp} {E : XK} {us : List Value} {vs : List V}
    (S : FnScope N ps scope) (hd : A.handled = none) (e0 : Env0 P w K mg base A outer s H) (hl : vs.length = ps.length) (r : Vals vs us)
    (x : InCallC s s.heap.objs.size (bindL (envOfC qual scope s.heap.objs.size f cd).kindOf (ps.zip us) fun _ => none) (cellsFrom (s.heap.objs.size + 1) scope.names []) (bindC (envOfC qual scope s.heap.objs.size f cd).kindOf (ps.zip us) fun _ => none) s1) :
    Inv (cxOf CX P w K mg base N qual scope f cd A outer s H E) [] (start N vs) H s1 := by
  have hpl : ps.length ≤ N.length := by have := congrArg List.length S.pre; rw [List.length_take] at this; omega
  obtain ⟨h1, tk, rfl, hk⟩ := x.done
  have noA : ∀ b : Addr, b ∉ (cxOf CX P w K mg base N qual scope f cd A outer s H E).ex := fun b z => absurd (show b ∈ ([] : List Addr) from z) (by simp)
  refine ⟨⟨e0.mod, S.kind, rfl, rfl, Nat.le_refl _, fun y z c h1 h2 => ?_, fun y hy => ?_, fun y c _ h => ?_, fun _ => hd, Around.frames_deeper e0.frames, .inr ⟨rfl, rfl⟩, fun b z => absurd z (noA b), e0.bs, e0.bsz, fun b _ _ => noA b, fun b z => absurd z (noA b), e0.funs, e0.frf⟩,
    rfl, e0.bare, Un.kept hk, ⟨_, x.toInCall.ns, fun i y v h1 h2 h3 => ?_⟩, fun y c h => ⟨_, x.cell y c h⟩, e0.hok.fresh (Nat.le_refl _), fun y c h => ?_, fun p hp => absurd (show p ∈ ([] : List (Addr × Obj)) from hp) (by simp), e0.hok.kept hk, ?_⟩
  · exact name_of_addr x.apart (PySem.mem_of_lookup h1) (PySem.mem_of_lookup h2)
  · have hy : scope.names.lookup y = some .cell ∨ scope.names.lookup y = some .free := hy
    rcases hy with hy | hy
    · exact cell_has hy
    · exact absurd rfl (S.nofree _ (PySem.mem_of_lookup hy))
  · exact Nat.le_of_lt (x.above y c (PySem.mem_of_lookup h))
  · have hi : i < vs.length := by
      unfold start at h2
      by_cases hi : i < vs.length
      · exact hi
      · rw [List.getElem?_append_right (by simpa using hi)] at h2
        rw [List.getElem?_replicate] at h2
        split at h2 <;> cases h2
    have ha : vs[i]? = some v := by
      unfold start at h2
      rw [List.getElem?_append_left (by simpa using hi), List.getElem?_map] at h2
      cases e : vs[i]? with
      | none => rw [e] at h2; cases h2
      | some a => rw [e] at h2; cases h2; rfl
    obtain ⟨u, hu, rv⟩ := r.get ha
    have hp : ps[i]? = some y := by
      rw [← S.pre, List.getElem?_take_of_lt (by omega)]; exact h1
    have ndP : ps.Nodup := by rw [← S.pre]; exact S.nd.sublist (List.take_sublist _ _)
    refine ⟨u, rv, ?_⟩
    rcases S.par y (List.mem_of_getElem? hp) with k | k
    · exact .inl ⟨k, bindL_get ndP hp hu k⟩
    · obtain ⟨c, e⟩ := cell_has (n := s.heap.objs.size + 1) k
      refine .inr ⟨.inl k, c, e, ?_⟩
      have q := x.cell y c e
      rw [bindC_get ndP hp hu (by show scope.names.lookup y ≠ _; rw [k]; decide)] at q
      exact q
  · exact e0.hok.fresh (Nat.le_of_lt (x.above y c (PySem.mem_of_lookup h)))
  · unfold start
    show _ = N.length
    rw [List.length_append, List.length_map, List.length_replicate]
    omega
theorem fn_of {CX : CXT} {P : Program} {w : World} {K : PySem.W.Frag} {mg : Str → Option Value} {base : Heap} {k : Nat} {f : Addr} {name qual : Str} {params : Arguments} {body : List Stmt} {scope : Scope} {dV kV doc pm cdv ct oc : Value} {an od : Option Addr}
    {osl : Array (Option Value)} {N ps : List Str} {sp : Sp} (lk : K.lookup f = some ⟨oc, od, .func (PySem.W.fnOf name qual params body scope dV kV doc pm an cdv ct), osl⟩) (hcd : PySem.W.codeIn K cdv qual = true) (S : FnScope N ps scope)
    (len : ∀ vs H Q E, sp vs H Q E → vs.length = ps.length)
    (hbody : ∀ (A : Around) (outer : List Env) (s : Shared) (H : Hp) (vs : List V) (Q : VK) (E : XK), Room k (A.deeper (envOfC qual scope s.heap.objs.size f cdv)) → sp vs H Q E →
      ∃ t, PSs (cxOf CX P w K mg base N qual scope f cdv A outer s H E) body t ∧ t { nx := fun _ H' => Q .non H', rt := Q } (start N vs) H) :
    FnOk P w K mg base CX (k + 1) f (PySem.W.fnOf name qual params body scope dV kV doc pm an cdv ct) ps sp := by
  refine ⟨len, fun A outer s H args us vs Q E hr e0 hb r hsp => ?_⟩
  have hl := len _ _ _ _ hsp
  have KX : K.In s.heap := e0.mod.kin.keeps fun b o e => (e0.bs b o e).1
  have lim : s.heap.NoLimit := e0.mod.nolimit.keeps fun b o e => (e0.bs b o e).1
  have hkind : ∀ y ∈ ps.zip us, scope.names.lookup y.1 = some .local ∨ (scope.names.lookup y.1 = some .cell ∧ ((cellsFrom (s.heap.objs.size + 1) scope.names []).lookup y.1).isSome = true) := fun ⟨n, v⟩ hy => by
    rcases S.par n (List.of_mem_zip hy).1 with q | q
    · exact .inl q
    · exact .inr ⟨q, PySem.W.cellsFrom_some _ _ _ (.inl q)⟩
  refine codeAny_call_function hr.depth (KX _ _ lk) rfl S.co S.gen rfl (PySem.W.codeRec_of KX hcd) (hb _ _ _ _ ?_)
  refine wpAny_newFunctionEnv_cells S.kind hkind fun env he s1 x => ?_
  subst he
  refine ⟨lim.keeps x.toInCall.keep, codeAny_func ?_⟩
  obtain ⟨t, ht, hq⟩ := hbody A outer s H vs Q E (hr.deeper _) hsp
  have I : Inv (cxOf CX P w K mg base N qual scope f cdv A outer s H E) [] (start N vs) H s1 := inv_start S hr.hd e0 hl r x
  refine wpAny_mono (ht [] s1 (start N vs) H _ I hq) (fun fl s' hs => ?_) fun e s' hs => hs
  have fin : ∀ {σ' : St} {H' : Hp} {v : V} {u : Value}, Inv (cxOf CX P w K mg base N qual scope f cdv A outer s H E) [] σ' H' s' → RelV v u → Q v H' → CE outer P w H s Q u s' :=
    fun {σ' H' v u} J rv q => ⟨v, H', J.os, J.bare, J.base, J.hok, rv, q⟩
  cases fl with
  | ret u =>
    obtain ⟨v, σ', H', J, rv, q⟩ := hs
    exact fin J rv q
  | next =>
    obtain ⟨σ', H', J, q⟩ := hs
    exact fin (v := V.non) (u := Value.none) J rfl q
  | brk =>
    obtain ⟨_, _, _, q⟩ := hs
    exact False.elim q
  | cont =>
    obtain ⟨_, _, _, q⟩ := hs
    exact False.elim q
end L2
namespace L2
open PySem PySem.Spec PyProof.Rows
section
variable {X : Cx} {x : Str} {p pos : Pos} {e : Expr} {es : List Expr} {t : TA} {id T : String} {r : List V → Hp → VK → Prop}
noncomputable def tCB (r : List V → Hp → VK → Prop) (t : TA) : TE := fun σ H Q => t σ H fun vs H1 => r vs H1 Q
theorem pe_callB (hc : CallR X (.builtin id) r) (hg : Gl X x) (hm : X.mg x = none) (hv : bootBuiltins x = some (.builtin id)) (ha : PA X (e :: es) t) (hn : x ≠ "__name__" := by decide) (hdb : (x == ("__debug__" : Str)) = false := by decide)
    (he : starEach (e :: es) X.env = (false, eval e X.env) :: starEach es X.env := by rfl) (hpl : (backTo pos (starEach es X.env)).any (·.1) = false := by rfl) : PE X (.Call (.Name x p) (e :: es) [] pos) (tCB r t) := by
  intro pins s σ H Q I h
  refine wpAny_Call_Name_kw (ld_blt I hg hm hv ?_ hn hdb)
  exact PyProof.Rows.callWith_builtin1 (thn (ha pos pins s σ H _ I h) fun us s1 ⟨vs, H1, I1, r1, q1⟩ => hc pins s1 σ H1 vs us Q I1 r1 q1) he hpl
theorem pe_callTy (hc : CallR X (.type T) r) (hg : Gl X x) (hm : X.mg x = none) (hv : bootBuiltins x = some (.type T)) (ha : PA X (e :: es) t) (hn : x ≠ "__name__" := by decide) (hdb : (x == ("__debug__" : Str)) = false := by decide)
    (he : starEach (e :: es) X.env = (false, eval e X.env) :: starEach es X.env := by rfl) (hpl : (backTo pos (starEach es X.env)).any (·.1) = false := by rfl) : PE X (.Call (.Name x p) (e :: es) [] pos) (tCB r t) := by
  intro pins s σ H Q I h
  refine wpAny_Call_Name_kw (ld_blt I hg hm hv ?_ hn hdb)
  exact PyProof.Rows.callWith_type1 (thn (ha pos pins s σ H _ I h) fun us s1 ⟨vs, H1, I1, r1, q1⟩ => hc pins s1 σ H1 vs us Q I1 r1 q1) he hpl
end
end L2
namespace HT
open PySem PyProof.Rows
section
variable {prog : Program} {w : World} {A : Around} {E : Value → Shared → Prop} {s : Shared}
theorem cat_tup {t b : Addr} {vs ws : List Value} {Q : Value → Shared → Prop} (ht : IsTup s.heap t vs.toArray) (hb : IsTup s.heap b ws.toArray) (hv : vs ≠ [])
    (h1 : ws = [] → Q (.ref t) s) (h2 : ws ≠ [] → Q (.ref s.heap.objs.size) { s with heap := s.heap.push { cls := .type "tuple", data := .seq (vs ++ ws).toArray } })
    (hsz : vs.length + ws.length ≤ sizeLine) : wpAny (model prog w) A (binaryOp .Add (.ref t) (.ref b)) Q E s := by
  obtain ⟨⟨cls, dd, data, sl⟩, ho, hc, n, hd⟩ := id ht
  obtain ⟨⟨cls2, dd2, data2, sl2⟩, ho2, hc2, n2, hd2⟩ := id hb
  simp only at hc hd hc2 hd2
  subst hc hd hc2 hd2
  have e : vs.toArray ++ ws.toArray = (vs ++ ws).toArray := by simp
  by_cases hw : ws = []
  · exact concat_meets ⟨_, ho, rfl⟩ ⟨_, ho2, rfl⟩ noFill_tuple_add seq_tuple_add PySem.F.slot_tuple_add PySem.F.entry_tuple_add (PySem.F.args_tuple_add_2 _ _)
      (tuple_addW1 t b vs.toArray ws.toArray n n2 dd dd2 sl sl2 (by simpa using hv) (by simp [hw])) ⟨ho, ho2, h1 hw⟩
  · refine concat_meets ⟨_, ho, rfl⟩ ⟨_, ho2, rfl⟩ noFill_tuple_add seq_tuple_add PySem.F.slot_tuple_add PySem.F.entry_tuple_add (PySem.F.args_tuple_add_2 _ _)
      (tuple_addW2 t b vs.toArray ws.toArray n n2 dd dd2 sl sl2 (by simpa using hv) (by simpa using hw) (by rw [List.size_toArray, List.size_toArray]; exact hsz)) ⟨ho, ho2, ?_⟩
    rw [e]
    exact h2 hw
noncomputable def sIx (n d : Nat) : Option Int → Nat
  | none => d
  | some v => if v < 0 then (v + (n : Int)).toNat else min v.toNat n
theorem sIx_le (n d : Nat) (hd : d ≤ n) (o : Option Int) : sIx n d o ≤ n := by
  cases o with
  | none => exact hd
  | some v =>
    show (if v < 0 then (v + (n : Int)).toNat else min v.toNat n) ≤ n
    by_cases hv : v < 0
    · rw [if_pos hv]; omega
    · rw [if_neg hv]; exact Nat.min_le_right _ _
theorem clip_eq (v : Int) (n d : Nat) : (if v < 0 then max (v + (n : Int)) 0 else min v (n : Int)) = ((sIx n d (some v) : Nat) : Int) := by
  show (if v < 0 then max (v + (n : Int)) 0 else min v (n : Int)) = (((if v < 0 then (v + (n : Int)).toNat else min v.toNat n) : Nat) : Int)
  by_cases hv : v < 0
  · simp only [if_pos hv]; omega
  · simp only [if_neg hv]; omega
theorem adjust_gen (lo hi : Option Int) (n : Nat) : Builtin.Slice.sliceAdjust lo hi 1 (n : Int) = (((sIx n 0 lo : Nat) : Int), ((sIx n n hi : Nat) : Int)) := by
  have h1 : ¬ ((1 : Int) < 0) := by omega
  unfold Builtin.Slice.sliceAdjust
  simp only [h1, if_false]
  refine Prod.ext ?_ ?_
  · cases lo with
    | none => rfl
    | some v => exact clip_eq v n 0
  · cases hi with
    | none => rfl
    | some v => exact clip_eq v n n
theorem places_gen (i j : Nat) : Builtin.Slice.slicePlaces (i : Int) (j : Int) 1 = j - i := by
  unfold Builtin.Slice.slicePlaces
  have h1 : (1 : Int) > 0 := by omega
  simp only [h1, if_true, Int.ediv_one]
  split <;> omega
theorem slicePart_ {v : Value} {o : Option Int} {Q : Option Int → Shared → Prop} (p : IsPart v o) (h : Q o s) : wpAny (model prog w) A (Builtin.Slice.slicePartIndex v) Q E s := by
  cases p with
  | none => exact slicePart_none h
  | int i t => exact slicePart_int h
theorem sliceApplied_gen {sl : Addr} {vl vu : Value} {lo hi : Option Int} {n : Nat} {Q : Int × Int × Nat → Shared → Prop} (hs : s.heap.IsSliceOf sl vl vu .none) (pl : IsPart vl lo) (pu : IsPart vu hi)
    (h : Q (((sIx n 0 lo : Nat) : Int), 1, sIx n n hi - sIx n 0 lo) s) : wpAny (model prog w) A (Builtin.Slice.sliceApplied (.ref sl) (pure (n : Int))) Q E s := by
  obtain ⟨os, hos, hcs, hds⟩ := id hs
  unfold Builtin.Slice.sliceApplied Builtin.Slice.sliceFields
  refine wpAny_bind (wpAny_bind (wpAny_field hos hds (x := vl) rfl (wpAny_bind (wpAny_field hos hds (x := vu) rfl (wpAny_bind (wpAny_field hos hds (x := .none) rfl (wpAny_pure ?_)))))))
  refine wpAny_bind (slicePart_none ?_)
  show wpAny _ _ (if ((1 : Int) == 0) = true then _ else _) _ _ s
  rw [if_neg (by decide)]
  refine wpAny_bind (slicePart_ pl (wpAny_bind (slicePart_ pu (wpAny_bind (wpAny_pure ?_)))))
  show wpAny _ _ (match Builtin.Slice.sliceAdjust lo hi 1 (n : Int) with | (lo, hi) => pure (lo, (1 : Int), Builtin.Slice.slicePlaces lo hi 1)) _ _ s
  rw [adjust_gen lo hi n]
  show wpAny _ _ (pure (((sIx n 0 lo : Nat) : Int), (1 : Int), Builtin.Slice.slicePlaces ((sIx n 0 lo : Nat) : Int) ((sIx n n hi : Nat) : Int) 1)) _ _ s
  rw [places_gen]
  exact wpAny_pure h
theorem pick_gen (xs : Array Value) (i k : Nat) : ((List.range k).filterMap fun (m : Nat) => xs[((i : Int) + (m : Int) * 1).toNat]?).toArray = ((xs.toList.drop i).take k).toArray := by
  have e : (fun (m : Nat) => xs[((i : Int) + (m : Int) * 1).toNat]?) = fun m => xs[i + m]? := by
    funext m
    have : ((i : Int) + (m : Int) * 1).toNat = i + m := by omega
    rw [this]
  rw [e]
  have := pick_run xs i k
  rw [List.filterMap_map] at this
  have e2 : ((fun x => xs[x]?) ∘ fun x => i + x) = fun m => xs[i + m]? := rfl
  rw [e2] at this
  rw [this]
theorem getItem_tuple_cut {t sl : Addr} {items : Array Value} {vl vu : Value} {lo hi : Option Int} {Q : Value → Shared → Prop} (ht : IsTup s.heap t items) (hs : s.heap.IsSliceOf sl vl vu .none) (pl : IsPart vl lo) (pu : IsPart vu hi)
    (hw : ¬ (sIx items.size 0 lo = 0 ∧ sIx items.size items.size hi = items.size))
    (h : Q (.ref s.heap.objs.size) { s with heap := s.heap.push { cls := .type "tuple", data := .seq ((items.toList.drop (sIx items.size 0 lo)).take (sIx items.size items.size hi - sIx items.size 0 lo)).toArray } })
    (hsz : items.size ≤ sizeLine) : wpAny (model prog w) A (getItem (.ref t) (.ref sl)) Q E s := by
  have htake : sizeOk (.seq ((items.toList.drop (sIx items.size 0 lo)).take (sIx items.size items.size hi - sIx items.size 0 lo)).toArray) := by
    show ((items.toList.drop (sIx items.size 0 lo)).take (sIx items.size items.size hi - sIx items.size 0 lo)).toArray.size ≤ sizeLine
    rw [List.size_toArray, List.length_take, List.length_drop, Array.length_toList]
    omega
  have hj : sIx items.size items.size hi ≤ items.size := sIx_le _ _ (Nat.le_refl _) hi
  obtain ⟨os, hos, hcs, hds⟩ := id hs
  have hTs : s.TypeIs (.ref sl) "slice" := ⟨os, hos, hcs⟩
  unfold getItem
  try with_reducible refine wpAny_holding ?_
  first | refine wpAny_bind (wpAny_pure ?_) | skip
  refine wpAny_bind (wpAny_sequenceKey ht.typeIs (by decide) ?_)
  refine wpAny_bind (wpAny_callSpecial?_slot (name := Str.ofString "__getitem__") ht.typeIs PyProof.Rows.slot_tuple_getitem
    (wpAny_call_entry PyProof.Rows.slot_tuple_getitem ht.typeIs entry_tuple_getitem ?_ (args_tuple_getitem _ _)))
  show wpAny _ _ (Builtin.Tuple.tupleItemsOf (.ref t) >>= _) _ _ s
  refine wpAny_bind (tupleItemsOf_ ht ?_)
  refine wpAny_bind (wpAny_typeOf hTs ?_)
  rw [if_pos (by decide)]
  refine wpAny_bind (sliceApplied_gen hs pl pu ?_)
  have hno : ¬ ((((sIx items.size 0 lo : Nat) : Int) == 0 && (1 : Int) == 1 && (sIx items.size items.size hi - sIx items.size 0 lo) == items.size) = true) := by
    intro q
    rw [Bool.and_eq_true, Bool.and_eq_true] at q
    have q1 : ((sIx items.size 0 lo : Nat) : Int) = 0 := eq_of_beq q.1.1
    have q2 : sIx items.size items.size hi - sIx items.size 0 lo = items.size := eq_of_beq q.2
    exact hw ⟨by omega, by omega⟩
  show wpAny _ _ (if (((sIx items.size 0 lo : Nat) : Int) == 0 && (1 : Int) == 1 && (sIx items.size items.size hi - sIx items.size 0 lo) == items.size) = true then _ else _) _ _ s
  rw [if_neg hno, pick_gen]
  first
    | exact wpAny_bind (m := Builtin.Tuple.tupleExact _) (wpAny_newObj_type (wpAny_pure ⟨_, rfl, wpAny_pure h⟩) htake)
    | exact wpAny_bind (m := Builtin.Tuple.tupleExact _) (wpAny_newObj_type (wpAny_bind (wpAny_pure (wpAny_pure ⟨_, rfl, wpAny_pure h⟩))) htake)
    | exact wpAny_bind (wpAny_bind (m := Builtin.Tuple.tupleExact _) (wpAny_newObj_type (wpAny_pure (wpAny_pure ⟨_, rfl, wpAny_pure h⟩)) htake))
    | exact wpAny_bind (wpAny_bind (m := Builtin.Tuple.tupleExact _) (wpAny_newObj_type (wpAny_pure ⟨_, rfl, wpAny_pure h⟩) htake))
end
end HT
namespace L2
open PySem PySem.Spec PyProof.Rows
noncomputable abbrev TO := St → Hp → (Option Int → Hp → Prop) → Prop
noncomputable def PO (X : Cx) (e : Option Expr) (t : TO) : Prop :=
  ∀ (pins : List (Addr × Obj)) (s : Shared) (σ : St) (H : Hp) (Q : Option Int → Hp → Prop), Inv X pins σ H s → t σ H Q →
    wpAny (model X.prog X.w) X.A (evalPart e X.env) (fun u s' => ∃ o H', Inv X pins σ H' s' ∧ IsPart u o ∧ Q o H') X.xe s
noncomputable def tNoPart : TO := fun _ H Q => Q none H
noncomputable def tPart (t : TE) : TO := fun σ H Q => t σ H fun x H1 => ∃ i, x = .int i ∧ Q (some i) H1
section
variable {X : Cx} {e : Expr} {te : TE} {lo hi : Option Expr} {tl th : TO} {pos p2 : Pos}
theorem po_none : PO X none tNoPart := by
  intro pins s σ H Q I h
  rw [evalPart_none]
  exact wpAny_pure ⟨none, H, I, .none, h⟩
theorem po_some (h : PE X e te) : PO X (some e) (tPart te) := by
  intro pins s σ H Q I hw
  rw [evalPart_some]
  refine thn (h pins s σ H _ I hw) fun u s1 ⟨x, H1, I1, r1, q1⟩ => ?_
  obtain ⟨i, rfl, q⟩ := q1
  obtain ⟨t, rfl⟩ := r1
  exact ⟨some i, H1, I1, .int i t, q⟩
noncomputable def SlR (X : Cx) (r : V → Option Int → Option Int → Hp → VK → Prop) : Prop :=
  ∀ (pins : List (Addr × Obj)) (s : Shared) (σ : St) (H : Hp) (x : V) (v vl vu : Value) (lo hi : Option Int) (sl : Addr) (Q : VK), Inv X pins σ H s → RelV x v → s.heap.IsSliceOf sl vl vu .none → IsPart vl lo → IsPart vu hi → r x lo hi H Q →
    ∃ T id, typeLookup (.type T) "__getitem__" = pure (some (.builtin id)) ∧ s.TypeIs v T ∧ wpAny (model X.prog X.w) X.A (getItem v (.ref sl)) (EP X pins σ Q) X.xe s
theorem SlR.or {r r' : V → Option Int → Option Int → Hp → VK → Prop} (h : SlR X r) (h' : SlR X r') : SlR X (fun x lo hi H Q => r x lo hi H Q ∨ r' x lo hi H Q) := by
  intro pins s σ H x v vl vu lo hi sl Q I rx hs pl pu q
  rcases q with q | q
  · exact h pins s σ H x v vl vu lo hi sl Q I rx hs pl pu q
  · exact h' pins s σ H x v vl vu lo hi sl Q I rx hs pl pu q
noncomputable def tSl (r : V → Option Int → Option Int → Hp → VK → Prop) (te : TE) (tl th : TO) : TE := fun σ H Q => te σ H fun x H1 => tl σ H1 fun l H2 => th σ H2 fun u H3 => r x l u H3 Q
theorem pe_slice {r : V → Option Int → Option Int → Hp → VK → Prop} (hr : SlR X r) (he : PE X e te) (hl : PO X lo tl) (hu : PO X hi th) : PE X (.Subscript e (.Slice lo hi none p2) pos) (tSl r te tl th) := by
  intro pins s σ H Q I h
  refine Subscript_ (thn (he pins s σ H _ I h) fun v s1 ⟨x, H1, I1, r1, q1⟩ => ?_)
  refine wpAny_Slice (thn (hl pins s1 σ H1 _ I1 q1) fun vl s2 ⟨l, H2, I2, pl, q2⟩ => thn (hu pins s2 σ H2 _ I2 q2) fun vu s3 ⟨u, H3, I3, pu, q3⟩ => ?_)
  rw [evalPart_none]
  refine wpAny_pure ?_
  have I4 : Inv X pins σ H3 { s3 with heap := s3.heap.push { cls := .type "slice", data := .fields #[vl, vu, .none] } } := I3.kept (t' := s3.toks) fun b ob q => Heap.get?_push_of_some _ q
  obtain ⟨T, id, hT, ht, hg⟩ := hr pins { s3 with heap := s3.heap.push { cls := .type "slice", data := .fields #[vl, vu, .none] } } σ H3 x v vl vu l u s3.heap.objs.size Q I4 r1 (Heap.IsSliceOf.new ..) pl pu q3
  show wpAny (model X.prog X.w) X.A (subscriptTail e (.Slice lo hi none p2) v (.ref s3.heap.objs.size)) (EP X pins σ Q) X.xe { s3 with heap := s3.heap.push { cls := .type "slice", data := .fields #[vl, vu, .none] } }
  exact tail_any (ops := [.ref s3.heap.objs.size, v]) ht hT hg (by with_unfolding_all rfl)
noncomputable def cutV (xs : List V) (lo hi : Option Int) : List V := (xs.drop (HT.sIx xs.length 0 lo)).take (HT.sIx xs.length xs.length hi - HT.sIx xs.length 0 lo)
theorem cutV_length (xs : List V) (lo hi : Option Int) : (cutV xs lo hi).length ≤ xs.length := by
  unfold cutV
  rw [List.length_take, List.length_drop]
  omega
noncomputable def rSlT (K : PySem.W.Frag) : V → Option Int → Option Int → Hp → VK → Prop := fun x lo hi H Q => ∃ a xs, x = .ref a ∧ SqT K H a xs ∧
  ¬ (HT.sIx xs.length 0 lo = 0 ∧ HT.sIx xs.length xs.length hi = xs.length) ∧ ∀ p, H p = none → Q (.ref p) (upd H p (.tup (cutV xs lo hi)))
theorem sl_tup : SlR X (rSlT X.K) := by
  intro pins s σ H x v vl vu lo hi sl Q I rx hs pl pu h
  obtain ⟨a, xs, rfl, hx, hw, q⟩ := h
  cases rx
  obtain ⟨its, r, ht, hz⟩ := I.tuple hx
  have hlen : its.toArray.size = xs.length := by rw [List.size_toArray]; exact r.length.symm
  refine ⟨"tuple", _, PyProof.Rows.slot_tuple_getitem.lookup, ht.typeIs, ?_⟩
  refine HT.getItem_tuple_cut ht hs pl pu (by rw [hlen]; exact hw) ?_ (by rw [hlen]; exact hz)
  rw [hlen]
  refine ⟨.ref s.heap.objs.size, _, I.laid (t' := s.toks) (o := .tup (cutV xs lo hi)) (fun b ob q => Heap.get?_push_of_some _ q) (Nat.le_refl _) ?_, rfl, q _ (I.hok.fresh (Nat.le_refl _))⟩
  exact ⟨Nat.le_trans (cutV_length xs lo hi) hz, _, (r.drop (HT.sIx xs.length 0 lo)).take (HT.sIx xs.length xs.length hi - HT.sIx xs.length 0 lo), IsTup.new _ _⟩
noncomputable def rCatT (K : PySem.W.Frag) : R2 := fun x y H Q => ∃ a b xs ys, x = .ref a ∧ y = .ref b ∧ SqT K H a xs ∧ SqT K H b ys ∧ xs ≠ [] ∧ xs.length + ys.length ≤ sizeLine ∧
  (ys = [] → Q (.ref a) H) ∧ (ys ≠ [] → ∀ p, H p = none → Q (.ref p) (upd H p (.tup (xs ++ ys))))
theorem Vals.nil_iff {xs : List V} {us : List Value} (r : Vals xs us) : us = [] ↔ xs = [] := by
  cases r with
  | nil => simp
  | cons _ _ => simp
theorem op_catT : OpR X (binaryOp .Add) (rCatT X.K) := by
  intro pins s σ H x y v u Q I rx ry h
  obtain ⟨a, b, xs, ys, rfl, rfl, ha, hb, hx, hz, q1, q2⟩ := h
  cases rx
  cases ry
  obtain ⟨its, r1, p1, _⟩ := I.tuple ha
  obtain ⟨its2, r2, p2, _⟩ := I.tuple hb
  refine HT.cat_tup p1 p2 (fun z => hx (r1.nil_iff.mp z)) (fun z => ⟨.ref a, H, I, rfl, q1 (r2.nil_iff.mp z)⟩) (fun z => ?_) (by rw [← r1.length, ← r2.length]; exact hz)
  refine ⟨.ref s.heap.objs.size, _, I.laid (t' := s.toks) (o := .tup (xs ++ ys)) (fun b ob q => Heap.get?_push_of_some _ q) (Nat.le_refl _) ?_, rfl, q2 (fun w => z (r2.nil_iff.mpr w)) _ (I.hok.fresh (Nat.le_refl _))⟩
  exact ⟨by rw [List.length_append]; exact hz, _, r1.append r2, IsTup.new _ _⟩
end
end L2
namespace L2
open PySem PySem.Spec PyProof.Rows
noncomputable def ixN (n : Nat) (i : Int) : Option Nat := if 0 ≤ i then (if i < n then some i.toNat else none) else if -(n : Int) ≤ i then some (i + n).toNat else none
noncomputable def atI {α : Type} (xs : List α) (i : Int) : Option α := (ixN xs.length i).bind fun j => xs[j]?
theorem ixN_seq {n : Nat} {i : Int} {j : Nat} (h : ixN n i = some j) : seqIndex? i n = some j ∧ j < n ∧ -(n : Int) ≤ i ∧ i < n := by
  unfold ixN at h
  by_cases h0 : 0 ≤ i
  · rw [if_pos h0] at h
    by_cases h1 : i < n
    · rw [if_pos h1] at h
      have e : i.toNat = j := Option.some.inj h
      exact ⟨by rw [seqIndex_of h0 h1, e], by omega, by omega, h1⟩
    · rw [if_neg h1] at h; cases h
  · rw [if_neg h0] at h
    by_cases h1 : -(n : Int) ≤ i
    · rw [if_pos h1] at h
      have e : (i + n).toNat = j := Option.some.inj h
      exact ⟨by rw [seqIndex_neg (by omega) h1, e], by omega, h1, by omega⟩
    · rw [if_neg h1] at h; cases h
theorem atI_get {α : Type} {xs : List α} {i : Int} {v : α} (h : atI xs i = some v) : ∃ j, seqIndex? i xs.length = some j ∧ xs[j]? = some v ∧ j < xs.length ∧ -(xs.length : Int) ≤ i ∧ i < xs.length := by
  unfold atI at h
  cases e : ixN xs.length i with
  | none => rw [e] at h; cases h
  | some j =>
    rw [e] at h
    obtain ⟨h1, h2, h3, h4⟩ := ixN_seq e
    exact ⟨j, h1, h, h2, h3, h4⟩
noncomputable def PlainIx (b : Expr) : Prop := ∀ o i, subscripted b false o i = operate [o, i] (getItem o i)
noncomputable def IxR (X : Cx) (r : R2) : Prop :=
  ∀ (value slice : Expr) (pins : List (Addr × Obj)) (s : Shared) (σ : St) (H : Hp) (x y : V) (v u : Value) (Q : VK), Inv X pins σ H s → RelV x v → RelV y u → r x y H Q →
    subscripted slice false v u = operate [v, u] (getItem v u) → wpAny (model X.prog X.w) X.A (subscriptTail value slice v u) (EP X pins σ Q) X.xe s
noncomputable def MtR (X : Cx) (id : String) (r : V → List V → Hp → VK → Prop) : Prop :=
  ∀ (pins : List (Addr × Obj)) (s : Shared) (σ : St) (H : Hp) (x : V) (xs : List V) (v : Value) (us : List Value) (Q : VK), Inv X pins σ H s → RelV x v → Vals xs us → r x xs H Q →
    wpAny (model X.prog X.w) X.A (call (.builtin id) (v :: us)) (EP X pins σ Q) X.xe s
section
variable {X : Cx} {a b : Expr} {ta tb : TE} {pos : Pos}
theorem IxR.or {r r' : R2} (h : IxR X r) (h' : IxR X r') : IxR X (fun x y H Q => r x y H Q ∨ r' x y H Q) := by
  intro value slice pins s σ H x y v u Q I rx ry q hs
  rcases q with q | q
  · exact h value slice pins s σ H x y v u Q I rx ry q hs
  · exact h' value slice pins s σ H x y v u Q I rx ry q hs
theorem pe_ix {r : R2} (hr : IxR X r) (ha : PE X a ta) (hb : PE X b tb) (hs : PlainIx b) : PE X (.Subscript a b pos) (tOp r ta tb) := by
  intro pins s σ H Q I h
  exact Subscript_ (binT ha hb I h fun v u s2 x y H2 I2 rx ry q => hr a b pins s2 σ H2 x y v u Q I2 rx ry q (hs _ _))
noncomputable def rIxL (K : PySem.W.Frag) : R2 := fun x y H Q => ∃ p xs i v, x = .ref p ∧ y = .int i ∧ SqL K H p xs ∧ atI xs i = some v ∧ Q v H
noncomputable def rIxT (K : PySem.W.Frag) : R2 := fun x y H Q => ∃ p xs i v, x = .ref p ∧ y = .int i ∧ SqT K H p xs ∧ atI xs i = some v ∧ Q v H
noncomputable def rIxS : R2 := fun x y H Q => ∃ z i c, x = .str z ∧ y = .int i ∧ z.length ≤ sizeLine ∧ atI z.cps.toList i = some c ∧ Q (.str ⟨#[c]⟩) H
theorem ix_list : IxR X (rIxL X.K) := by
  intro value slice pins s σ H x y v u Q I rx ry h hs
  obtain ⟨p, xs, i, z, rfl, rfl, hq, he, q⟩ := h
  cases rx
  obtain ⟨t, rfl⟩ := ry
  obtain ⟨its, r, pl, hz⟩ := I.list hq
  obtain ⟨j, h1, h2, h3, h4, h5⟩ := atI_get he
  obtain ⟨w, ew, rw'⟩ := r.get h2
  have hl := r.length
  have hn := line63
  have fin : EP X pins σ Q w s := ⟨z, H, I, rw', q⟩
  by_cases h0 : 0 ≤ i
  · have hj : i.toNat = j := by
      rw [seqIndex_of h0 h5] at h1
      exact Option.some.inj h1
    exact item_listR pl.isList h0 (by omega) (by rw [hj]; simpa using ew) fin hs
  · have hj : (i + (its.toArray.size : Int)).toNat = j := by
      rw [seqIndex_neg (by omega) h4] at h1
      rw [List.size_toArray, ← hl]
      exact Option.some.inj h1
    exact subscriptTail_builtinR (x := w) pl.isList.typeIs slot_list_getitem.lookup
      (wpAny_getItem_list_neg (Q := fun r s' => r = w ∧ EP X pins σ Q r s') pl.isList (by omega) (by rw [List.size_toArray] <;> omega) (by omega) (by rw [hj]; simpa using ew) ⟨rfl, fin⟩) hs
theorem ix_tup : IxR X (rIxT X.K) := by
  intro value slice pins s σ H x y v u Q I rx ry h hs
  obtain ⟨p, xs, i, z, rfl, rfl, hq, he, q⟩ := h
  cases rx
  obtain ⟨t, rfl⟩ := ry
  obtain ⟨its, r, pl, hz⟩ := I.tuple hq
  obtain ⟨j, h1, h2, h3, h4, h5⟩ := atI_get he
  obtain ⟨w, ew, rw'⟩ := r.get h2
  have hl := r.length
  have hn := line63
  have fin : EP X pins σ Q w s := ⟨z, H, I, rw', q⟩
  exact subscriptTail_builtinR (x := w) pl.typeIs slot_tuple_getitem.lookup
    (getItem_tuple (j := j) (Q := fun r s' => r = w ∧ EP X pins σ Q r s') pl (by omega) (by omega) (by rw [List.size_toArray, ← hl]; exact h1) (by simpa using ew) ⟨rfl, fin⟩) hs
theorem ix_str : IxR X rIxS := by
  intro value slice pins s σ H x y v u Q I rx ry h hs
  obtain ⟨z, i, c, rfl, rfl, hz, he, q⟩ := h
  obtain ⟨t, rfl⟩ := rx
  obtain ⟨t', rfl⟩ := ry
  obtain ⟨j, h1, h2, h3, h4, h5⟩ := atI_get he
  have hl : z.cps.toList.length = z.length := by simp [Str.length]
  rw [hl] at h1 h4 h5
  have hn := line63
  exact tail_any (typeIs_str s z t) slot_str_getitem.lookup (getItem_str (c := c) (by
    have e1 : decide (i < -(2 ^ 63 : Int)) = false := decide_eq_false (by omega)
    have e2 : decide (i ≥ 2 ^ 63) = false := decide_eq_false (by omega)
    rw [e1, e2, Bool.or_false]) (by rw [h1]; simpa using h2) ⟨.str ⟨#[c]⟩, H, I.tok _, ⟨_, rfl⟩, q⟩) hs
theorem slice_bounds (lo hi : Option Int) (n : Nat) : (sliceBounds lo hi none n).1 = ((HT.sIx n 0 lo : Nat) : Int) ∧ (sliceBounds lo hi none n).2.1 = ((HT.sIx n n hi : Nat) : Int) ∧ (sliceBounds lo hi none n).2.2 = 1 := by
  refine ⟨?_, ?_, rfl⟩
  · cases lo with
    | none => simp [sliceBounds, HT.sIx]
    | some i =>
      simp only [sliceBounds, HT.sIx, Option.getD_none, show (1 : Int) > 0 by decide, if_true]
      by_cases h : i < 0
      · simp only [h, if_true] <;> omega
      · simp only [h, if_false] <;> omega
  · cases hi with
    | none => simp [sliceBounds, HT.sIx]
    | some i =>
      simp only [sliceBounds, HT.sIx, Option.getD_none, show (1 : Int) > 0 by decide, if_true]
      by_cases h : i < 0
      · simp only [h, if_true] <;> omega
      · simp only [h, if_false] <;> omega
theorem slicePick_cut (its : List Value) (lo hi : Option Int) : slicePick its.toArray lo hi none = ((its.drop (HT.sIx its.length 0 lo)).take (HT.sIx its.length its.length hi - HT.sIx its.length 0 lo)).toArray := by
  obtain ⟨h1, h2, h3⟩ := slice_bounds lo hi its.toArray.size
  unfold slicePick
  rw [h1, h2, h3]
  simp only [sliceRange_one, pick_run, List.size_toArray] <;> rfl
noncomputable def rSlL (K : PySem.W.Frag) : V → Option Int → Option Int → Hp → VK → Prop := fun x lo hi H Q => ∃ a xs, x = .ref a ∧ SqL K H a xs ∧ ∀ p, H p = none → Q (.ref p) (upd H p (.lst (cutV xs lo hi)))
theorem sl_list : SlR X (rSlL X.K) := by
  intro pins s σ H x v vl vu lo hi sl Q I rx hs pl pu h
  obtain ⟨a, xs, rfl, hx, q⟩ := h
  cases rx
  obtain ⟨its, r, ht, hz⟩ := I.list hx
  have hlen := r.length
  refine ⟨"list", _, slot_list_getitem.lookup, ht.isList.typeIs, ?_⟩
  refine wpAny_getItem_list_slice ht.isList hs pl pu .none (by simp) ?_ (by rw [List.size_toArray] <;> omega)
  rw [slicePick_cut, ← hlen]
  refine ⟨.ref s.heap.objs.size, _, I.laid (t' := s.toks) (o := .lst (cutV xs lo hi)) (fun b ob q => Heap.get?_push_of_some _ q) (Nat.le_refl _) ?_, rfl, q _ (I.hok.fresh (Nat.le_refl _))⟩
  exact ⟨Nat.le_trans (cutV_length xs lo hi) hz, _, 0, (r.drop (HT.sIx xs.length 0 lo)).take (HT.sIx xs.length xs.length hi - HT.sIx xs.length 0 lo), Heap.get?_push_size _ rfl⟩
noncomputable def flatV : V → Bool
  | .non => true
  | .bl _ => true
  | .int _ => true
  | .str _ => true
  | _ => false
noncomputable def eqV : V → V → Bool
  | .non, .non => true
  | .bl a, .bl b => a == b
  | .bl a, .int b => (if a then 1 else 0) == b
  | .int a, .bl b => a == (if b then 1 else 0)
  | .int a, .int b => a == b
  | .str a, .str b => a == b
  | _, _ => false
theorem eqAt_V {A : Around} {s : Shared} {y x : V} {u v : Value} (ry : RelV y u) (rx : RelV x v) (fy : flatV y = true) (fx : flatV x = true) : SeqAt.EqAt A s u v (eqV y x) := by
  cases y with
  | non =>
    cases ry
    cases x with
    | non => cases rx; exact SeqAt.EqAt.same _
    | bl b => cases rx; exact SeqAt.EqAt.none_bool b
    | int b => obtain ⟨t, rfl⟩ := rx; exact SeqAt.EqAt.none_int b t
    | str b => obtain ⟨t, rfl⟩ := rx; exact SeqAt.EqAt.none_str b t
    | _ => exact absurd (show false = true from fx) Bool.false_ne_true
  | bl a =>
    cases ry
    cases x with
    | non => cases rx; exact SeqAt.EqAt.bool_none a
    | bl b => cases rx; exact SeqAt.EqAt.bool_bool a b
    | int b => obtain ⟨t, rfl⟩ := rx; exact SeqAt.EqAt.bool_int a b t
    | str b => obtain ⟨t, rfl⟩ := rx; exact SeqAt.EqAt.bool_str a b t
    | _ => exact absurd (show false = true from fx) Bool.false_ne_true
  | int a =>
    obtain ⟨t', rfl⟩ := ry
    cases x with
    | non => cases rx; exact SeqAt.EqAt.int_none a t'
    | bl b => cases rx; exact SeqAt.EqAt.int_bool a t' b
    | int b => obtain ⟨t, rfl⟩ := rx; exact SeqAt.EqAt.int_int a t' b t
    | str b => obtain ⟨t, rfl⟩ := rx; exact SeqAt.EqAt.int_str a t' b t
    | _ => exact absurd (show false = true from fx) Bool.false_ne_true
  | str a =>
    obtain ⟨t', rfl⟩ := ry
    cases x with
    | non => cases rx; exact SeqAt.EqAt.str_none a t'
    | bl b => cases rx; exact SeqAt.EqAt.str_bool a t' b
    | int b => obtain ⟨t, rfl⟩ := rx; exact SeqAt.EqAt.str_int a t' b t
    | str b => obtain ⟨t, rfl⟩ := rx; exact SeqAt.EqAt.str_str a t' b t
    | _ => exact absurd (show false = true from fx) Bool.false_ne_true
  | _ => exact absurd (show false = true from fy) Bool.false_ne_true
theorem call_len_seq : CallR X (.builtin "len") (fun xs H Q => ∃ p ys, xs = [.ref p] ∧ (SqL X.K H p ys ∨ SqT X.K H p ys) ∧ Q (.int ys.length) H) := by
  intro pins s σ H xs us Q I r h
  obtain ⟨p, ys, rfl, hq, q⟩ := h
  obtain ⟨u, rfl, rx⟩ := vals1 r
  cases rx
  have hn := line63
  rcases hq with hq | hq
  · obtain ⟨its, r', pl, hz⟩ := I.list hq
    have hlen := r'.length
    exact Calls.call_len_list pl.isList (by simp only [List.size_toArray] <;> omega) ⟨.int ys.length, H, I.tok _, ⟨s.toks + 1, by rw [List.size_toArray, hlen]⟩, q⟩
  · obtain ⟨its, r', pl, hz⟩ := I.tuple hq
    have hlen := r'.length
    exact len_tuple pl (by simp only [List.size_toArray] <;> omega) ⟨.int ys.length, H, I.tok _, ⟨s.toks + 1, by rw [List.size_toArray, hlen]⟩, q⟩
theorem call_len_str : CallR X (.builtin "len") (fun xs H Q => ∃ z, xs = [.str z] ∧ z.length ≤ sizeLine ∧ Q (.int z.length) H) := by
  intro pins s σ H xs us Q I r h
  obtain ⟨z, rfl, hz, q⟩ := h
  obtain ⟨u, rfl, t, rfl⟩ := vals1 r
  have hn := line63
  exact len_str (by omega) ⟨.int z.length, H, I.tok _, ⟨_, rfl⟩, q⟩
theorem call_list_of : CallR X (.type "list") (fun xs H Q => ∃ p ys, xs = [.ref p] ∧ (SqL X.K H p ys ∨ SqT X.K H p ys) ∧ ∀ l, H l = none → Q (.ref l) (upd H l (.lst ys))) := by
  intro pins s σ H xs us Q I r h
  obtain ⟨p, ys, rfl, hq, q⟩ := h
  obtain ⟨u, rfl, rx⟩ := vals1 r
  cases rx
  have fin : ∀ (its : List Value), Vals ys its → ys.length ≤ sizeLine → ∀ (h' : Heap) (c' : Nat), (∀ b o', s.heap.get? b = some o' → h'.get? b = some o') →
      h'.get? s.heap.objs.size = some { cls := .type "list", dict := none, data := .seq its.toArray c', slots := #[] } → EP X pins σ Q (.ref s.heap.objs.size) { s with heap := h' } := fun its r' hz h' c' kp e =>
    ⟨.ref s.heap.objs.size, _, I.laid (t' := s.toks) kp (Nat.le_refl _) (show ObjOk X.prog X.w _ h' _ (.lst ys) from ⟨hz, its, c', r', e⟩), rfl, q _ (I.hok.fresh (Nat.le_refl _))⟩
  rcases hq with hq | hq
  · obtain ⟨its, r', pl, hz⟩ := I.list hq
    have hlen := r'.length
    obtain ⟨o, ho, hc, n, hd⟩ := pl.isList
    exact call_list_seq p (.inl rfl) ho hc hd (fun h' c' kp e => fin its r' hz h' c' kp e) (by simp only [List.size_toArray] <;> omega)
  · obtain ⟨its, r', pl, hz⟩ := I.tuple hq
    have hlen := r'.length
    obtain ⟨o, ho, hc, n, hd⟩ := pl
    exact call_list_seq p (.inr rfl) ho hc hd (fun h' c' kp e => fin its r' hz h' c' kp e) (by simp only [List.size_toArray] <;> omega)
noncomputable def tyV (K : PySem.W.Frag) (T : String) (x : V) (H : Hp) : Prop := match x with
  | .str _ => T = "str"
  | .int _ => T = "int"
  | .ref p => (T = "list" ∧ ∃ xs, SqL K H p xs) ∨ (T = "tuple" ∧ ∃ o, K.lookup p = some o ∧ o.cls = .type "tuple" ∧ o.dict = none) ∨
      (T = "dict" ∧ ((∃ kvs, H p = some (.dK kvs)) ∨ ∃ kvs, H p = some (.dT kvs))) ∨ (T = "set" ∧ ∃ S n, H p = some (.set S n))
  | _ => False
theorem tyV_is {pins : List (Addr × Obj)} {σ : St} {H : Hp} {s : Shared} {T : String} {x : V} {v : Value} (I : Inv X pins σ H s) (r : RelV x v) (ty : tyV X.K T x H) :
    s.TypeIs v T ∧ ∀ a, v = .ref a → ∃ ob, s.heap.get? a = some ob ∧ ob.dict = none := by
  cases x with
  | str z =>
    obtain ⟨t, rfl⟩ := r
    cases (show T = "str" from ty)
    exact ⟨typeIs_str s z t, fun _ e => nomatch e⟩
  | int i =>
    obtain ⟨t, rfl⟩ := r
    cases (show T = "int" from ty)
    exact ⟨typeIs_int s i t, fun _ e => nomatch e⟩
  | ref p =>
    cases r
    rcases ty with ⟨rfl, xs, hq⟩ | ⟨rfl, o, hk, hc, hd⟩ | ⟨rfl, hk⟩ | ⟨rfl, S, n, hk⟩
    · obtain ⟨its, _, pl, _⟩ := I.list hq
      refine ⟨pl.isList.typeIs, fun a e => ?_⟩
      cases e
      obtain ⟨o, n, e, c, hd, _⟩ := pl
      exact ⟨o, e, hd⟩
    · refine ⟨⟨o, I.kIn p o hk, hc⟩, fun a e => ?_⟩
      cases e
      exact ⟨o, I.kIn _ o hk, hd⟩
    · have z : ∃ o, s.heap.get? p = some o ∧ o.ExactDict := by
        rcases hk with ⟨kvs, hk⟩ | ⟨kvs, hk⟩
        · obtain ⟨_, _, _, _, o, _, _, e, ex, _⟩ := I.hok p _ hk
          exact ⟨o, e, ex⟩
        · obtain ⟨_, _, _, _, o, _, _, e, ex, _⟩ := I.hok p _ hk
          exact ⟨o, e, ex⟩
      obtain ⟨o, e, ex⟩ := z
      refine ⟨⟨o, e, ex.1⟩, fun a e2 => ?_⟩
      cases e2
      exact ⟨o, e, ex.2.1⟩
    · obtain ⟨o, _, _, _, e, ex, _⟩ := I.hok p _ hk
      refine ⟨⟨o, e, ex.1⟩, fun a e2 => ?_⟩
      cases e2
      exact ⟨o, e, ex.2.1⟩
  | _ => exact False.elim ty
noncomputable def tBM0 (K : PySem.W.Frag) (T : String) (r : V → List V → Hp → VK → Prop) (to : TE) : TE := fun σ H Q => to σ H fun x H1 => tyV K T x H1 ∧ r x [] H1 Q
noncomputable def tBM (K : PySem.W.Frag) (T : String) (r : V → List V → Hp → VK → Prop) (to : TE) (t : TA) : TE := fun σ H Q => to σ H fun x H1 => tyV K T x H1 ∧ t σ H1 fun xs H2 => r x xs H2 Q
variable {o e : Expr} {es : List Expr} {to : TE} {t : TA} {name : Str} {apos cpos : Pos} {T id : String} {r : V → List V → Hp → VK → Prop}
theorem pe_bm0 (pa : PlainAttrs T) (slot : Slot T name id) (hty : typeOf (.builtin id) = pure (.type "method_descriptor")) (hm : MtR X id r) (ho : PE X o to)
    (hbase : attributeBase o name X.env (eval o X.env) = eval o X.env := by rfl) (hline : (apos.endLine == cpos.line) = true := by rfl) : PE X (.Call (.Attribute o name apos) [] [] cpos) (tBM0 X.K T r to) := by
  intro pins s σ H Q I h
  refine wpAny_Call_method0_late hbase hline (thn (ho pins s σ H _ I h) fun v s1 ⟨x, H1, I1, r1, ty, q1⟩ => ?_)
  obtain ⟨h1, h2⟩ := tyV_is I1 r1 ty
  exact ⟨T, id, pa, slot, hty, h1, h2, Calls.callWith_builtin rfl (PySem.evalArgs_none (hm pins s1 σ H1 x [] v [] Q I1 r1 .nil q1))⟩
theorem pe_bm (pa : PlainAttrs T) (slot : Slot T name id) (hty : typeOf (.builtin id) = pure (.type "method_descriptor")) (hm : MtR X id r) (ho : PE X o to) (ha : PA X (e :: es) t)
    (hbase : attributeBase o name X.env (eval o X.env) = eval o X.env := by rfl)
    (hfew : ((backTo cpos (starEach (e :: es) X.env)).all (fun x => !x.1) && (backToKw cpos (keywordEach [] X.env)).all (fun x => x.1.isSome)
      && decide ((e :: es).length + ([] : List Keyword).length + (if ([] : List Keyword).isEmpty then 0 else 1) < 30)) = true := by rfl)
    (hline : (apos.endLine == cpos.line) = true := by rfl) (hs : starEach (e :: es) X.env = (false, eval e X.env) :: starEach es X.env := by rfl) (hplain : (backTo cpos (starEach es X.env)).any (·.1) = false := by rfl) :
    PE X (.Call (.Attribute o name apos) (e :: es) [] cpos) (tBM X.K T r to t) := by
  intro pins s σ H Q I h
  refine wpAny_Call_method_late hbase hfew hline rfl (thn (ho pins s σ H _ I h) fun v s1 ⟨x, H1, I1, r1, ty, q1⟩ => ?_)
  obtain ⟨h1, h2⟩ := tyV_is I1 r1 ty
  refine ⟨T, id, pa, slot, hty, h1, h2, ?_⟩
  have hA := ha cpos pins s1 σ H1 _ I1 q1
  rw [hs] at hA ⊢
  refine Calls.callWith_builtin (by show (false || (backTo cpos (starEach es X.env)).any (·.1)) = false; rw [hplain] <;> rfl) (Calls.evalArgs_plain ?_)
  exact thn hA fun us s2 ⟨vs, H2, I2, r2, q2⟩ => hm pins s2 σ H2 x vs v us Q I2 r1 r2 q2
/- xs.append(e), list.index on a module's tuple .. are MtR facts of 06m -/
end
end L2
namespace L2
open PySem PySem.Spec PyProof.Rows
noncomputable def MtM (X : Cx) (id : String) (r : V → List V → Hp → VK → Prop) : Prop :=
  ∀ (pins : List (Addr × Obj)) (s : Shared) (σ : St) (H : Hp) (x : V) (xs : List V) (v : Value) (us : List Value) (Q : VK), Inv X pins σ H s → RelV x v → Vals xs us → r x xs H Q →
    wpAny (model X.prog X.w) X.A (call (.builtin id) (v :: us)) (EP X pins σ Q) X.xe s
theorem Vals.one : ∀ {x : V} {us : List Value}, Vals [x] us → ∃ u, us = [u] ∧ RelV x u
  | _, _, .cons r .nil => ⟨_, rfl, r⟩
theorem Vals.zero : ∀ {us : List Value}, Vals [] us → us = []
  | _, .nil => rfl
section
variable {X : Cx} {pins : List (Addr × Obj)} {σ : St} {H : Hp} {s : Shared} {l b : Addr} {xs ys zs : List V}
theorem Inv.lset {its its' : List Value} {n : Nat} {f : Array Value → Array Value} {t' : Nat} (I : Inv X pins σ H s) (hH : H l = some (.lst xs))
    (e : s.heap.get? l = some { cls := .type "list", data := .seq its.toArray n }) (hf : f its.toArray = its'.toArray) (hv : Vals ys its') (hz : ys.length ≤ sizeLine) :
    Inv X pins σ (upd H l (.lst ys)) { s with heap := s.heap.update l (Obj.mapSeq f), toks := t' } := by
  have q := PySem.IsL.update e f
  rw [hf] at q
  refine I.write (x := l) (e := l) (by rw [hH]; exact trivial) (.inl rfl) (fun b' u hb hu => (Heap.get?_update_other s.heap (Obj.mapSeq f) (Ne.symm hb)).trans hu) ⟨_, q⟩ ?_
  exact ⟨hz, its', _, hv, q⟩
theorem Inv.lnew {its : List Value} {t' : Nat} (I : Inv X pins σ H s) (hv : Vals ys its) (hz : ys.length ≤ sizeLine) :
    Inv X pins σ (upd H s.heap.objs.size (.lst ys)) { s with heap := s.heap.push { cls := .type "list", data := .seq its.toArray }, toks := t' } :=
  I.laid (fun _ _ q => Heap.get?_push_of_some _ q) (Nat.le_refl _) ⟨hz, its, 0, hv, Heap.get?_push_size _ rfl⟩
theorem Inv.fresh (I : Inv X pins σ H s) : H s.heap.objs.size = none := I.hok.fresh (Nat.le_refl _)
theorem Inv.lstM (I : Inv X pins σ H s) (hH : H l = some (.lst xs)) : xs.length ≤ sizeLine ∧ ∃ (its : List Value) (n : Nat), Vals xs its ∧ xs.length = its.length ∧ s.heap.get? l = some { cls := .type "list", data := .seq its.toArray n } := by
  obtain ⟨z, its, n, r, e⟩ := I.hok l _ hH
  exact ⟨z, its, n, r, r.length, e⟩
end
section
variable {X : Cx}
noncomputable def rAppend : V → List V → Hp → VK → Prop := fun x vs H Q => ∃ l xs y, x = .ref l ∧ vs = [y] ∧ H l = some (.lst xs) ∧ xs.length < sizeLine ∧ Q .non (upd H l (.lst (xs ++ [y])))
theorem mt_append : MtM X "list.append" rAppend := by
  intro pins s σ H x vs v us Q I rx rv h
  obtain ⟨l, xs, y, rfl, rfl, hH, hz, q⟩ := h
  cases rx
  obtain ⟨u, rfl, ru⟩ := rv.one
  obtain ⟨z, its, n, r, hl, e⟩ := I.lstM hH
  refine call_meets F.slot_list_append ⟨_, e, rfl⟩ F.entry_list_append (F.args_list_append_2 _ _) (PySem.list_append l its.toArray n u (by rw [List.size_toArray]; omega)) ⟨e, ?_⟩
  refine ⟨.non, _, I.lset (its' := its ++ [u]) hH e (by simp) (r.append (.cons ru .nil)) ?_, rfl, q⟩
  rw [List.length_append, List.length_singleton]
  omega
noncomputable def rClear : V → List V → Hp → VK → Prop := fun x vs H Q => ∃ l xs, x = .ref l ∧ vs = [] ∧ H l = some (.lst xs) ∧ Q .non (upd H l (.lst []))
theorem mt_clear : MtM X "list.clear" rClear := by
  intro pins s σ H x vs v us Q I rx rv h
  obtain ⟨l, xs, rfl, rfl, hH, q⟩ := h
  cases rx
  have hus := rv.zero
  subst hus
  obtain ⟨z, its, n, r, hl, e⟩ := I.lstM hH
  refine call_meets F.slot_list_clear ⟨_, e, rfl⟩ F.entry_list_clear (F.args_list_clear_1 _) (AutoSeq1.list_clear_list_0 l its.toArray n (by rw [List.size_toArray]; omega)) ⟨e, ?_⟩
  exact ⟨.non, _, I.lset (its' := []) (ys := []) hH e rfl .nil (Nat.zero_le _), rfl, q⟩
noncomputable def rCat : R2 := fun x y H Q => ∃ l b xs zs, x = .ref l ∧ y = .ref b ∧ H l = some (.lst xs) ∧ H b = some (.lst zs) ∧ xs.length + zs.length ≤ sizeLine ∧ ∀ p, H p = none → Q (.ref p) (upd H p (.lst (xs ++ zs)))
theorem op_cat : OpR X (binaryOp .Add) rCat := by
  intro pins s σ H x y v u Q I rx ry h
  obtain ⟨l, b, xs, zs, rfl, rfl, hH, hB, hz, q⟩ := h
  cases rx
  cases ry
  obtain ⟨z, its, n, r, hl, e⟩ := I.lstM hH
  obtain ⟨z2, its2, n2, r2, hl2, e2⟩ := I.lstM hB
  refine PySem.P.add_list e e2 ?_ (by rw [List.size_toArray, List.size_toArray]; omega)
  have ea : its.toArray ++ its2.toArray = (its ++ its2).toArray := by simp
  rw [ea]
  exact ⟨.ref _, _, I.lnew (t' := s.toks) (r.append r2) (by rw [List.length_append]; omega), rfl, q _ I.fresh⟩
end
end L2
namespace Att
open PySem PySem.W PySem.Calls PyProof.Rows
theorem ints_of_wellAll {P : Params} {h : Heap} : ∀ (ns : List Int) (vs : List Value), WellAll P h vs (ns.map WData.int) → IntsAre vs ns := by
  intro ns
  induction ns with
  | nil =>
    intro vs w
    rw [List.map_nil] at w
    cases w
    exact .nil
  | cons n ns ih =>
    intro vs w
    rw [List.map_cons] at w
    cases w with
    | cons a b =>
      cases a
      exact .cons _ _ (ih _ b)
theorem script_of {l : OpenLaw} {n : Nat} (hn : l.most = some n) {P : Params} {h : Heap} {args : List WData} {vals : List Value}
    (hpre : l.row.toRowW.claim.pre args = true) (hwl : WellAll P h vals args) :
    ∃ a vs ns, vals = [Value.ref a] ∧ args = [WData.list (ns.map WData.int)] ∧ h.get? a = some { cls := .type "list", data := .seq vs.toArray } ∧ IntsAre vs ns ∧ ns.length ≤ n := by
  have hsh : WShape.hasAll [] args [.list .int] = true := (pre_splitW hpre).1
  have hc : l.pre.holds [] { args := args } = true := (pre_splitW hpre).2
  obtain ⟨d, r, rfl, h1, h2⟩ := hasAllW_cons hsh
  obtain rfl := hasAllW_nil h2
  obtain ⟨xs, rfl, h3⟩ := hasW_list h1
  obtain ⟨ns, rfl⟩ := items_int h3
  have hlen : ns.length ≤ n := by
    unfold OpenLaw.pre at hc
    have h4 : (WTm.not (.lt (.lit (.int (n : Int))) (.len (.arg 0)))).holds [] { args := [.list (ns.map .int)] } = true := by
      have h4 := (holds_andW hc).1
      rw [hn] at h4
      exact h4
    have h5 := condW_of h4 (w_not (w_lt w_lit (w_len_list (w_arg rfl))))
    rw [List.length_map] at h5
    refine Nat.le_of_not_lt fun q => ?_
    have q' : (n : Int) < ((ns.length : Nat) : Int) := by omega
    first
      | (rw [decide_eq_true q'] at h5; exact absurd h5 (by decide))
      | (simp at h5; omega)
  cases hwl with
  | cons w1 w2 =>
    cases w2
    cases w1 with
    | list ho hall => exact ⟨_, _, ns, rfl, rfl, ho, ints_of_wellAll ns _ hall, hlen⟩
theorem post_true (l : OpenLaw) (args : List WData) : l.row.toRowW.claim.post args (.bool true) args = true :=
  postW_of (r := l.row.toRowW) (X := (true == true))
    (show WShape.has [] (.bool true) .bool = true by first | rfl | decide | simp [WShape.has, WShape.arms, WShape.armsAll])
    (show (WTm.eq .res (.lit (.bool true))).value [] { args := args, res := some (.bool true), after := args } = some (.bool (true == true)) from w_eq_bool (w_res rfl) w_lit) rfl
theorem attach_call {l : OpenLaw} {n : Nat} {q : Program} {loose : List Str} {XP : (Str → Option Value) → Heap → Prop} {YP : World → Heap → Prop} {d : DefRec}
    (hn : l.most = some n) (hdf : d.params.defaults = [])
    (call : ∀ (w : World) (s₀ s₁ : Shared) (mg mb : Str → Option Value) (fa : Addr) (o : Obj) (pm cd doc : Value) (a : Addr) (vs : List Value) (ns : List Int),
      Ground q loose [] XP w s₀ mg mb s₁.heap → YP w s₁.heap →
      s₁.heap.get? fa = some o → o.data = .func (docDef d.name d.params d.body d.scope pm cd doc) → s₁.heap.CodeRec cd d.name → mg d.name = some (.ref fa) →
      s₁.heap.get? a = some { cls := .type "list", data := .seq vs.toArray } → IntsAre vs ns → ns.length ≤ n → s₁.gens = #[] →
      codeAny (model l.prog w) callerA (.call (.ref fa) ⟨[.ref a], []⟩) (fun r s' => r = .ok (.ret (.bool true)) ∧ OldK s₁.heap s'.heap ∧ s'.os = s₁.os ∧ AllBare s'.gens) s₁) :
    WalkO q loose XP YP l.row.toRowW d [] (fun f vs => PySem.call f vs) := by
  intro w s₀ s₁ mg mb G Y fa o pm cd doc dV kV ho hd hcd hD hmg hg args vals as hpre hlay hrd hwl hlo
  obtain rfl : dV = .none := Dflts.none hD hdf
  obtain rfl : kV = .none := Dflts.noKw hD
  obtain ⟨a, vs, ns, rfl, rfl, hobj, hints, hlen⟩ := script_of hn hpre hwl
  refine enter_call (codeAny_mono (call w s₀ s₁ mg mb fa o pm cd doc a vs ns G Y ho (fd_plain hd) hcd hmg hobj hints hlen hg) fun r s' hq => ?_)
  obtain ⟨rfl, h2, h3, h4⟩ := hq
  exact ⟨.inl ⟨.bool true, .bool true, [], rfl, fun _ => rfl, .bool true, post_true l _, fun _ => ⟨List.Pairwise.nil, fun _ hm => (nomatch hm)⟩⟩, h2, h3, h4⟩
end Att
namespace L2
open PySem PySem.Spec PyProof.Rows
theorem vals_ints : ∀ {vs : List Value} {ns : List Int}, IntsAre vs ns → Vals (ns.map V.int) vs
  | _, _, .nil => .nil
  | _, _, .cons n t h => .cons ⟨t, rfl⟩ (vals_ints h)
noncomputable def Only (H : Hp) : Prop := ∀ b, H b = none ∨ ∃ o xs, H b = some (.frz o (.lst xs))
theorem law_call {P : Program} {w : World} {K : PySem.W.Frag} {mg mb : Str → Option Value} {CX : CXT} {k : Nat} {fa a : Addr} {fd : FuncData} {x : Str} {sp : Sp} {s₁ : Shared} {vs : List Value} {ns : List Int}
    (KX : K.In s₁.heap) (hns : s₁.heap.Ns mainGlobals mg) (hb : s₁.heap.Ns builtinsNs mb) (hbb : ∀ x : Str, x ≠ "__name__" → mb x = bootBuiltins x) (hlim : s₁.heap.NoLimit) (hg : s₁.gens = #[])
    (ha : s₁.heap.get? a = some { cls := .type "list", data := .seq vs.toArray }) (hi : IntsAre vs ns) (hl : ns.length ≤ sizeLine) (hr : Room k callerA)
    (F : ∀ base : Heap, K.In base → base.Ns mainGlobals mg → FnOk P w K mg base CX k fa fd [x] sp) (hbind : ∀ (s : Shared) (u : Value), BindsTo s fd ⟨[u], []⟩ [(x, u)])
    (hsp : ∀ H : Hp, Only H → SqL K H a (ns.map V.int) → sp [.ref a] H (fun v _ => v = .bl true) fun _ _ _ => False)
    (hCX : ∀ H e s', CX [] H s₁ (fun _ _ _ => False) e s' → False) :
    codeAny (model P w) callerA (.call (.ref fa) ⟨[.ref a], []⟩) (fun r s' => r = .ok (.ret (.bool true)) ∧ OldK s₁.heap s'.heap ∧ s'.os = s₁.os ∧ AllBare s'.gens) s₁ := by
  have rv := vals_ints hi
  have lenV := hi.length
  have core : ∀ H : Hp, Only H → SqL K H a (ns.map V.int) → HOk P w H s₁.heap → (∀ b, H b ≠ none → b = a) → (H a ≠ none → K.lookup a = none) →
      codeAny (model P w) callerA (.call (.ref fa) ⟨[.ref a], []⟩) (fun r s' => r = .ok (.ret (.bool true)) ∧ OldK s₁.heap s'.heap ∧ s'.os = s₁.os ∧ AllBare s'.gens) s₁ := by
    intro H hO hS hok hA hK
    have base_of : ∀ {b : Addr} {o : Obj}, s₁.heap.get? b = some o → H b = none → (hidT s₁.heap H).get? b = some o := fun e n => hidT_get e n
    have noA : ∀ {b : Addr} {o : Obj} {es : Array DictEntry} {ep : Nat}, s₁.heap.get? b = some o → o.data = .dict es ep → H b = none := fun {b o es ep} e d => by
      cases q : H b with
      | none => rfl
      | some u =>
        have e' : b = a := hA b (by rw [q]; simp)
        subst e'
        rw [ha] at e; cases e
        have d' : Data.seq vs.toArray _ = Data.dict es ep := d
        cases d'
    have nsK : ∀ {b : Addr} {m : Str → Option Value}, s₁.heap.Ns b m → (hidT s₁.heap H).Ns b m := fun {b m} ⟨o, es, ep, e, d, r⟩ => ⟨o, es, ep, base_of e (noA e d), d, r⟩
    have hKb : K.In (hidT s₁.heap H) := fun b o e => base_of (KX b o e) (by
      cases q : H b with
      | none => rfl
      | some u =>
        have e' : b = a := hA b (by rw [q]; simp)
        subst e'
        rw [hK (by rw [q]; simp)] at e; cases e)
    have hM : Mod K mg (hidT s₁.heap H) := ⟨hKb, nsK hns, ⟨mb, nsK hb, hbb⟩, let ⟨mc, h1, h2⟩ := hlim; ⟨mc, nsK h1, h2⟩⟩
    have e0 : Env0 P w K mg (hidT s₁.heap H) callerA [] s₁ H := ⟨rfl, hM, fun b o e => of_hidT e, Nat.le_of_eq (hidT_size _ _), trivial, fun b hb => absurd (show b ∈ ([] : List Addr) from hb) (by simp), hok, .of_eq hg⟩
    refine codeAny_mono ((F _ hKb (nsK hns)).run callerA [] s₁ H ⟨[.ref a], []⟩ [.ref a] [.ref a] _ _ hr e0 (hbind s₁ (.ref a)) (.cons rfl .nil) (hsp H hO hS)) fun r s' h => ?_
    cases r with
    | error e => exact (hCX H e s' h).elim
    | ok fl =>
      cases fl with
      | next => exact False.elim h
      | brk => exact False.elim h
      | cont => exact False.elim h
      | ret u =>
        obtain ⟨v, H', os, bare, un, hok', r', q⟩ := h
        have q' : v = .bl true := q
        subst q'
        obtain rfl : u = Value.bool true := r'
        refine ⟨rfl, OldK.of_keep fun b o e => ?_, os, bare⟩
        cases q : H b with
        | none => exact un.keep b o e q (by intro z; exact absurd (show b ∈ ([] : List Addr) from z) (by simp)) (by simp)
        | some u =>
          rcases hO b with z | ⟨ob, xs, z⟩
          · rw [q] at z; cases z
          · have z2 := un.frzs b ob _ z
            obtain ⟨e1, _⟩ := hok b _ z
            obtain ⟨e2, _⟩ := hok' b _ z2
            rw [e] at e1; cases e1
            exact e2
  cases hk : K.lookup a with
  | some o =>
    have e := KX a o hk
    rw [ha] at e
    cases e
    refine core (fun _ => none) (fun _ => .inl rfl) (.inr ⟨_, vs.toArray, _, hk, rfl, rfl, rfl, by rw [List.size_toArray, lenV]; exact hl, by simpa using rv⟩) (fun b u z => by have z' : (none : Option HO) = some u := z; cases z') (fun b z => absurd rfl z) fun z => absurd rfl z
  | none =>
    refine core (fun b => if b = a then some (.frz { cls := .type "list", data := .seq vs.toArray } (.lst (ns.map V.int))) else none) (fun b => ?_) (.inl (.inr ⟨{ cls := .type "list", data := .seq vs.toArray }, if_pos rfl⟩)) (fun b u z => ?_) (fun b z => ?_) fun _ => hk
    · by_cases hb : b = a
      · exact .inr ⟨_, _, if_pos hb⟩
      · exact .inl (if_neg hb)
    · by_cases hb : b = a
      · have z' := (if_pos hb).symm.trans z
        cases z'
        subst hb
        exact ⟨ha, by rw [List.length_map]; exact hl, vs, _, rv, ha⟩
      · have z' := (if_neg hb).symm.trans z
        cases z'
    · by_cases hb : b = a
      · exact hb
      · exact absurd (if_neg hb) z
end L2
namespace L2
open PySem PySem.Spec PyProof.Rows
theorem walk_of {l : PySem.W.OpenLaw} {n k : Nat} {q : Program} {loose : List Str} {XP : (Str → Option Value) → Heap → Prop} {YP : World → Heap → Prop} {d : DefRec} {K : Params → PySem.W.Frag} {CX : World → CXT} {sp : World → Sp} {x : Str}
    (hn : l.most = some n) (hn2 : n ≤ sizeLine) (hdf : d.params.defaults = []) (hr : Room k callerA)
    (hY : ∀ (w : World) (h : Heap), YP w h → (K w.params).In h)
    (F : ∀ (w : World) (mg : Str → Option Value) (fa : Addr) (h : Heap), (K w.params).In h → h.Ns mainGlobals mg → mg d.name = some (.ref fa) →
      ∃ fd : FuncData, (∀ (s : Shared) (u : Value), BindsTo s fd ⟨[u], []⟩ [(x, u)]) ∧
        ∀ base : Heap, (K w.params).In base → base.Ns mainGlobals mg → FnOk l.prog w (K w.params) mg base (CX w) k fa fd [x] (sp w))
    (hsp : ∀ (w : World) (H : Hp) (a : Addr) (ns : List Int), ns.length ≤ n → Only H → SqL (K w.params) H a (ns.map V.int) → sp w [.ref a] H (fun v _ => v = .bl true) fun _ _ _ => False)
    (hCX : ∀ (w : World) (H : Hp) (s : Shared) (e : Value) (s' : Shared), CX w [] H s (fun _ _ _ => False) e s' → False) :
    PySem.W.WalkO q loose XP YP l.row.toRowW d [] (fun f vs => PySem.call f vs) := by
  refine Att.attach_call hn hdf fun w s₀ s₁ mg mb fa o pm cd doc a vs ns G Y ho hd hcd hmg hobj hints hlen hg => ?_
  have KX := hY w _ Y
  obtain ⟨fd, hb, hF⟩ := F w mg fa _ KX G.T.g hmg
  exact law_call KX G.T.g G.T.b G.T.builtins G.T.nolimit hg hobj hints (Nat.le_trans hlen hn2) hr hF hb (fun H hO hS => hsp w H a ns hlen hO hS) fun H e s' => hCX w H s₁ e s'
end L2
namespace L2
open PySem PySem.Spec PyProof.Rows
noncomputable def defArgs (s : Stmt) : Arguments := match s with
  | .FunctionDef _ a _ _ _ _ _ _ _ _ => a
  | _ => { posonlyargs := [], args := [], vararg := none, kwonlyargs := [], kw_defaults := [], kwarg := none, defaults := [] }
noncomputable def defBody (s : Stmt) : List Stmt := match s with
  | .FunctionDef _ _ b _ _ _ _ _ _ _ => b
  | _ => []
noncomputable def defScope (s : Stmt) : Scope := match s with
  | .FunctionDef _ _ _ _ _ _ sc _ _ _ => sc
  | _ => { kind := .function, names := [], isGenerator := false, isCoroutine := false }
noncomputable abbrev CX0 : CXT := fun _ _ _ _ _ _ => False
noncomputable abbrev E0 : XK := fun _ _ _ => False
theorem pass0 {X : Cx} : Passes CX0 X E0 := fun _ _ _ _ _ _ _ h => h.elim
structure Fun (K : PySem.W.Frag) (x qual : Str) (st : Stmt) (f : Addr) (fd : FuncData) : Prop where
  ex : ∃ (oc : Value) (od : Option Addr) (kV doc pm : Value) (an : Option Addr) (cdv ct : Value) (osl : Array (Option Value)),
    fd = PySem.W.fnOf x qual (defArgs st) (defBody st) (defScope st) .none kV doc pm an cdv ct ∧ K.lookup f = some ⟨oc, od, .func fd, osl⟩ ∧ PySem.W.codeIn K cdv qual = true
  kp : PySem.W.keepIn K (.ref f) = true
section
variable {P : Program} {w : World} {K : PySem.W.Frag} {mg : Str → Option Value} {base : Heap}
theorem Fun.ok {x qual : Str} {st : Stmt} {f : Addr} {fd : FuncData} {N ps : List Str} {k : Nat} {sp : Sp} (F : Fun K x qual st f fd) (S : FnScope N ps (defScope st)) (len : ∀ vs H Q E, sp vs H Q E → vs.length = ps.length)
    (hbody : ∀ (cdv : Value) (A : Around) (outer : List Env) (s : Shared) (H : Hp) (vs : List V) (Q : VK) (E : XK), Room k (A.deeper (envOfC qual (defScope st) s.heap.objs.size f cdv)) → sp vs H Q E →
      ∃ t, PSs (cxOf CX0 P w K mg base N qual (defScope st) f cdv A outer s H E).nox (defBody st) t ∧ t { nx := fun _ H' => Q .non H', rt := Q } (start N vs) H) : FnOk P w K mg base CX0 (k + 1) f fd ps sp := by
  obtain ⟨oc, od, kV, doc, pm, an, cdv, ct, osl, rfl, lk, hcd⟩ := F.ex
  refine fn_of lk hcd S len fun A outer s H vs Q E hr hsp => ?_
  obtain ⟨t, h, q⟩ := hbody cdv A outer s H vs Q E hr hsp
  exact ⟨t, h.nox, q⟩
theorem Fun.binds {x qual : Str} {st : Stmt} {f : Addr} {fd : FuncData} {ps : List Str} (F : Fun K x qual st f fd)
    (h : ∀ (kV doc pm : Value) (an : Option Addr) (cdv ct : Value) (us : List Value), us.length = ps.length → bindArgs (PySem.W.fnOf x qual (defArgs st) (defBody st) (defScope st) .none kV doc pm an cdv ct) ⟨us, []⟩ = pure (ps.zip us)) : Binds K fd ps [] := by
  obtain ⟨oc, od, kV, doc, pm, an, cdv, ct, osl, rfl, lk, hcd⟩ := F.ex
  exact .all (h kV doc pm an cdv ct)
theorem fun_mk {x qual : Str} {st : Stmt} {f : Addr} {oc : Value} {od an : Option Addr} {osl : Array (Option Value)} {kV doc pm cdv ct : Value} (l : K.lookup f = some ⟨oc, od, .func (PySem.W.fnOf x qual (defArgs st) (defBody st) (defScope st) .none kV doc pm an cdv ct), osl⟩)
    (c : PySem.W.codeIn K cdv qual = true) (k : PySem.W.keepIn K (.ref f) = true) : Fun K x qual st f (PySem.W.fnOf x qual (defArgs st) (defBody st) (defScope st) .none kV doc pm an cdv ct) := ⟨⟨oc, od, kV, doc, pm, an, cdv, ct, osl, rfl, l, c⟩, k⟩
end
section
variable {X : Cx}
theorem pv (i : Nat) {x : Str} {pos : Pos} (hN : X.N[i]? = some x := by rfl) (hv : Vis X.env.scope x := by first | exact Or.inl rfl | exact Or.inr (Or.inl rfl) | exact Or.inr (Or.inr rfl)) (hd : (x == ("__debug__" : Str)) = false := by decide)
    (hcd : (x == ("__classdict__" : Str)) = false := by decide) : PE X (.Name x pos) (tVar i) := pe_var hN hv hd hcd
end
end L2
namespace L2
open PySem PySem.Spec PyProof.Rows
end L2
set_option maxRecDepth 100000
namespace Ws
noncomputable section
inductive PV where
  | non | bl (b : Bool) | int (i : Int) | str (x : PySem.Str) | tup (l : List PV) | ref (n : Nat)
inductive PO where
  | lst (l : List PV)
  | ro (l : List PV)
  | dI (kvs : List (Int × PV))
  | ins (c : Nat) (fs : List (Nat × PV))
    | dT (kvs : List (List Int × PV))
    | exc (c : Nat) (v : PV)
noncomputable abbrev PHp := List PO
inductive R (α : Type) where
  | ok (a : α) (A : PHp)
  | ex (c : Nat) (v : PV) (A : PHp)
  | no
noncomputable abbrev M (α : Type) := PHp → R α
@[simp] noncomputable def ret {α : Type} (a : α) : M α := fun A => .ok a A
@[simp] noncomputable def stuck {α : Type} : M α := fun _ => .no
@[simp] noncomputable def bnd {α β : Type} (m : M α) (f : α → M β) : M β := fun A => match m A with
  | .ok a A' => f a A'
  | .ex c v A' => .ex c v A'
  | .no => .no
noncomputable def guard {α : Type} (P : Prop) (m : M α) : M α := @ite _ P (Classical.propDecidable P) m stuck
theorem guard_pos {α : Type} {P : Prop} {m : M α} (h : P) : guard P m = m := if_pos h
@[simp] theorem guard_true {α : Type} {m : M α} : guard True m = m := if_pos trivial
theorem guard_inv {α : Type} {P : Prop} {m : M α} {A A' : PHp} {a : α} (h : guard P m A = .ok a A') : P ∧ m A = .ok a A' := by
  by_cases p : P
  · rw [guard_pos p] at h; exact ⟨p, h⟩
  · rw [show guard P m = stuck from if_neg p] at h; cases h
theorem bnd_ok {α β : Type} {m : M α} {f : α → M β} {A A' : PHp} {a : α} (h : m A = .ok a A') : bnd m f A = f a A' := by unfold bnd; rw [h]
theorem bnd_inv {α β : Type} {m : M α} {f : α → M β} {A A' : PHp} {b : β} (h : bnd m f A = .ok b A') : ∃ a A1, m A = .ok a A1 ∧ f a A1 = .ok b A' := by
  unfold bnd at h
  cases e : m A with
  | ok a A1 => rw [e] at h; exact ⟨a, A1, rfl, h⟩
  | ex c v A1 => rw [e] at h; cases h
  | no => rw [e] at h; cases h
noncomputable abbrev PSt := List (Option PV)
noncomputable abbrev ED := PSt → M PV
noncomputable abbrev TD := PSt → M Bool
noncomputable abbrev AD := PSt → M (List PV)
noncomputable abbrev Fun := List PV → M PV
inductive Fl where
  | nx (σ : PSt) | rt (v : PV) | bk (σ : PSt) | ct (σ : PSt)
noncomputable abbrev SD := PSt → M Fl
noncomputable abbrev GD := PV → PSt → M PSt
@[irreducible] noncomputable def LIM : Nat := 100000
theorem lim_le {n : Nat} (h : n ≤ 10000) : n ≤ LIM := by unfold LIM; omega
theorem lim_lt {n : Nat} (h : n < 10000) : n < LIM := by unfold LIM; omega
@[simp] theorem lim_0 : 0 ≤ LIM := Nat.zero_le _
@[simp] theorem lim_1 : 1 ≤ LIM := lim_le (by omega)
@[simp] theorem lim_2 : 2 ≤ LIM := lim_le (by omega)
@[simp] theorem lim_3 : 3 ≤ LIM := lim_le (by omega)
@[simp] theorem lim_4 : 4 ≤ LIM := lim_le (by omega)
mutual
noncomputable def eqv : PV → PV → Bool
  | .non, .non => true
  | .bl a, .bl b => a == b
  | .int i, .int j => decide (i = j)
  | .str x, .str y => decide (x = y)
  | .tup l, .tup m => eqvs l m
  | _, _ => false
noncomputable def eqvs : List PV → List PV → Bool
  | [], [] => true
  | x :: xs, y :: ys => eqv x y && eqvs xs ys
  | _, _ => false
end
mutual
noncomputable def nice : PV → Bool
  | .non => true
  | .int _ => true
  | .str _ => true
  | .tup l => nices l
  | _ => false
noncomputable def nices : List PV → Bool
  | [] => true
  | x :: xs => nice x && nices xs
end
@[simp] noncomputable def flat0 : PV → Bool
  | .non => true
  | .int _ => true
  | .str _ => true
  | _ => false
noncomputable def flat1 : PV → Bool
  | .tup l => l.all flat0
  | x => flat0 x
noncomputable def flat2 : PV → Bool
  | .tup l => l.all flat1
  | x => flat0 x
noncomputable def plain : PV → Bool
  | .tup l => l.all flat2
  | x => flat0 x
noncomputable def plains (l : List PV) : Bool := l.all plain
@[simp] theorem plain_int (i : Int) : plain (.int i) = true := rfl
@[simp] theorem plain_non : plain .non = true := rfl
@[simp] noncomputable def alloc (o : PO) : M PV := fun A => .ok (.ref A.length) (A ++ [o])
@[simp] noncomputable def lstAt (n : Nat) : M (List PV) := fun A => match A[n]? with
  | some (.lst l) => .ok l A
  | some (.ro l) => .ok l A
  | _ => .no
@[simp] noncomputable def mutAt (n : Nat) : M (List PV) := fun A => match A[n]? with
  | some (.lst l) => .ok l A
  | _ => .no
@[simp] noncomputable def put (n : Nat) (o : PO) : M Unit := fun A => .ok () (A.set n o)
@[simp] noncomputable def seqOf (v : PV) : M (List PV) := match v with
  | .ref n => lstAt n
  | .tup l => ret l
  | _ => stuck
@[simp] noncomputable def eVar (i : Nat) : ED := fun σ => match σ[i]? with
  | some (some v) => ret v
  | _ => stuck
@[simp] noncomputable def eK (v : PV) : ED := fun _ => ret v
@[simp] noncomputable def aNil : AD := fun _ => ret []
@[simp] noncomputable def aCons (e : ED) (es : AD) : AD := fun σ => bnd (e σ) fun x => bnd (es σ) fun xs => ret (x :: xs)
@[simp] noncomputable def eTup (es : AD) : ED := fun σ => bnd (es σ) fun xs => guard (xs.length ≤ LIM) (ret (.tup xs))
@[simp] noncomputable def eLst (es : AD) : ED := fun σ => bnd (es σ) fun xs => guard (xs.length ≤ LIM) (alloc (.lst xs))
noncomputable abbrev OD := PV → PV → M PV
@[simp] noncomputable def eBin (f : OD) (a b : ED) : ED := fun σ => bnd (a σ) fun x => bnd (b σ) fun y => f x y
@[simp] noncomputable def oAdd : OD
  | .int i, .int j => ret (.int (i + j))
  | .tup l, .tup m => guard (l ≠ [] ∧ l.length + m.length ≤ LIM) (ret (.tup (l ++ m)))
  | .ref n, .ref k => bnd (mutAt n) fun l => bnd (mutAt k) fun m => guard (l.length + m.length ≤ LIM) (alloc (.lst (l ++ m)))
  | _, _ => stuck
@[simp] noncomputable def oMul : OD
  | .int i, .int j => guard ((-(2 ^ 64) < i ∧ i < 2 ^ 64) ∨ (-(2 ^ 64) < j ∧ j < 2 ^ 64)) (ret (.int (i * j)))
  | _, _ => stuck
@[simp] noncomputable def oMod : OD
  | .int i, .int j => guard (0 < j) (ret (.int (i % j)))
  | _, _ => stuck
@[simp] noncomputable def oFdiv : OD
  | .int i, .int j => guard (0 < j ∧ j < 1073741824) (ret (.int (i / j)))
  | _, _ => stuck
@[simp] noncomputable def oLt : OD
  | .int i, .int j => ret (.bl (decide (i < j)))
  | _, _ => stuck
@[simp] noncomputable def oLe : OD
  | .int i, .int j => ret (.bl (decide (i ≤ j)))
  | _, _ => stuck
@[simp] noncomputable def bothBl : PV → PV → Bool
  | .bl _, .bl _ => true
  | _, _ => false
@[simp] noncomputable def pEq (x y : PV) : M Bool := match x, y with
  | .ref n, .ref k => bnd (lstAt n) fun l => bnd (lstAt k) fun m => guard (plains l = true ∧ plains m = true) (ret (eqvs l m))
  | x, y => guard (bothBl x y = true ∨ (plain x = true ∧ plain y = true)) (ret (eqv x y))
@[simp] noncomputable def oEq : OD := fun x y => bnd (pEq x y) fun b => ret (.bl b)
@[simp] noncomputable def oNe : OD := fun x y => bnd (pEq x y) fun b => ret (.bl (!b))
@[simp] noncomputable def isNon : PV → Bool
  | .non => true
  | _ => false
@[simp] noncomputable def eIsN (a : ED) : ED := fun σ => bnd (a σ) fun x => ret (.bl (isNon x))
@[simp] noncomputable def eChain (f g : OD) (a b c : ED) : ED := fun σ => bnd (a σ) fun x => bnd (b σ) fun y => bnd (f x y) fun z => match z with
  | .bl true => bnd (c σ) fun u => g y u
  | .bl false => ret (.bl false)
  | _ => stuck
@[simp] noncomputable def asB (v : PV) : M Bool := match v with
  | .bl b => ret b
  | _ => stuck
@[simp] noncomputable def tVal (e : ED) : TD := fun σ => bnd (e σ) asB
@[simp] noncomputable def tAnd (a b : TD) : TD := fun σ => bnd (a σ) fun c => if c = true then b σ else ret false
@[simp] noncomputable def tOr (a b : TD) : TD := fun σ => bnd (a σ) fun c => if c = true then ret true else b σ
@[simp] noncomputable def tNot (a : TD) : TD := fun σ => bnd (a σ) fun c => ret (!c)
@[simp] noncomputable def eAnd (a b : ED) : ED := fun σ => bnd (bnd (a σ) asB) fun c => if c = true then b σ else ret (.bl false)
@[simp] noncomputable def eOr (a b : ED) : ED := fun σ => bnd (bnd (a σ) asB) fun c => if c = true then ret (.bl true) else b σ
@[simp] noncomputable def eIf (t : TD) (a b : ED) : ED := fun σ => bnd (t σ) fun c => if c = true then a σ else b σ
noncomputable def ixN (n : Nat) (i : Int) : Option Nat := if 0 ≤ i then (if i < n then some i.toNat else none) else if -(n : Int) ≤ i then some (i + n).toNat else none
noncomputable def atI {α : Type} (xs : List α) (i : Int) : Option α := (ixN xs.length i).bind fun j => xs[j]?
@[simp] noncomputable def oIx : OD := fun x y => match y with
  | .int i => bnd (seqOf x) fun l => match atI l i with
    | some v => ret v
    | none => stuck
  | _ => stuck
noncomputable def cutIx (n d : Nat) : Option Int → Nat
  | none => d
  | some v => if v < 0 then (max (v + n) 0).toNat else (min v n).toNat
noncomputable def cut {α : Type} (xs : List α) (lo hi : Option Int) : List α := (xs.drop (cutIx xs.length 0 lo)).take (cutIx xs.length xs.length hi - cutIx xs.length 0 lo)
noncomputable abbrev LD := PSt → M (Option Int)
@[simp] noncomputable def lNo : LD := fun _ => ret none
@[simp] noncomputable def lAt (e : ED) : LD := fun σ => bnd (e σ) fun x => match x with
  | .int i => ret (some i)
  | _ => stuck
@[simp] noncomputable def eCut (a : ED) (lo hi : LD) : ED := fun σ => bnd (a σ) fun x => bnd (lo σ) fun l => bnd (hi σ) fun h => match x with
  | .ref n => bnd (lstAt n) fun xs => alloc (.lst (cut xs l h))
  | .tup xs => guard (¬ (cutIx xs.length 0 l = 0 ∧ cutIx xs.length xs.length h = xs.length)) (ret (.tup (cut xs l h)))
  | _ => stuck
@[simp] noncomputable def eLen (a : ED) : ED := fun σ => bnd (a σ) fun x => bnd (seqOf x) fun l => ret (.int l.length)
@[simp] noncomputable def eListOf (a : ED) : ED := fun σ => bnd (a σ) fun x => bnd (seqOf x) fun l => alloc (.lst l)
inductive Ty where
  | int | bool | tuple | list
@[simp] noncomputable def isTy (t : Ty) (v : PV) : M Bool := match t, v with
  | .int, .int _ => ret true
  | .int, .bl _ => ret true
  | .bool, .bl _ => ret true
  | .tuple, .tup _ => ret true
  | .list, .ref n => bnd (mutAt n) fun _ => ret true
  | _, .ref n => bnd (mutAt n) fun _ => ret false
  | _, _ => ret false
@[simp] noncomputable def eIsA (a : ED) (t : Ty) : ED := fun σ => bnd (a σ) fun x => bnd (isTy t x) fun b => ret (.bl b)
@[simp] noncomputable def eCall (f : Fun) (es : AD) : ED := fun σ => bnd (es σ) f
@[simp] noncomputable def eAppend (a e : ED) : ED := fun σ => bnd (a σ) fun x => match x with
  | .ref n => bnd (mutAt n) fun _ => bnd (e σ) fun v => bnd (mutAt n) fun l => guard (l.length < LIM) (bnd (put n (.lst (l ++ [v]))) fun _ => ret .non)
  | _ => stuck
@[simp] noncomputable def gName (i : Nat) : GD := fun v σ => ret (σ.set i (some v))
noncomputable abbrev GDs := List PV → PSt → M PSt
@[simp] noncomputable def gNil : GDs := fun vs σ => match vs with
  | [] => ret σ
  | _ => stuck
@[simp] noncomputable def gCons (g : GD) (r : GDs) : GDs := fun vs σ => match vs with
  | v :: w => bnd (g v σ) fun σ' => r w σ'
  | _ => stuck
@[simp] noncomputable def gTup (n : Nat) (g : GDs) : GD := fun v σ => match v with
  | .tup l => guard (l.length = n) (g l σ)
  | _ => stuck
inductive It where
  | rng (lo : Int) (n : Nat) | lst (n : Nat) | tup (l : List PV) | enm (n : Nat)
    | fix (l : List PV)
    | zip (x y : PV)
    | enk (k n : Nat)
noncomputable abbrev ID := PSt → M It
@[simp] noncomputable def iSeq (a : ED) : ID := fun σ => bnd (a σ) fun x => match x with
  | .ref n => bnd (lstAt n) fun _ => ret (.lst n)
  | .tup l => ret (.tup l)
  | _ => stuck
@[simp] noncomputable def iRng1 (a : ED) : ID := fun σ => bnd (a σ) fun x => match x with
  | .int j => guard (-(2 ^ 62) ≤ j ∧ j < 2 ^ 62) (ret (.rng 0 j.toNat))
  | _ => stuck
@[simp] noncomputable def iEnk (k : Nat) (a : ED) : ID := fun σ => bnd (a σ) fun x => match x with
  | .ref n => bnd (lstAt n) fun _ => ret (.enk k n)
  | _ => stuck
@[simp] noncomputable def item (J : It) (i : Nat) : M (Option PV) := match J with
  | .rng lo n => ret (if i < n then some (.int (lo + i)) else none)
  | .lst a => bnd (lstAt a) fun l => ret l[i]?
  | .tup l => ret l[i]?
  | .enm a => bnd (lstAt a) fun l => ret (l[i]?.map fun x => .tup [.int i, x])
  | .fix l => ret l[i]?
  | .zip x y => bnd (seqOf x) fun l => bnd (seqOf y) fun m => ret (match l[i]?, m[i]? with
    | some u, some v => some (.tup [u, v])
    | _, _ => none)
  | .enk k a => bnd (lstAt a) fun l => ret (l[i]?.map fun x => .tup [.int ((k + i : Nat) : Int), x])
@[simp] noncomputable def fuelOf (J : It) : M Nat := match J with
  | .rng _ n => ret n
  | .lst a => bnd (lstAt a) fun l => ret l.length
  | .tup l => ret l.length
  | .enm a => bnd (lstAt a) fun l => ret l.length
  | .fix l => ret l.length
  | .zip x _ => bnd (seqOf x) fun l => ret l.length
  | .enk _ a => bnd (lstAt a) fun l => ret l.length
@[simp] noncomputable def sPass : SD := fun σ => ret (.nx σ)
@[simp] noncomputable def sSeq (a b : SD) : SD := fun σ => bnd (a σ) fun f => match f with
  | .nx σ' => b σ'
  | o => ret o
@[simp] noncomputable def sExpr (e : ED) : SD := fun σ => bnd (e σ) fun _ => ret (.nx σ)
@[simp] noncomputable def sRet (e : ED) : SD := fun σ => bnd (e σ) fun v => ret (.rt v)
@[simp] noncomputable def sIf (t : TD) (a b : SD) : SD := fun σ => bnd (t σ) fun c => if c = true then a σ else b σ
@[simp] noncomputable def sAsg (e : ED) (g : GD) : SD := fun σ => bnd (e σ) fun v => bnd (g v σ) fun σ' => ret (.nx σ')
@[simp] noncomputable def sNever : SD := fun _ => stuck
noncomputable def turns0 (J : It) (g : GD) (body : SD) : Nat → Nat → PSt → M Fl
  | 0, _, _ => stuck
  | f + 1, i, σ => bnd (item J i) fun x => match x with
    | none => ret (.nx σ)
    | some v => bnd (g v σ) fun σ1 => bnd (body σ1) fun o => match o with
      | .nx σ2 => turns0 J g body f (i + 1) σ2
      | .ct σ2 => turns0 J g body f (i + 1) σ2
      | .bk σ2 => ret (.nx σ2)
      | .rt v => ret (.rt v)
theorem turns_ex : ∃ T : It → GD → SD → Nat → Nat → PSt → M Fl, (∀ J g body i σ, T J g body 0 i σ = stuck) ∧ ∀ J g body f i σ, T J g body (f + 1) i σ = bnd (item J i) fun x => match x with
    | none => ret (.nx σ)
    | some v => bnd (g v σ) fun σ1 => bnd (body σ1) fun o => match o with
      | .nx σ2 => T J g body f (i + 1) σ2
      | .ct σ2 => T J g body f (i + 1) σ2
      | .bk σ2 => ret (.nx σ2)
      | .rt v => ret (.rt v) := ⟨turns0, fun _ _ _ _ _ => rfl, fun _ _ _ _ _ _ => rfl⟩
noncomputable def turns : It → GD → SD → Nat → Nat → PSt → M Fl := Classical.choose turns_ex
theorem turns_zero (J : It) (g : GD) (body : SD) (i : Nat) (σ : PSt) : turns J g body 0 i σ = stuck := (Classical.choose_spec turns_ex).1 J g body i σ
theorem turns_succ (J : It) (g : GD) (body : SD) (f i : Nat) (σ : PSt) : turns J g body (f + 1) i σ = bnd (item J i) fun x => match x with
    | none => ret (.nx σ)
    | some v => bnd (g v σ) fun σ1 => bnd (body σ1) fun o => match o with
      | .nx σ2 => turns J g body f (i + 1) σ2
      | .ct σ2 => turns J g body f (i + 1) σ2
      | .bk σ2 => ret (.nx σ2)
      | .rt v => ret (.rt v) := (Classical.choose_spec turns_ex).2 J g body f i σ
@[simp] noncomputable def sFor (it : ID) (g : GD) (body : SD) : SD := fun σ => bnd (it σ) fun J => bnd (fuelOf J) fun n => turns J g body (n + 1) 0 σ
noncomputable def bst {α : Type} (js : List (Option Nat)) (σ : List (Option α)) : List (Option α) := js.map fun o => match o with
  | none => none
  | some j => σ.getD j none
noncomputable def cturns0 (J : It) (g : GD) (t : TD) (e : ED) : Nat → Nat → PSt → M (List PV)
  | 0, _, _ => stuck
  | f + 1, i, σ => bnd (item J i) fun x => match x with
    | none => ret []
    | some v => bnd (g v σ) fun σ1 => bnd (t σ1) fun c => if c = true then bnd (e σ1) fun y => bnd (cturns0 J g t e f (i + 1) σ1) fun ys => ret (y :: ys)
      else cturns0 J g t e f (i + 1) σ1
theorem cturns_ex : ∃ T : It → GD → TD → ED → Nat → Nat → PSt → M (List PV), (∀ J g t e i σ, T J g t e 0 i σ = stuck) ∧ ∀ J g t e f i σ, T J g t e (f + 1) i σ = bnd (item J i) fun x => match x with
    | none => ret []
    | some v => bnd (g v σ) fun σ1 => bnd (t σ1) fun c => if c = true then bnd (e σ1) fun y => bnd (T J g t e f (i + 1) σ1) fun ys => ret (y :: ys)
      else T J g t e f (i + 1) σ1 := ⟨cturns0, fun _ _ _ _ _ _ => rfl, fun _ _ _ _ _ _ _ => rfl⟩
noncomputable def cturns : It → GD → TD → ED → Nat → Nat → PSt → M (List PV) := Classical.choose cturns_ex
theorem cturns_zero (J : It) (g : GD) (t : TD) (e : ED) (i : Nat) (σ : PSt) : cturns J g t e 0 i σ = stuck := (Classical.choose_spec cturns_ex).1 J g t e i σ
theorem cturns_succ (J : It) (g : GD) (t : TD) (e : ED) (f i : Nat) (σ : PSt) : cturns J g t e (f + 1) i σ = bnd (item J i) fun x => match x with
    | none => ret []
    | some v => bnd (g v σ) fun σ1 => bnd (t σ1) fun c => if c = true then bnd (e σ1) fun y => bnd (cturns J g t e f (i + 1) σ1) fun ys => ret (y :: ys)
      else cturns J g t e f (i + 1) σ1 := (Classical.choose_spec cturns_ex).2 J g t e f i σ
@[simp] noncomputable def tTrue : TD := fun _ => ret true
@[simp] noncomputable def eComp (it : ID) (mk : PSt → PSt) (g : GD) (t : TD) (e : ED) : ED := fun σ => bnd (it σ) fun J => bnd (fuelOf J) fun n => bnd (cturns J g t e (n + 1) 0 (mk σ)) fun ys => guard (ys.length ≤ LIM) (alloc (.lst ys))
@[simp] noncomputable def start (n : Nat) (vs : List PV) : PSt := vs.map some ++ List.replicate (n - vs.length) none
noncomputable def fin (o : Fl) : M PV := match o with
    | .rt v => ret v
    | .nx _ => ret .non
    | _ => stuck
@[simp] theorem fin_rt (v : PV) : fin (.rt v) = ret v := rfl
@[simp] theorem fin_nx (σ : PSt) : fin (.nx σ) = ret .non := rfl
@[simp] noncomputable def fn (n p : Nat) (body : SD) : Fun := fun vs => guard (vs.length = p) (bnd (body (start n vs)) fin)
end
end Ws
namespace Ws
theorem pre_get {A B : PHp} {n : Nat} {o : PO} (h : A <+: B) (e : A[n]? = some o) : B[n]? = some o := by
  obtain ⟨t, rfl⟩ := h
  rw [List.getElem?_append_left (List.getElem?_eq_some_iff.mp e).1]; exact e
theorem pre_lt {A : PHp} {n : Nat} {o : PO} (e : A[n]? = some o) : n < A.length := (List.getElem?_eq_some_iff.mp e).1
theorem pre_set {A B : PHp} {n : Nat} {o : PO} (h : A <+: B) (e : A.length ≤ n) : A <+: B.set n o := by
  obtain ⟨t, rfl⟩ := h
  rw [List.set_append_right _ _ e]; exact List.prefix_append _ _
theorem get_app {A : PHp} {o : PO} : (A ++ [o])[A.length]? = some o := by simp
theorem get_app_of {A : PHp} {o p : PO} {n : Nat} (e : A[n]? = some p) : (A ++ [o])[n]? = some p := pre_get (List.prefix_append _ _) e
theorem get_set_ne {A : PHp} {o : PO} {n m : Nat} (h : m ≠ n) : (A.set n o)[m]? = A[m]? := by
  rw [List.getElem?_set]; simp [Ne.symm h]
theorem get_set {A : PHp} {o p : PO} {n : Nat} (h : A[n]? = some p) : (A.set n o)[n]? = some o := by
  rw [List.getElem?_set]; simp [pre_lt h]
noncomputable def Comes (r : R Fl) (P : PSt → PHp → Prop) (Q : PV → PHp → Prop) : Prop :=
  (∃ σ A, r = .ok (.nx σ) A ∧ P σ A) ∨ ∃ v A, r = .ok (.rt v) A ∧ Q v A
noncomputable def Turns (r : R Fl) (P : PSt → PHp → Prop) (Q : PV → PHp → Prop) : Prop :=
  (∃ σ A, (r = .ok (.nx σ) A ∨ r = .ok (.ct σ) A) ∧ P σ A) ∨ ∃ v A, r = .ok (.rt v) A ∧ Q v A
theorem turns_inv {J : It} {g : GD} {body : SD} {n : Nat} (P : Nat → PSt → PHp → Prop) (Q : PV → PHp → Prop)
    (hend : ∀ σ A, P n σ A → item J n A = .ok none A)
    (hs : ∀ i σ A, i < n → P i σ A → ∃ v, item J i A = .ok (some v) A ∧ Turns (bnd (g v σ) body A) (P (i + 1)) Q) :
    ∀ k i σ A, i + k = n → P i σ A → Comes (turns J g body (k + 1) i σ A) (P n) Q
  | 0, i, σ, A, e, h => by
    obtain rfl : i = n := by omega
    refine .inl ⟨σ, A, ?_, h⟩
    rw [turns_succ, bnd_ok (hend σ A h)]; rfl
  | k + 1, i, σ, A, e, h => by
    obtain ⟨v, hv, t⟩ := hs i σ A (by omega) h
    have key : turns J g body (k + 1 + 1) i σ A = bnd (bnd (g v σ) body) (fun o => match o with
      | .nx σ2 => turns J g body (k + 1) (i + 1) σ2
      | .ct σ2 => turns J g body (k + 1) (i + 1) σ2
      | .bk σ2 => ret (.nx σ2)
      | .rt v => ret (.rt v)) A := by
      rw [turns_succ, bnd_ok hv]
      show bnd (g v σ) _ A = _
      unfold bnd
      cases g v σ A <;> rfl
    rw [key]
    rcases t with ⟨σ2, A2, e2, h2⟩ | ⟨u, A2, e2, h2⟩
    · rcases e2 with e2 | e2 <;> (rw [bnd_ok e2]; exact turns_inv P Q hend hs k (i + 1) σ2 A2 (by omega) h2)
    · rw [bnd_ok e2]; exact .inr ⟨u, A2, rfl, h2⟩
theorem for_rng {it : ID} {g : GD} {body : SD} {lo : Int} {n : Nat} {σ : PSt} {A A1 : PHp} (hi : it σ A = .ok (.rng lo n) A1) (P : Nat → PSt → PHp → Prop) (Q : PV → PHp → Prop) (h0 : P 0 σ A1)
    (hs : ∀ (i : Nat) σ A, i < n → P i σ A → Turns (bnd (g (.int (lo + i)) σ) body A) (P (i + 1)) Q) : Comes (sFor it g body σ A) (P n) Q := by
  show Comes (bnd (it σ) _ A) _ _
  rw [bnd_ok hi]
  exact turns_inv (J := .rng lo n) P Q (fun σ A _ => by simp) (fun i σ A hi h => ⟨_, by simp [hi], hs i σ A hi h⟩) n 0 σ A1 (by omega) h0
theorem Comes.end {r : R Fl} {P : PSt → PHp → Prop} (h : Comes r P fun _ _ => False) : ∃ σ A, r = .ok (.nx σ) A ∧ P σ A := by
  rcases h with h | ⟨_, _, _, h⟩
  · exact h
  · exact h.elim
theorem Turns.nx {r : R Fl} {P : PSt → PHp → Prop} {Q : PV → PHp → Prop} {σ : PSt} {A : PHp} (e : r = .ok (.nx σ) A) (h : P σ A) : Turns r P Q := .inl ⟨σ, A, .inl e, h⟩
theorem Comes.mono {r : R Fl} {P P' : PSt → PHp → Prop} {Q Q' : PV → PHp → Prop} (h : Comes r P Q) (hp : ∀ σ A, P σ A → P' σ A) (hq : ∀ v A, Q v A → Q' v A) : Comes r P' Q' := by
  rcases h with ⟨σ, A, e, h⟩ | ⟨v, A, e, h⟩
  · exact .inl ⟨σ, A, e, hp _ _ h⟩
  · exact .inr ⟨v, A, e, hq _ _ h⟩
theorem for_rng' {it : ID} {g : GD} {body : SD} {lo : Int} {n : Nat} {σ : PSt} {A A1 : PHp} {P' : PSt → PHp → Prop} {Q : PV → PHp → Prop} (hi : it σ A = .ok (.rng lo n) A1) (P : Nat → PSt → PHp → Prop) (h0 : P 0 σ A1)
    (hs : ∀ (i : Nat) σ A, i < n → P i σ A → Turns (bnd (g (.int (lo + i)) σ) body A) (P (i + 1)) Q) (hd : ∀ σ A, P n σ A → P' σ A) : Comes (sFor it g body σ A) P' Q :=
  (for_rng hi P Q h0 hs).mono hd fun _ _ h => h
theorem fn_rt {n p : Nat} {body : SD} {vs : List PV} {A A' : PHp} {v : PV} (hl : vs.length = p) (h : body (start n vs) A = .ok (.rt v) A') : fn n p body vs A = .ok v A' := by
  show guard (vs.length = p) (bnd (body (start n vs)) fin) A = _
  rw [guard_pos hl, bnd_ok h]; rfl
theorem seq_nx {a b : SD} {σ σ' : PSt} {A A' : PHp} (h : a σ A = .ok (.nx σ') A') : sSeq a b σ A = b σ' A' := by
  show bnd (a σ) _ A = _
  rw [bnd_ok h]
theorem seq_rt {a b : SD} {σ : PSt} {v : PV} {A A' : PHp} (h : a σ A = .ok (.rt v) A') : sSeq a b σ A = .ok (.rt v) A' := by
  show bnd (a σ) _ A = _
  rw [bnd_ok h]; rfl
theorem asg_ok {e : ED} {g : GD} {σ σ' : PSt} {A A' A'' : PHp} {v : PV} (h : e σ A = .ok v A') (hg : g v σ A' = .ok σ' A'') : sAsg e g σ A = .ok (.nx σ') A'' := by
  show bnd (e σ) _ A = _
  rw [bnd_ok h, bnd_ok hg]; rfl
theorem eLst_nil (A : PHp) (σ : PSt) : eLst aNil σ A = .ok (.ref A.length) (A ++ [.lst []]) := by
  simp
theorem if_t {t : TD} {a b : SD} {σ : PSt} {A A' : PHp} (h : t σ A = .ok true A') : sIf t a b σ A = a σ A' := by
  show bnd (t σ) _ A = _
  rw [bnd_ok h]; rfl
theorem if_f {t : TD} {a b : SD} {σ : PSt} {A A' : PHp} (h : t σ A = .ok false A') : sIf t a b σ A = b σ A' := by
  show bnd (t σ) _ A = _
  rw [bnd_ok h]; rfl
theorem set_last {A : PHp} {o p : PO} : (A ++ [o]).set A.length p = A ++ [p] := by
  rw [List.set_append_right _ _ (Nat.le_refl _)]; simp
theorem lstAt_lst {A : PHp} {n : Nat} {l : List PV} (h : A[n]? = some (.lst l)) : lstAt n A = .ok l A := by
  unfold lstAt; rw [h]
theorem mutAt_lst {A : PHp} {n : Nat} {l : List PV} (h : A[n]? = some (.lst l)) : mutAt n A = .ok l A := by
  unfold mutAt; rw [h]
mutual
theorem eqv_nice : ∀ x y : PV, nice x = true → (eqv x y = true ↔ x = y)
  | .non, y, _ => by cases y <;> simp [eqv]
  | .bl _, _, h => by simp [nice] at h
  | .int i, y, _ => by cases y <;> simp [eqv]
  | .str s, y, _ => by cases y <;> simp [eqv]
  | .tup l, y, h => by
    cases y with
    | tup m => simp only [eqv, PV.tup.injEq]; exact eqvs_nice l m (by simpa [nice] using h)
    | _ => simp [eqv]
  | .ref _, _, h => by simp [nice] at h
theorem eqvs_nice : ∀ l m : List PV, nices l = true → (eqvs l m = true ↔ l = m)
  | [], m, _ => by cases m <;> simp [eqvs]
  | x :: xs, m, h => by
    cases m with
    | nil => simp [eqvs]
    | cons y ys =>
      simp only [nices, Bool.and_eq_true] at h
      simp only [eqvs, Bool.and_eq_true, List.cons.injEq]
      rw [eqv_nice x y h.1, eqvs_nice xs ys h.2]
end
theorem nices_of {f : PV → Bool} (h : ∀ x, f x = true → nice x = true) : ∀ l : List PV, l.all f = true → nices l = true
  | [], _ => rfl
  | x :: xs, e => by
    rw [List.all_cons, Bool.and_eq_true] at e
    simp only [nices, Bool.and_eq_true]
    exact ⟨h x e.1, nices_of h xs e.2⟩
theorem nice0 (x : PV) (h : flat0 x = true) : nice x = true := by cases x <;> simp_all [flat0, nice]
theorem nice1 (x : PV) (h : flat1 x = true) : nice x = true := by
  cases x with
  | tup l => exact nices_of nice0 l h
  | _ => exact nice0 _ h
theorem nice2 (x : PV) (h : flat2 x = true) : nice x = true := by
  cases x with
  | tup l => exact nices_of nice1 l h
  | _ => exact nice0 _ h
theorem plain_nice (x : PV) (h : plain x = true) : nice x = true := by
  cases x with
  | tup l => exact nices_of nice2 l h
  | _ => exact nice0 _ h
theorem eqvs_iff (l m : List PV) (h : plains l = true) : eqvs l m = true ↔ l = m := eqvs_nice l m (nices_of plain_nice l h)
theorem eqvs_refl {l : List PV} (h : plains l = true) : eqvs l l = true := (eqvs_iff l l h).mpr rfl
end Ws
namespace Ws
@[simp] noncomputable def ePop (a : ED) : ED := fun σ => bnd (a σ) fun x => match x with
  | .ref n => bnd (mutAt n) fun l => match l[l.length - 1]? with
    | some y => bnd (put n (.lst l.dropLast)) fun _ => ret y
    | none => stuck
  | _ => stuck
@[simp] noncomputable def eClear (a : ED) : ED := fun σ => bnd (a σ) fun x => match x with
  | .ref n => bnd (mutAt n) fun _ => bnd (put n (.lst [])) fun _ => ret .non
  | _ => stuck
end Ws
namespace Ws
noncomputable def blsOf : List PV → Option (List Bool)
  | [] => some []
  | .bl b :: r => (blsOf r).map (b :: ·)
  | _ => none
@[simp] noncomputable def eAll (a : ED) : ED := fun σ => bnd (a σ) fun x => match x with
  | .ref n => bnd (lstAt n) fun l => match blsOf l with
    | some bs => ret (.bl (bs.all id))
    | none => stuck
  | _ => stuck
@[simp] noncomputable def eTupleOf (a : ED) : ED := fun σ => bnd (a σ) fun x => match x with
  | .ref n => bnd (lstAt n) fun l => guard (l.length ≤ LIM) (ret (.tup l))
  | _ => stuck
end Ws
namespace Ws
end Ws
namespace Ws
end Ws
namespace Ws
noncomputable section
@[simp] noncomputable def eMax2 (a b : ED) : ED := fun σ => bnd (a σ) fun x => bnd (b σ) fun y => match x, y with
  | .int i, .int j => ret (.int (if j > i then j else i))
  | _, _ => stuck
@[simp] noncomputable def oPow : OD := fun x y => match x, y with
  | .int i, .int j => guard (0 ≤ j ∧ j ≤ 1000 ∧ i.natAbs < 1000) (ret (.int (i ^ j.toNat)))
  | _, _ => stuck
end
end Ws
namespace Ws
noncomputable section
end
end Ws
namespace Ws
noncomputable section
end
end Ws
namespace Ws
noncomputable section
end
end Ws
namespace Ws
noncomputable section
end
end Ws
namespace Ws
noncomputable section
end
end Ws
namespace Ws
noncomputable section
end
end Ws
namespace Ws
noncomputable section
end
end Ws
namespace Ws
noncomputable section
end
end Ws
namespace Ws
noncomputable section
noncomputable def isStrP (x : PV) : M Bool := match x with
  | .str _ => ret true
  | .ref n => bnd (mutAt n) fun _ => ret false
  | _ => ret false
noncomputable def eIsStr (a : ED) : ED := fun σ => bnd (a σ) fun x => bnd (isStrP x) fun b => ret (.bl b)
end
end Ws
namespace Ws
noncomputable section
end
end Ws
namespace Ws
noncomputable section
end
end Ws
namespace Ws
noncomputable section
noncomputable def eStr (a : ED) : ED := fun σ => bnd (a σ) fun x => match x with
  | .int i => guard (i.natAbs < 10000000000) (ret (.str (PySem.Str.ofString (toString i))))
  | _ => stuck
noncomputable def eIntT (a : ED) : ED := fun σ => bnd (a σ) fun x => match x with
  | .str z => match PySem.intText? z with
    | some n => guard (z.length ≤ 640) (ret (.int n))
    | none => stuck
  | _ => stuck
noncomputable def strsOf : List PV → Option (List PySem.Str)
  | [] => some []
  | .str z :: r => (strsOf r).map (z :: ·)
  | _ => none
noncomputable def eJoin (a b : ED) : ED := fun σ => bnd (a σ) fun x => match x with
  | .str z => bnd (b σ) fun y => match y with
    | .ref n => bnd (lstAt n) fun l => match strsOf l with
      | some ys => guard (z.length ≤ 16 ∧ (ys.map (·.length)).sum + ys.length ≤ 1048576) (ret (.str (PySem.Txt.join z ys)))
      | none => stuck
    | _ => stuck
  | _ => stuck
noncomputable def eSplit (a b : ED) : ED := fun σ => bnd (a σ) fun x => match x with
  | .str z => bnd (b σ) fun y => match y with
    | .str u => guard ((u.length == 0) = false ∧ z.length ≤ LIM ∧ (PySem.Txt.split z u).length ≤ LIM ∧ (PySem.Builtin.Str.partsBetween z (PySem.Builtin.Str.occurrences z u 0 z.length (z.length + 1)) u.length).length ≤ LIM) (alloc (.lst ((PySem.Txt.split z u).map .str)))
    | _ => stuck
  | _ => stuck
noncomputable def oAddS : OD
  | .str x, .str y => guard (x.length + y.length ≤ LIM) (ret (.str (x ++ y)))
  | _, _ => stuck
noncomputable def oInS : OD
  | .str x, .str y => ret (.bl (!(PySem.Builtin.Str.occurrences y x 0 y.length 1).isEmpty))
  | _, _ => stuck
noncomputable def eLenS (a : ED) : ED := fun σ => bnd (a σ) fun x => match x with
  | .str z => guard (z.length ≤ LIM) (ret (.int z.length))
  | _ => stuck
noncomputable def oIxS : OD
  | .str z, .int i => match atI z.cps.toList i with
    | some c => guard (z.length ≤ LIM) (ret (.str ⟨#[c]⟩))
    | none => stuck
  | _, _ => stuck
noncomputable def iStr (a : ED) : ID := fun σ => bnd (a σ) fun x => match x with
  | .str z => guard (z.cps.all (· < 128) = true) (ret (.fix (z.cps.toList.map fun c => .str ⟨#[c]⟩)))
  | _ => stuck
end
end Ws
namespace Ws
open PySem
noncomputable def isStar : Expr → Bool
  | .Starred _ _ => true
  | _ => false
theorem star_c {e : Expr} {es : List Expr} {env : Env} (h : isStar e = false) : starEach (e :: es) env = (false, eval e env) :: starEach es env := by
  cases e <;> first | rfl | cases h
mutual
inductive RV (ρ : List Addr) (H : L2.Hp) : PV → L2.V → Prop
  | non : RV ρ H .non .non
  | bl (b : Bool) : RV ρ H (.bl b) (.bl b)
  | int (i : Int) : RV ρ H (.int i) (.int i)
  | str (x : Str) : RV ρ H (.str x) (.str x)
  | tup {l : List PV} {a : Addr} {vs : List L2.V} (h : H a = some (.tup vs)) (r : RVs ρ H l vs) : RV ρ H (.tup l) (.ref a)
  | ref {n : Nat} {a : Addr} (h : ρ[n]? = some a) : RV ρ H (.ref n) (.ref a)
inductive RVs (ρ : List Addr) (H : L2.Hp) : List PV → List L2.V → Prop
  | nil : RVs ρ H [] []
  | cons {x : PV} {v : L2.V} {l : List PV} {vs : List L2.V} (h : RV ρ H x v) (r : RVs ρ H l vs) : RVs ρ H (x :: l) (v :: vs)
end
structure Ext (ρ : List Addr) (H : L2.Hp) (ρ' : List Addr) (H' : L2.Hp) : Prop where
  pre : ρ <+: ρ'
  tup : ∀ a vs, H a = some (.tup vs) → H' a = some (.tup vs)
  xd : ∀ a fs, H a = some (.xd fs) → H' a = some (.xd fs)
theorem Ext.refl (ρ : List Addr) (H : L2.Hp) : Ext ρ H ρ H := ⟨List.prefix_refl _, fun _ _ h => h, fun _ _ h => h⟩
theorem Ext.trans {ρ ρ1 ρ2 : List Addr} {H H1 H2 : L2.Hp} (a : Ext ρ H ρ1 H1) (b : Ext ρ1 H1 ρ2 H2) : Ext ρ H ρ2 H2 := ⟨a.pre.trans b.pre, fun c vs h => b.tup c vs (a.tup c vs h), fun c vs h => b.xd c vs (a.xd c vs h)⟩
theorem pre_at {ρ ρ' : List Addr} {n : Nat} {a : Addr} (h : ρ <+: ρ') (e : ρ[n]? = some a) : ρ'[n]? = some a := by
  obtain ⟨t, rfl⟩ := h
  rw [List.getElem?_append_left (List.getElem?_eq_some_iff.mp e).1]; exact e
section
variable {ρ ρ' : List Addr} {H H' : L2.Hp}
mutual
theorem RV.mono (e : Ext ρ H ρ' H') : ∀ {x : PV} {v : L2.V}, RV ρ H x v → RV ρ' H' x v
  | _, _, .non => .non
  | _, _, .bl b => .bl b
  | _, _, .int i => .int i
  | _, _, .str x => .str x
  | _, _, .tup h r => .tup (e.tup _ _ h) (RVs.mono e r)
  | _, _, .ref h => .ref (pre_at e.pre h)
theorem RVs.mono (e : Ext ρ H ρ' H') : ∀ {l : List PV} {vs : List L2.V}, RVs ρ H l vs → RVs ρ' H' l vs
  | _, _, .nil => .nil
  | _, _, .cons h r => .cons (RV.mono e h) (RVs.mono e r)
end
theorem RVs.length : ∀ {l : List PV} {vs : List L2.V}, RVs ρ H l vs → l.length = vs.length
  | _, _, .nil => rfl
  | _, _, .cons _ r => by simp [RVs.length r]
theorem RVs.get : ∀ {l : List PV} {vs : List L2.V} {i : Nat} {x : PV}, RVs ρ H l vs → l[i]? = some x → ∃ v, vs[i]? = some v ∧ RV ρ H x v
  | _, _, _, _, .nil, e => by simp at e
  | _, _, 0, _, .cons h _, e => by simp at e; subst e; exact ⟨_, rfl, h⟩
  | _, _, i + 1, _, .cons _ r, e => by
    obtain ⟨v, h1, h2⟩ := RVs.get (i := i) r (by simpa using e)
    exact ⟨v, by simpa using h1, h2⟩
theorem RVs.get' : ∀ {l : List PV} {vs : List L2.V} {i : Nat} {v : L2.V}, RVs ρ H l vs → vs[i]? = some v → ∃ x, l[i]? = some x ∧ RV ρ H x v
  | _, _, _, _, .nil, e => by simp at e
  | _, _, 0, _, .cons h _, e => by simp at e; subst e; exact ⟨_, rfl, h⟩
  | _, _, i + 1, _, .cons _ r, e => by
    obtain ⟨x, h1, h2⟩ := RVs.get' (i := i) r (by simpa using e)
    exact ⟨x, by simpa using h1, h2⟩
theorem RVs.append : ∀ {l m : List PV} {vs ws : List L2.V}, RVs ρ H l vs → RVs ρ H m ws → RVs ρ H (l ++ m) (vs ++ ws)
  | _, _, _, _, .nil, s => s
  | _, _, _, _, .cons h r, s => .cons h (RVs.append r s)
theorem RVs.take : ∀ {l : List PV} {vs : List L2.V} (n : Nat), RVs ρ H l vs → RVs ρ H (l.take n) (vs.take n)
  | _, _, 0, _ => by simpa using .nil
  | _, _, _ + 1, .nil => .nil
  | _, _, n + 1, .cons h r => .cons h (RVs.take n r)
theorem RVs.drop : ∀ {l : List PV} {vs : List L2.V} (n : Nat), RVs ρ H l vs → RVs ρ H (l.drop n) (vs.drop n)
  | _, _, 0, r => r
  | _, _, _ + 1, .nil => .nil
  | _, _, n + 1, .cons _ r => RVs.drop n r
theorem RVs.ints (ns : List Int) : RVs ρ H (ns.map .int) (ns.map .int) := by
  induction ns with
  | nil => exact .nil
  | cons i r ih => exact .cons (.int i) ih
end
noncomputable def fnm (i : Nat) : Str := (["number", "passings", "at", "web", "leaders", "limits", "plan", "free", "ledger", "kept_leaders", "kept_limits", "kept_free", "now", "turns_of_lays", "sayings", "first_turns", "does", "me", "open_boxes"] : List Str).getD i "?"
noncomputable def Fz (K : PySem.W.Frag) (H : L2.Hp) (a : Addr) (xs : List L2.V) : Prop :=
  (∃ o, H a = some (.frz o (.lst xs))) ∨ ∃ (o : Obj) (its : Array Value) (n : Nat), K.lookup a = some o ∧ o.cls = .type "list" ∧ o.dict = none ∧ o.data = .seq its n ∧ its.size ≤ sizeLine ∧ L2.Vals xs its.toList
theorem Fz.sq {K : PySem.W.Frag} {H : L2.Hp} {a : Addr} {xs : List L2.V} (h : Fz K H a xs) : L2.SqL K H a xs := by
  rcases h with ⟨o, h⟩ | h
  · exact .inl (.inr ⟨o, h⟩)
  · exact .inr h
noncomputable def isMut : PO → Bool
  | .ro _ => false
  | _ => true
structure Pairs {κ κ' : Type} (f : κ → κ') (ρ : List Addr) (H : L2.Hp) (kvs : List (κ × PV)) (kv : List (κ' × L2.V)) : Prop where
  keys : kv.map (·.1) = kvs.map fun p => f p.1
  vals : RVs ρ H (kvs.map (·.2)) (kv.map (·.2))
theorem Pairs.mono {κ κ' : Type} {f : κ → κ'} {ρ ρ' : List Addr} {H H' : L2.Hp} {kvs : List (κ × PV)} {kv : List (κ' × L2.V)} (h : Pairs f ρ H kvs kv) (e : Ext ρ H ρ' H') : Pairs f ρ' H' kvs kv := ⟨h.keys, h.vals.mono e⟩
section
variable (K : PySem.W.Frag) (cm : Nat → Addr)
noncomputable def RO (ρ : List Addr) (H : L2.Hp) (a : Addr) : PO → Prop
  | .lst l => ∃ xs, H a = some (.lst xs) ∧ RVs ρ H l xs
  | .ro l => ∃ xs, Fz K H a xs ∧ RVs ρ H l xs
  | .dI kvs => ∃ kv, H a = some (.dK kv) ∧ Pairs (Sum.inl : Int → L2.Key) ρ H kvs kv
  | .ins c fs => (c < 7 ∧ ∀ p ∈ fs, p.1 < 19) ∧ ∃ dx kv, H a = some (.ins (cm c) dx kv) ∧ Pairs fnm ρ H fs kv
  | .dT kvs => ∃ kv, H a = some (.dT kv) ∧ Pairs (List.map Sum.inl : List Int → List L2.Key) ρ H kvs kv
  | .exc c v => ∃ o d v', H a = some (.frz o (.own a)) ∧ o.cls = .ref (cm c) ∧ o.dict = some d ∧ (∃ vs, o.data = .fields vs) ∧ H d = some (.xd [("at", v')]) ∧ RV ρ H v v'
structure Rel (ρ : List Addr) (A : PHp) (H : L2.Hp) : Prop where
  len : ρ.length = A.length
  obj : ∀ (n : Nat) (o : PO) (a : Addr), A[n]? = some o → ρ[n]? = some a → RO K cm ρ H a o
  inj : ∀ (m n : Nat) (a : Addr) (o p : PO), ρ[m]? = some a → ρ[n]? = some a → A[m]? = some o → A[n]? = some p → isMut o = true → isMut p = true → m = n
end
section
variable {K : PySem.W.Frag} {cm : Nat → Addr} {ρ ρ' : List Addr} {H H' : L2.Hp} {A : PHp} {a p : Addr} {o : PO} {n : Nat}
theorem RO.keep (r : RO K cm ρ H a o) (e : Ext ρ H ρ' H') (hk : ∀ u, H a = some u → H' a = some u) : RO K cm ρ' H' a o := by
  cases o with
  | lst l => obtain ⟨xs, h, q⟩ := r; exact ⟨xs, hk _ h, q.mono e⟩
  | ro l =>
    obtain ⟨xs, h, q⟩ := r
    rcases h with ⟨u, h⟩ | h
    · exact ⟨xs, .inl ⟨u, hk _ h⟩, q.mono e⟩
    · exact ⟨xs, .inr h, q.mono e⟩
  | dI kvs => obtain ⟨kv, h, q⟩ := r; exact ⟨kv, hk _ h, q.mono e⟩
  | ins c fs => obtain ⟨hs, dx, kv, h, q⟩ := r; exact ⟨hs, dx, kv, hk _ h, q.mono e⟩
  | dT kvs => obtain ⟨kv, h, q⟩ := r; exact ⟨kv, hk _ h, q.mono e⟩
  | exc c v => obtain ⟨o, d, v', h, h1, h2, h3, h4, q⟩ := r; exact ⟨o, d, v', hk _ h, h1, h2, h3, e.xd _ _ h4, q.mono e⟩
theorem RO.some (r : RO K cm ρ H a o) (m : isMut o = true) : ∃ u, H a = some u := by
  cases o with
  | lst l => obtain ⟨xs, h, q⟩ := r; exact ⟨_, h⟩
  | ro l => simp [isMut] at m
  | dI kvs => obtain ⟨kv, h, q⟩ := r; exact ⟨_, h⟩
  | ins c fs => obtain ⟨_, dx, kv, h, q⟩ := r; exact ⟨_, h⟩
  | dT kvs => obtain ⟨kv, h, q⟩ := r; exact ⟨_, h⟩
  | exc c v => obtain ⟨o, d, v', h, q⟩ := r; exact ⟨_, h⟩
theorem keep_new {u : L2.HO} (hp : H p = none) : ∀ b v, H b = some v → L2.upd H p u b = some v := fun b v h => by
  rw [L2.upd_ne (L2.ne_of_none h hp)]; exact h
theorem Ext.same {u : L2.HO} (hp : H p = none) : Ext ρ H ρ (L2.upd H p u) := ⟨List.prefix_refl _, fun a vs h => keep_new hp a _ h, fun a vs h => keep_new hp a _ h⟩
theorem Ext.new {u : L2.HO} (hp : H p = none) : Ext ρ H (ρ ++ [p]) (L2.upd H p u) := ⟨List.prefix_append _ _, fun a vs h => keep_new hp a _ h, fun a vs h => keep_new hp a _ h⟩
theorem Rel.grow (r : Rel K cm ρ A H) (e : Ext ρ H ρ H') (hk : ∀ b v, H b = some v → H' b = some v) : Rel K cm ρ A H' :=
  ⟨r.len, fun n o a h1 h2 => (r.obj n o a h1 h2).keep e (hk a), r.inj⟩
theorem Rel.tup {vs : List L2.V} (r : Rel K cm ρ A H) (hp : H p = none) : Rel K cm ρ A (L2.upd H p (.tup vs)) := r.grow (Ext.same hp) (keep_new hp)
theorem Rel.alloc {u : L2.HO} (r : Rel K cm ρ A H) (hp : H p = none) (hn : RO K cm (ρ ++ [p]) (L2.upd H p u) p o) (hm : isMut o = true) : Rel K cm (ρ ++ [p]) (A ++ [o]) (L2.upd H p u) := by
  have e : Ext ρ H (ρ ++ [p]) (L2.upd H p u) := Ext.new hp
  have none_new : ∀ (n : Nat) (q : PO), ρ[n]? = some p → A[n]? = some q → isMut q = true → False := fun n q h1 h2 hq => by
    obtain ⟨v, hv⟩ := (r.obj n q p h2 h1).some hq
    rw [hp] at hv; cases hv
  have split : ∀ {α : Type} {l : List α} {x y : α} {n : Nat}, (l ++ [x])[n]? = some y → l[n]? = some y ∨ (n = l.length ∧ y = x) := fun {α l x y n} h => by
    by_cases hn : n < l.length
    · rw [List.getElem?_append_left hn] at h; exact .inl h
    · rw [List.getElem?_append_right (by omega)] at h
      have : n - l.length = 0 := by
        by_cases z : n - l.length = 0
        · exact z
        · rw [List.getElem?_eq_none (by simp; omega)] at h; cases h
      rw [this] at h
      simp at h
      exact .inr ⟨by omega, h.symm⟩
  refine ⟨by simp [r.len], fun n q a h1 h2 => ?_, fun m n a q q' h1 h2 h3 h4 m1 m2 => ?_⟩
  · rcases split h1 with h1 | ⟨rfl, rfl⟩
    · rcases split h2 with h2 | ⟨rfl, rfl⟩
      · exact (r.obj n q a h1 h2).keep e (keep_new hp a)
      · rw [r.len, List.getElem?_eq_none (Nat.le_refl _)] at h1; cases h1
    · rcases split h2 with h2 | ⟨_, rfl⟩
      · rw [← r.len, List.getElem?_eq_none (Nat.le_refl _)] at h2; cases h2
      · exact hn
  · rcases split h1 with g1 | ⟨rfl, ha1⟩ <;> rcases split h2 with g2 | ⟨rfl, ha2⟩
    · have h3' : A[m]? = some q := by
        rcases split h3 with h3 | ⟨rfl, _⟩
        · exact h3
        · rw [← r.len, List.getElem?_eq_none (Nat.le_refl _)] at g1; cases g1
      have h4' : A[n]? = some q' := by
        rcases split h4 with h4 | ⟨rfl, _⟩
        · exact h4
        · rw [← r.len, List.getElem?_eq_none (Nat.le_refl _)] at g2; cases g2
      exact r.inj m n a q q' g1 g2 h3' h4' m1 m2
    · have h3' : A[m]? = some q := by
        rcases split h3 with h3 | ⟨rfl, _⟩
        · exact h3
        · rw [← r.len, List.getElem?_eq_none (Nat.le_refl _)] at g1; cases g1
      rw [ha2] at g1
      exact (none_new m q g1 h3' m1).elim
    · have h4' : A[n]? = some q' := by
        rcases split h4 with h4 | ⟨rfl, _⟩
        · exact h4
        · rw [← r.len, List.getElem?_eq_none (Nat.le_refl _)] at g2; cases g2
      rw [ha1] at g2
      exact (none_new n q' g2 h4' m2).elim
    · rfl
theorem Ext.put {u : L2.HO} (r : Rel K cm ρ A H) (h1 : ρ[n]? = some a) (h2 : A[n]? = some o) (m : isMut o = true) : Ext ρ H ρ (L2.upd H a u) := by
  have key : ∀ b w, H b = some w → ((∃ vs, w = .tup vs) ∨ ∃ fs, w = .xd fs) → L2.upd H a u b = some w := fun b w h hw => by
    have ne : b ≠ a := by
      rintro rfl
      have q := r.obj n o b h2 h1
      cases o with
      | lst l => obtain ⟨xs, z, _⟩ := q; rw [h] at z; cases z; rcases hw with ⟨_, y⟩ | ⟨_, y⟩ <;> cases y
      | ro l => simp [isMut] at m
      | dI kvs => obtain ⟨xs, z, _⟩ := q; rw [h] at z; cases z; rcases hw with ⟨_, y⟩ | ⟨_, y⟩ <;> cases y
      | ins c fs => obtain ⟨_, dx, xs, z, _⟩ := q; rw [h] at z; cases z; rcases hw with ⟨_, y⟩ | ⟨_, y⟩ <;> cases y
      | dT kvs => obtain ⟨xs, z, _⟩ := q; rw [h] at z; cases z; rcases hw with ⟨_, y⟩ | ⟨_, y⟩ <;> cases y
      | exc c v => obtain ⟨o, d, v', z, _⟩ := q; rw [h] at z; cases z; rcases hw with ⟨_, y⟩ | ⟨_, y⟩ <;> cases y
    rw [L2.upd_ne ne]; exact h
  exact ⟨List.prefix_refl _, fun b vs h => key b _ h (.inl ⟨_, rfl⟩), fun b vs h => key b _ h (.inr ⟨_, rfl⟩)⟩
theorem Rel.put {u : L2.HO} {o' : PO} (r : Rel K cm ρ A H) (h1 : ρ[n]? = some a) (h2 : A[n]? = some o) (m : isMut o = true) (m' : isMut o' = true) (hn : RO K cm ρ (L2.upd H a u) a o') : Rel K cm ρ (A.set n o') (L2.upd H a u) := by
  have e : Ext ρ H ρ (L2.upd H a u) := Ext.put r h1 h2 m
  have hlt := pre_lt h2
  refine ⟨by simp [r.len], fun k q b hk hb => ?_, fun i j b q q' e1 e2 e3 e4 m1 m2 => ?_⟩
  · by_cases hkn : k = n
    · subst hkn
      rw [get_set h2] at hk; cases hk
      rw [h1] at hb; cases hb
      exact hn
    · rw [get_set_ne hkn] at hk
      have q0 := r.obj k q b hk hb
      by_cases hba : b = a
      · subst hba
        cases hq : isMut q with
        | true => exact absurd (r.inj k n b q o hb h1 hk h2 hq m) hkn
        | false =>
          cases q with
          | ro l =>
            obtain ⟨xs, z, w⟩ := q0
            rcases z with ⟨v, z⟩ | z
            · obtain ⟨v', z'⟩ := (r.obj n o b h2 h1).some m
              have := r.obj n o b h2 h1
              rw [z] at z'; cases z'
              cases o with
              | lst l => obtain ⟨xs, zz, _⟩ := this; rw [z] at zz; cases zz
              | ro l => simp [isMut] at m
              | dI kvs => obtain ⟨xs, zz, _⟩ := this; rw [z] at zz; cases zz
              | ins c fs => obtain ⟨_, dx, xs, zz, _⟩ := this; rw [z] at zz; cases zz
              | dT kvs => obtain ⟨xs, zz, _⟩ := this; rw [z] at zz; cases zz
              | exc c v => obtain ⟨o, d, v', zz, _⟩ := this; rw [z] at zz; cases zz
            · exact ⟨xs, .inr z, w.mono e⟩
          | _ => simp [isMut] at hq
      · exact q0.keep e fun v hv => by rw [L2.upd_ne hba]; exact hv
  · have f3 : ∀ (k : Nat) (x : PO), (A.set n o')[k]? = some x → isMut x = true → ∃ y, A[k]? = some y ∧ isMut y = true := fun k x hk hx => by
      by_cases hkn : k = n
      · subst hkn; exact ⟨o, h2, m⟩
      · rw [get_set_ne hkn] at hk; exact ⟨x, hk, hx⟩
    obtain ⟨y, y1, y2⟩ := f3 i q e3 m1
    obtain ⟨z, z1, z2⟩ := f3 j q' e4 m2
    exact r.inj i j b y z e1 e2 y1 z1 y2 z2
end
end Ws
namespace Ws
open PySem
structure RSt (ρ : List Addr) (H : L2.Hp) (σp : PSt) (σ : L2.St) : Prop where
  len : σ.length = σp.length
  get : ∀ (i : Nat) (p : PV), σp[i]? = some (some p) → ∃ v, σ[i]? = some (some v) ∧ RV ρ H p v
theorem RSt.mono {ρ ρ' : List Addr} {H H' : L2.Hp} {σp : PSt} {σ : L2.St} (h : RSt ρ H σp σ) (e : Ext ρ H ρ' H') : RSt ρ' H' σp σ :=
  ⟨h.len, fun i p hp => let ⟨v, h1, h2⟩ := h.get i p hp; ⟨v, h1, h2.mono e⟩⟩
theorem RSt.set {ρ : List Addr} {H : L2.Hp} {σp : PSt} {σ : L2.St} (h : RSt ρ H σp σ) (i : Nat) {x : PV} {v : L2.V} (r : RV ρ H x v) : RSt ρ H (σp.set i (some x)) (σ.set i (some v)) := by
  refine ⟨by simp [h.len], fun j p hp => ?_⟩
  by_cases hij : i = j
  · subst hij
    by_cases hl : i < σp.length
    · rw [List.getElem?_set] at hp
      simp [hl] at hp
      subst hp
      exact ⟨v, by rw [List.getElem?_set]; simp [h.len, hl], r⟩
    · rw [List.getElem?_eq_none (by simp; omega)] at hp; cases hp
  · rw [List.getElem?_set_ne hij] at hp ⊢
    exact h.get j p hp
section
variable (K : PySem.W.Frag) (cm : Nat → Addr)
noncomputable def EvE (d : ED) : L2.TE := fun σ H Q => ∃ (ρ : List Addr) (A : PHp) (σp : PSt) (v : PV) (A' : PHp), Rel K cm ρ A H ∧ RSt ρ H σp σ ∧ d σp A = .ok v A' ∧
  ∀ ρ' H' v', Ext ρ H ρ' H' → Rel K cm ρ' A' H' → RV ρ' H' v v' → Q v' H'
noncomputable def EvT (d : TD) : L2.TT := fun σ H Q => ∃ (ρ : List Addr) (A : PHp) (σp : PSt) (b : Bool) (A' : PHp), Rel K cm ρ A H ∧ RSt ρ H σp σ ∧ d σp A = .ok b A' ∧
  ∀ ρ' H', Ext ρ H ρ' H' → Rel K cm ρ' A' H' → Q b H'
noncomputable def EvA (d : AD) : L2.TA := fun σ H Q => ∃ (ρ : List Addr) (A : PHp) (σp : PSt) (vs : List PV) (A' : PHp), Rel K cm ρ A H ∧ RSt ρ H σp σ ∧ d σp A = .ok vs A' ∧
  ∀ ρ' H' vs', Ext ρ H ρ' H' → Rel K cm ρ' A' H' → RVs ρ' H' vs vs' → Q vs' H'
noncomputable def EvG (g : GD) : L2.TG := fun v σ H Q => ∃ (ρ : List Addr) (A : PHp) (σp : PSt) (x : PV) (σp' : PSt) (A' : PHp), Rel K cm ρ A H ∧ RSt ρ H σp σ ∧ RV ρ H x v ∧ g x σp A = .ok σp' A' ∧
  ∀ ρ' H' σ', Ext ρ H ρ' H' → Rel K cm ρ' A' H' → RSt ρ' H' σp' σ' → Q σ' H'
noncomputable def EvGs (g : GDs) : L2.TGs := fun vs σ H Q => ∃ (ρ : List Addr) (A : PHp) (σp : PSt) (xs : List PV) (σp' : PSt) (A' : PHp), Rel K cm ρ A H ∧ RSt ρ H σp σ ∧ RVs ρ H xs vs ∧ g xs σp A = .ok σp' A' ∧
  ∀ ρ' H' σ', Ext ρ H ρ' H' → Rel K cm ρ' A' H' → RSt ρ' H' σp' σ' → Q σ' H'
noncomputable def Post (D : L2.Ends) (ρ : List Addr) (H : L2.Hp) : Fl → Prop
  | .nx σp => ∀ σ, RSt ρ H σp σ → D.nx σ H
  | .bk σp => ∀ σ, RSt ρ H σp σ → D.bk σ H
  | .ct σp => ∀ σ, RSt ρ H σp σ → D.ct σ H
  | .rt v => ∀ v', RV ρ H v v' → D.rt v' H
noncomputable def EvS (s : SD) : L2.TS := fun D σ H => ∃ (ρ : List Addr) (A : PHp) (σp : PSt) (f : Fl) (A' : PHp), Rel K cm ρ A H ∧ RSt ρ H σp σ ∧ s σp A = .ok f A' ∧
  ∀ ρ' H', Ext ρ H ρ' H' → Rel K cm ρ' A' H' → Post D ρ' H' f
end
section
variable {X : L2.Cx} {cm : Nat → Addr}
theorem PE_imp {e : Expr} {t t' : L2.TE} (h : L2.PE X e t) (k : ∀ σ H Q, t' σ H Q → t σ H Q) : L2.PE X e t' := fun pins s σ H Q I q => h pins s σ H Q I (k σ H Q q)
theorem PT_imp {e : Expr} {t t' : L2.TT} (h : L2.PT X e t) (k : ∀ σ H Q, t' σ H Q → t σ H Q) : L2.PT X e t' := fun pins s σ H Q I q => h pins s σ H Q I (k σ H Q q)
theorem PW_imp {e : Expr} {t t' : L2.TT} (h : L2.PW X e t) (k : ∀ σ H Q, t' σ H Q → t σ H Q) : L2.PW X e t' := fun w pins s σ H Q I q => h w pins s σ H Q I (k σ H Q q)
theorem PA_imp {es : List Expr} {t t' : L2.TA} (h : L2.PA X es t) (k : ∀ σ H Q, t' σ H Q → t σ H Q) : L2.PA X es t' := fun pos pins s σ H Q I q => h pos pins s σ H Q I (k σ H Q q)
theorem PS_imp {st : Stmt} {t t' : L2.TS} (h : L2.PS X st t) (k : ∀ D σ H, t' D σ H → t D σ H) : L2.PS X st t' := fun pins s σ H D I q => h pins s σ H D I (k D σ H q)
theorem PSs_imp {st : List Stmt} {t t' : L2.TS} (h : L2.PSs X st t) (k : ∀ D σ H, t' D σ H → t D σ H) : L2.PSs X st t' := fun pins s σ H D I q => h pins s σ H D I (k D σ H q)
theorem PG_imp {e : Expr} {t t' : L2.TG} (h : L2.PG X e t) (k : ∀ v σ H Q, t' v σ H Q → t v σ H Q) : L2.PG X e t' := fun pins s σ H v u Q I r q => h pins s σ H v u Q I r (k v σ H Q q)
theorem PGs_imp {es : List Expr} {t t' : L2.TGs} (h : L2.PGs X es t) (k : ∀ v σ H Q, t' v σ H Q → t v σ H Q) : L2.PGs X es t' := fun pins s σ H vs us Q I r q => h pins s σ H vs us Q I r (k vs σ H Q q)
theorem r_var {i : Nat} {e : Expr} (h : L2.PE X e (L2.tVar i)) : L2.PE X e (EvE X.K cm (eVar i)) := PE_imp h fun σ H Q ⟨ρ, A, σp, v, A', r, rs, ev, k⟩ => by
  have : ∃ p, σp[i]? = some (some p) ∧ v = p ∧ A' = A := by
    unfold eVar at ev
    rcases hσ : σp[i]? with _ | (_ | p)
    · rw [hσ] at ev; cases ev
    · rw [hσ] at ev; cases ev
    · rw [hσ] at ev; cases ev; exact ⟨_, rfl, rfl, rfl⟩
  obtain ⟨p, hp, rfl, rfl⟩ := this
  obtain ⟨u, h1, h2⟩ := rs.get i _ hp
  exact ⟨u, h1, k ρ H u (Ext.refl _ _) r h2⟩
theorem r_k {e : Expr} {x : PV} {u : L2.V} (h : L2.PE X e (L2.tC u)) (rv : ∀ ρ H, RV ρ H x u) : L2.PE X e (EvE X.K cm (eK x)) := PE_imp h fun σ H Q ⟨ρ, A, σp, v, A', r, rs, ev, k⟩ => by
  cases ev
  exact k ρ H u (Ext.refl _ _) r (rv ρ H)
theorem r_int {i : Int} {j pos} : L2.PE X (.Constant (.int i) j pos) (EvE X.K cm (eK (.int i))) := r_k L2.pe_int fun _ _ => .int i
theorem r_bl {b : Bool} {j pos} : L2.PE X (.Constant (.bool b) j pos) (EvE X.K cm (eK (.bl b))) := r_k L2.pe_bl fun _ _ => .bl b
theorem r_non {j pos} : L2.PE X (.Constant .none j pos) (EvE X.K cm (eK .non)) := r_k L2.pe_non fun _ _ => .non
noncomputable def OkOp (K : PySem.W.Frag) (cm : Nat → Addr) (f : OD) (r : L2.R2) : Prop := ∀ ρ A H x y z A' vx vy (Q : L2.VK), Rel K cm ρ A H → RV ρ H x vx → RV ρ H y vy → f x y A = .ok z A' →
  (∀ ρ' H' v', Ext ρ H ρ' H' → Rel K cm ρ' A' H' → RV ρ' H' z v' → Q v' H') → r vx vy H Q
theorem ev_bin {f : OD} {r : L2.R2} {a b : ED} (hf : OkOp X.K cm f r) {σ : L2.St} {H : L2.Hp} {Q : L2.VK} (h : EvE X.K cm (eBin f a b) σ H Q) : L2.tOp r (EvE X.K cm a) (EvE X.K cm b) σ H Q := by
  obtain ⟨ρ, A, σp, z, A', rl, rs, ev, k⟩ := h
  obtain ⟨x, A1, e1, ev⟩ := bnd_inv ev
  obtain ⟨y, A2, e2, ev⟩ := bnd_inv ev
  exact ⟨ρ, A, σp, x, A1, rl, rs, e1, fun ρ1 H1 vx x1 rl1 rv1 => ⟨ρ1, A1, σp, y, A2, rl1, rs.mono x1, e2, fun ρ2 H2 vy x2 rl2 rv2 => hf ρ2 A2 H2 x y z A' vx vy Q rl2 (rv1.mono x2) rv2 ev fun ρ3 H3 v3 x3 rl3 rv3 => k ρ3 H3 v3 ((x1.trans x2).trans x3) rl3 rv3⟩⟩
theorem r_bin {op : Operator} {f : OD} {r : L2.R2} {a b : Expr} {da db : ED} {pos : Pos} (ho : L2.OpR X (binaryOp op) r) (hf : OkOp X.K cm f r) (ha : L2.PE X a (EvE X.K cm da)) (hb : L2.PE X b (EvE X.K cm db)) : L2.PE X (.BinOp a op b pos) (EvE X.K cm (eBin f da db)) :=
  PE_imp (L2.pe_op ho ha hb) fun σ H Q h => ev_bin hf h
theorem r_cmp {op : CmpOp} {f : OD} {r : L2.R2} {a b : Expr} {da db : ED} {pos : Pos} (ho : L2.OpR X (compareOp op) r) (hf : OkOp X.K cm f r) (ha : L2.PE X a (EvE X.K cm da)) (hb : L2.PE X b (EvE X.K cm db)) (hm : behindInMarks op b = false) : L2.PE X (.Compare a [op] [b] pos) (EvE X.K cm (eBin f da db)) :=
  PE_imp (L2.pe_cmpR ho ha hb hm) fun σ H Q h => ev_bin hf h
theorem ev_tval {d : ED} {t : L2.TE} (h : ∀ σ H Q, EvE X.K cm d σ H Q → t σ H Q) {σ : L2.St} {H : L2.Hp} {Q : Bool → L2.Hp → Prop} (q : EvT X.K cm (tVal d) σ H Q) : L2.tTest t σ H Q := by
  obtain ⟨ρ, A, σp, b, A', rl, rs, ev, k⟩ := q
  obtain ⟨x, A1, e1, ev⟩ := bnd_inv ev
  refine h σ H _ ⟨ρ, A, σp, x, A1, rl, rs, e1, fun ρ1 H1 v1 x1 rl1 rv1 => ?_⟩
  cases x with
  | bl c =>
    cases ev
    cases rv1
    exact ⟨_, rfl, k ρ1 H1 x1 rl1⟩
  | _ => cases ev
theorem r_tcmp {op : CmpOp} {f : OD} {r : L2.R2} {a b : Expr} {da db : ED} {pos : Pos} (ho : L2.OpR X (compareOp op) r) (hf : OkOp X.K cm f r) (ha : L2.PE X a (EvE X.K cm da)) (hb : L2.PE X b (EvE X.K cm db)) (hm : behindInMarks op b = false) : L2.PT X (.Compare a [op] [b] pos) (EvT X.K cm (tVal (eBin f da db))) :=
  PT_imp (L2.pt_cmpR ho ha hb hm) fun σ H Q h => ev_tval (fun _ _ _ => ev_bin hf) h
theorem r_tval {e : Expr} {d : ED} (h : L2.PE X e (EvE X.K cm d)) (he : ∀ whole, isTrue e X.env whole = (do let v ← whole; standAt e.pos; holding [v] (truthy v)) := by intro _; rfl) : L2.PT X e (EvT X.K cm (tVal d)) :=
  PT_imp (L2.pt_val h he) fun σ H Q q => ev_tval (fun _ _ _ z => z) q
theorem okI {f : OD} {g : Int → Int → PV} {g' : Int → Int → L2.V} {C : Int → Int → Prop} (h : ∀ x y A z A', f x y A = .ok z A' → ∃ i j, x = .int i ∧ y = .int j ∧ C i j ∧ z = g i j ∧ A' = A) (hg : ∀ ρ H i j, RV ρ H (g i j) (g' i j)) (K : PySem.W.Frag) (cm : Nat → Addr) : OkOp K cm f (L2.rI C g') :=
  fun ρ A H x y z A' vx vy Q rl rx ry ev k => by
    obtain ⟨i, j, rfl, rfl, hc, rfl, rfl⟩ := h _ _ _ _ _ ev
    cases rx; cases ry
    exact ⟨i, j, rfl, rfl, hc, k ρ H _ (Ext.refl _ _) rl (hg _ _ _ _)⟩
theorem okI0 {f : OD} {g : Int → Int → PV} {g' : Int → Int → L2.V} (h : ∀ x y A z A', f x y A = .ok z A' → ∃ i j, x = .int i ∧ y = .int j ∧ z = g i j ∧ A' = A) (hg : ∀ ρ H i j, RV ρ H (g i j) (g' i j)) (K : PySem.W.Frag) (cm : Nat → Addr) : OkOp K cm f (L2.rI0 g') :=
  fun ρ A H x y z A' vx vy Q rl rx ry ev k => by
    obtain ⟨i, j, rfl, rfl, rfl, rfl⟩ := h _ _ _ _ _ ev
    cases rx; cases ry
    exact ⟨i, j, rfl, rfl, k ρ H _ (Ext.refl _ _) rl (hg _ _ _ _)⟩
theorem ok_lt : OkOp X.K cm oLt (L2.rI0 fun i j => .bl (decide (i < j))) := okI0 (g := fun i j => .bl (decide (i < j))) (fun x y A z A' h => by cases x <;> cases y <;> first | (cases h; exact ⟨_, _, rfl, rfl, rfl, rfl⟩) | cases h) (fun _ _ _ _ => .bl _) _ _
theorem ok_le : OkOp X.K cm oLe (L2.rI0 fun i j => .bl (decide (i ≤ j))) := okI0 (g := fun i j => .bl (decide (i ≤ j))) (fun x y A z A' h => by cases x <;> cases y <;> first | (cases h; exact ⟨_, _, rfl, rfl, rfl, rfl⟩) | cases h) (fun _ _ _ _ => .bl _) _ _
theorem ok_mod : OkOp X.K cm oMod (L2.rI (fun _ j => 0 < j) fun i j => .int (i % j)) := okI (g := fun i j => .int (i % j)) (fun x y A z A' h => by
  cases x <;> cases y <;> first | (obtain ⟨c, h⟩ := guard_inv h; cases h; exact ⟨_, _, rfl, rfl, c, rfl, rfl⟩) | cases h) (fun _ _ _ _ => .int _) _ _
theorem ok_fdiv : OkOp X.K cm oFdiv (L2.rI L2.CDiv fun i j => .int (i / j)) := okI (g := fun i j => .int (i / j)) (fun x y A z A' h => by
  cases x <;> cases y <;> first | (obtain ⟨c, h⟩ := guard_inv h; cases h; exact ⟨_, _, rfl, rfl, c, rfl, rfl⟩) | cases h) (fun _ _ _ _ => .int _) _ _
theorem ok_mul : OkOp X.K cm oMul (L2.rI L2.CMul fun i j => .int (i * j)) := okI (g := fun i j => .int (i * j)) (fun x y A z A' h => by
  cases x <;> cases y <;> first | (obtain ⟨c, h⟩ := guard_inv h; cases h; exact ⟨_, _, rfl, rfl, c, rfl, rfl⟩) | cases h) (fun _ _ _ _ => .int _) _ _
end
end Ws
namespace Ws
open PySem
section
variable {K : PySem.W.Frag} {ρ : List Addr} {H : L2.Hp} {A : PHp} {n : Nat} {v : L2.V} {l : List PV}
theorem lst_read {cm : Nat → Addr} {A' : PHp} (rl : Rel K cm ρ A H) (r : RV ρ H (.ref n) v) (h : lstAt n A = .ok l A') : A' = A ∧ ∃ a xs, v = .ref a ∧ L2.SqL K H a xs ∧ RVs ρ H l xs := by
  cases r with
  | ref hn =>
    unfold lstAt at h
    rcases hA : A[n]? with _ | o
    · rw [hA] at h; cases h
    · have q := rl.obj n o _ hA hn
      cases o with
      | lst m => rw [hA] at h; cases h; obtain ⟨xs, h1, h2⟩ := q; exact ⟨rfl, _, xs, rfl, L2.SqL.of h1, h2⟩
      | ro m => rw [hA] at h; cases h; obtain ⟨xs, h1, h2⟩ := q; exact ⟨rfl, _, xs, rfl, h1.sq, h2⟩
      | dI m => rw [hA] at h; cases h
      | ins c m => rw [hA] at h; cases h
      | dT m => rw [hA] at h; cases h
      | exc c m => rw [hA] at h; cases h
theorem mut_read {cm : Nat → Addr} {A' : PHp} (rl : Rel K cm ρ A H) (r : RV ρ H (.ref n) v) (h : mutAt n A = .ok l A') : A' = A ∧ A[n]? = some (.lst l) ∧ ∃ a xs, v = .ref a ∧ ρ[n]? = some a ∧ H a = some (.lst xs) ∧ RVs ρ H l xs := by
  cases r with
  | ref hn =>
    unfold mutAt at h
    rcases hA : A[n]? with _ | o
    · rw [hA] at h; cases h
    · have q := rl.obj n o _ hA hn
      cases o with
      | lst m => rw [hA] at h; cases h; obtain ⟨xs, h1, h2⟩ := q; exact ⟨rfl, rfl, _, xs, rfl, hn, h1, h2⟩
      | ro m => rw [hA] at h; cases h
      | dI m => rw [hA] at h; cases h
      | ins c m => rw [hA] at h; cases h
      | dT m => rw [hA] at h; cases h
      | exc c m => rw [hA] at h; cases h
theorem seq_read {cm : Nat → Addr} {x : PV} {A' : PHp} (rl : Rel K cm ρ A H) (r : RV ρ H x v) (h : seqOf x A = .ok l A') : A' = A ∧ ∃ a xs, v = .ref a ∧ (L2.SqL K H a xs ∨ L2.SqT K H a xs) ∧ RVs ρ H l xs := by
  cases x with
  | ref n =>
    obtain ⟨e, a, xs, h1, h2, h3⟩ := lst_read rl r h
    exact ⟨e, a, xs, h1, .inl h2, h3⟩
  | tup m =>
    cases h
    cases r with
    | tup h1 h2 => exact ⟨rfl, _, _, rfl, .inr (L2.SqT.of h1), h2⟩
  | _ => cases h
theorem atI_eq {α : Type} (xs : List α) (i : Int) : L2.atI xs i = atI xs i := rfl
theorem RVs.at {xs : List L2.V} {i : Int} {x : PV} (r : RVs ρ H l xs) (h : atI l i = some x) : ∃ u, L2.atI xs i = some u ∧ RV ρ H x u := by
  rw [atI_eq]
  unfold atI at h ⊢
  rw [← r.length]
  rcases e : ixN l.length i with _ | j
  · rw [e] at h; cases h
  · rw [e] at h
    obtain ⟨u, h1, h2⟩ := r.get (i := j) h
    exact ⟨u, h1, h2⟩
theorem cutIx_eq (n d : Nat) (o : Option Int) : HT.sIx n d o = cutIx n d o := by
  cases o with
  | none => rfl
  | some v =>
    have e := HT.clip_eq v n d
    show HT.sIx n d (some v) = if v < 0 then (max (v + n) 0).toNat else (min v n).toNat
    by_cases h : v < 0
    · rw [if_pos h] at e ⊢; omega
    · rw [if_neg h] at e ⊢; omega
theorem RVs.slc {xs : List L2.V} (r : RVs ρ H l xs) (lo hi : Option Int) : RVs ρ H (cut l lo hi) (L2.cutV xs lo hi) := by
  unfold cut L2.cutV
  rw [cutIx_eq, cutIx_eq, ← r.length]
  exact (r.drop _).take _
end
theorem LIM_line {n : Nat} (h : n ≤ LIM) : n ≤ sizeLine := Nat.le_trans h (by unfold LIM; rw [sizeLine_eq]; decide)
theorem LIM_lt {n : Nat} (h : n < LIM) : n < sizeLine := Nat.lt_of_lt_of_le h (by unfold LIM; rw [sizeLine_eq]; decide)
section
variable {X : L2.Cx} {cm : Nat → Addr}
noncomputable def rAdd3 (K : PySem.W.Frag) : L2.R2 := fun x y H Q => (∃ i j, x = .int i ∧ y = .int j ∧ Q (.int (i + j)) H) ∨ (L2.rCatT K x y H Q ∨ L2.rCat x y H Q)
theorem op_add3 : L2.OpR X (binaryOp .Add) (rAdd3 X.K) := L2.op_add.or (L2.op_catT.or L2.op_cat)
theorem ok_add : OkOp X.K cm oAdd (rAdd3 X.K) := fun ρ A H x y z A' vx vy Q rl rx ry ev k => by
  cases x with
  | int i =>
    cases y with
    | int j => cases ev; cases rx; cases ry; exact .inl ⟨i, j, rfl, rfl, k ρ H _ (Ext.refl _ _) rl (.int _)⟩
    | _ => cases ev
  | tup l =>
    cases y with
    | tup m =>
      obtain ⟨c, ev⟩ := guard_inv ev
      cases ev
      cases rx with
      | tup h1 r1 =>
        cases ry with
        | tup h2 r2 =>
          refine .inr (.inl ⟨_, _, _, _, rfl, rfl, L2.SqT.of h1, L2.SqT.of h2, ?_, ?_, ?_⟩)
          · intro e; subst e; have := r1.length; exact c.1 (List.length_eq_zero_iff.mp (by simpa using this))
          · rw [← r1.length, ← r2.length]; exact LIM_line c.2
          · refine ⟨fun z => ?_, fun _ p hp => ?_⟩
            · subst z
              cases r2
              refine k ρ H _ (Ext.refl _ _) rl ?_
              rw [List.append_nil]; exact .tup h1 r1
            · refine k ρ _ _ (Ext.same hp) (rl.tup hp) (.tup L2.upd_same ?_)
              exact (r1.mono (Ext.same hp)).append (r2.mono (Ext.same hp))
    | _ => cases ev
  | ref n =>
    cases y with
    | ref m =>
      obtain ⟨l1, A1, e1, ev1⟩ := bnd_inv ev
      obtain ⟨rfl, _, a, xs, rfl, _, ha, r1⟩ := mut_read rl rx e1
      obtain ⟨l2, A2, e2, ev2⟩ := bnd_inv ev1
      obtain ⟨rfl, _, b, ys, rfl, _, hb, r2⟩ := mut_read rl ry e2
      obtain ⟨c, ev3⟩ := guard_inv ev2
      cases ev3
      refine .inr (.inr ⟨a, b, xs, ys, rfl, rfl, ha, hb, ?_, fun p hp => ?_⟩)
      · rw [← r1.length, ← r2.length]; exact LIM_line c
      · have e : Ext ρ H (ρ ++ [p]) (L2.upd H p (.lst (xs ++ ys))) := Ext.new hp
        exact k (ρ ++ [p]) _ _ e (rl.alloc hp ⟨_, L2.upd_same, (r1.mono e).append (r2.mono e)⟩ rfl) (.ref (by rw [← rl.len]; simp))
    | _ => cases ev
  | _ => cases y <;> cases ev
noncomputable def rIx2 (K : PySem.W.Frag) : L2.R2 := fun x y H Q => L2.rIxL K x y H Q ∨ L2.rIxT K x y H Q
theorem ix2 : L2.IxR X (rIx2 X.K) := L2.ix_list.or L2.ix_tup
theorem ok_ix : OkOp X.K cm oIx (rIx2 X.K) := fun ρ A H x y z A' vx vy Q rl rx ry ev k => by
  cases y with
  | int i =>
    obtain ⟨l, A1, e1, ev1⟩ := bnd_inv ev
    obtain ⟨rfl, a, xs, rfl, hs, rs⟩ := seq_read rl rx e1
    rcases hi : atI l i with _ | u
    · rw [hi] at ev1; cases ev1
    · rw [hi] at ev1
      cases ev1
      cases ry
      obtain ⟨w, hw, rw'⟩ := rs.at hi
      rcases hs with hs | hs
      · exact .inl ⟨a, xs, i, w, rfl, rfl, hs, hw, k ρ H w (Ext.refl _ _) rl rw'⟩
      · exact .inr ⟨a, xs, i, w, rfl, rfl, hs, hw, k ρ H w (Ext.refl _ _) rl rw'⟩
  | _ => cases ev
theorem r_ix {a b : Expr} {da db : ED} {pos : Pos} (ha : L2.PE X a (EvE X.K cm da)) (hb : L2.PE X b (EvE X.K cm db)) (hs : L2.PlainIx b) : L2.PE X (.Subscript a b pos) (EvE X.K cm (eBin oIx da db)) :=
  PE_imp (L2.pe_ix ix2 ha hb hs) fun σ H Q h => ev_bin ok_ix h
theorem isNon_of {ρ : List Addr} {H : L2.Hp} {x : PV} {v : L2.V} (r : RV ρ H x v) : decide (v = .non) = isNon x := by
  cases r <;> simp [isNon]
theorem r_tisN {a : Expr} {da : ED} {j : Nat} {pos pos' : Pos} (ha : L2.PE X a (EvE X.K cm da)) : L2.PT X (.Compare a [.Is] [.Constant .none j pos'] pos) (EvT X.K cm (tVal (eIsN da))) :=
  PT_imp (L2.pt_cmp (L2.pc_isN ha)) fun σ H Q q => ev_tval (t := L2.tIsN (EvE X.K cm da)) (fun σ H Q ⟨ρ, A, σp, v, A', rl, rs, ev, k⟩ => by
    obtain ⟨x, A1, e1, ev⟩ := bnd_inv ev
    cases ev
    exact ⟨ρ, A, σp, x, A', rl, rs, e1, fun ρ1 H1 v1 x1 rl1 rv1 => k ρ1 H1 _ x1 rl1 (by rw [isNon_of rv1]; exact .bl _)⟩) q
theorem ev_chain {f g : OD} {r r' : L2.R2} {a b c : ED} (hf : OkOp X.K cm f r) (hg : OkOp X.K cm g r') {σ : L2.St} {H : L2.Hp} {Q : L2.VK} (h : EvE X.K cm (eChain f g a b c) σ H Q) : L2.tChain r r' (EvE X.K cm a) (EvE X.K cm b) (EvE X.K cm c) σ H Q := by
  obtain ⟨ρ, A, σp, z, A', rl, rs, ev, k⟩ := h
  obtain ⟨x, A1, e1, ev⟩ := bnd_inv ev
  obtain ⟨y, A2, e2, ev⟩ := bnd_inv ev
  obtain ⟨m, A3, e3, ev⟩ := bnd_inv ev
  refine ⟨ρ, A, σp, x, A1, rl, rs, e1, fun ρ1 H1 vx x1 rl1 rv1 => ⟨ρ1, A1, σp, y, A2, rl1, rs.mono x1, e2, fun ρ2 H2 vy x2 rl2 rv2 => hf ρ2 A2 H2 x y m A3 vx vy _ rl2 (rv1.mono x2) rv2 e3 fun ρ3 H3 v3 x3 rl3 rv3 => ?_⟩⟩
  have x13 := (x1.trans x2).trans x3
  cases m with
  | bl t =>
    cases rv3
    refine ⟨t, rfl, ?_⟩
    cases t with
    | true =>
      rw [if_pos rfl]
      obtain ⟨u, A4, e4, ev⟩ := bnd_inv ev
      exact ⟨ρ3, A3, σp, u, A4, rl3, rs.mono x13, e4, fun ρ4 H4 v4 x4 rl4 rv4 => hg ρ4 A4 H4 y u z A' vy v4 Q rl4 ((rv2.mono x3).mono x4) rv4 ev fun ρ5 H5 v5 x5 rl5 rv5 => k ρ5 H5 v5 ((x13.trans x4).trans x5) rl5 rv5⟩
    | false =>
      rw [if_neg (by simp)]
      cases ev
      exact k ρ3 H3 _ x13 rl3 (.bl false)
  | _ => cases ev
theorem r_tchain {op op' : CmpOp} {f g : OD} {r r' : L2.R2} {a b c : Expr} {da db dc : ED} {pos : Pos} (ho : L2.OpR X (compareOp op) r) (hf : OkOp X.K cm f r) (ho' : L2.OpR X (compareOp op') r') (hg : OkOp X.K cm g r')
    (ha : L2.PE X a (EvE X.K cm da)) (hb : L2.PE X b (EvE X.K cm db)) (hc : L2.PE X c (EvE X.K cm dc)) (hm : lastMarks [op, op'] [b, c] = false := by with_unfolding_all rfl) : L2.PT X (.Compare a [op, op'] [b, c] pos) (EvT X.K cm (tVal (eChain f g da db dc))) :=
  PT_imp (L2.pt_chain ho ho' ha hb hc hm) fun σ H Q h => ev_tval (fun _ _ _ => ev_chain hf hg) h
theorem r_tnot {a : Expr} {t : TD} {pos : Pos} (h : L2.PT X a (EvT X.K cm t)) : L2.PT X (.UnaryOp .Not a pos) (EvT X.K cm (tNot t)) := PT_imp (L2.pt_not h) fun σ H Q ⟨ρ, A, σp, b, A', rl, rs, ev, k⟩ => by
  obtain ⟨c, A1, e1, ev⟩ := bnd_inv ev
  cases ev
  exact ⟨ρ, A, σp, c, A', rl, rs, e1, fun ρ1 H1 x1 rl1 => k ρ1 H1 x1 rl1⟩
theorem r_tand1 {a : Expr} {t : TD} {pos : Pos} (h : L2.PT X a (EvT X.K cm t)) : L2.PW X (.BoolOp .And [a] pos) (EvT X.K cm t) := L2.pw_and1 h
theorem r_tor1 {a : Expr} {t : TD} {pos : Pos} (h : L2.PT X a (EvT X.K cm t)) : L2.PW X (.BoolOp .Or [a] pos) (EvT X.K cm t) := L2.pw_or1 h
theorem r_tand {a b : Expr} {rest : List Expr} {t u : TD} {pos : Pos} (ha : L2.PT X a (EvT X.K cm t)) (hb : L2.PW X (.BoolOp .And (b :: rest) pos) (EvT X.K cm u)) : L2.PW X (.BoolOp .And (a :: b :: rest) pos) (EvT X.K cm (tAnd t u)) :=
  PW_imp (L2.pw_and ha hb) fun σ H Q ⟨ρ, A, σp, z, A', rl, rs, ev, k⟩ => by
    obtain ⟨c, A1, e1, ev⟩ := bnd_inv ev
    refine ⟨ρ, A, σp, c, A1, rl, rs, e1, fun ρ1 H1 x1 rl1 => ?_⟩
    cases c with
    | true => rw [if_pos rfl] at ev ⊢; exact ⟨ρ1, A1, σp, z, A', rl1, rs.mono x1, ev, fun ρ2 H2 x2 rl2 => k ρ2 H2 (x1.trans x2) rl2⟩
    | false => rw [if_neg (by simp)] at ev ⊢; cases ev; exact k ρ1 H1 x1 rl1
theorem r_tor {a b : Expr} {rest : List Expr} {t u : TD} {pos : Pos} (ha : L2.PT X a (EvT X.K cm t)) (hb : L2.PW X (.BoolOp .Or (b :: rest) pos) (EvT X.K cm u)) : L2.PW X (.BoolOp .Or (a :: b :: rest) pos) (EvT X.K cm (tOr t u)) :=
  PW_imp (L2.pw_or ha hb) fun σ H Q ⟨ρ, A, σp, z, A', rl, rs, ev, k⟩ => by
    obtain ⟨c, A1, e1, ev⟩ := bnd_inv ev
    refine ⟨ρ, A, σp, c, A1, rl, rs, e1, fun ρ1 H1 x1 rl1 => ?_⟩
    cases c with
    | true => rw [if_pos rfl] at ev ⊢; cases ev; exact k ρ1 H1 x1 rl1
    | false => rw [if_neg (by simp)] at ev ⊢; exact ⟨ρ1, A1, σp, z, A', rl1, rs.mono x1, ev, fun ρ2 H2 x2 rl2 => k ρ2 H2 (x1.trans x2) rl2⟩
theorem asB_inv {x : PV} {A A' : PHp} {c : Bool} (h : asB x A = .ok c A') : x = .bl c ∧ A' = A := by
  cases x with
  | bl b => cases h; exact ⟨rfl, rfl⟩
  | _ => cases h
theorem r_and1 {a : Expr} {d : ED} {pos : Pos} (h : L2.PE X a (EvE X.K cm d)) : L2.PE X (.BoolOp .And [a] pos) (EvE X.K cm d) := L2.pe_one h
theorem r_or1 {a : Expr} {d : ED} {pos : Pos} (h : L2.PE X a (EvE X.K cm d)) : L2.PE X (.BoolOp .Or [a] pos) (EvE X.K cm d) := L2.pe_one h
theorem r_and {a b : Expr} {rest : List Expr} {d u : ED} {pos : Pos} (ha : L2.PE X a (EvE X.K cm d)) (hb : L2.PE X (.BoolOp .And (b :: rest) pos) (EvE X.K cm u)) : L2.PE X (.BoolOp .And (a :: b :: rest) pos) (EvE X.K cm (eAnd d u)) :=
  PE_imp (L2.pe_and ha hb) fun σ H Q ⟨ρ, A, σp, z, A', rl, rs, ev, k⟩ => by
    obtain ⟨c, A1, e1, ev⟩ := bnd_inv ev
    obtain ⟨x, A0, e0, e1⟩ := bnd_inv e1
    obtain ⟨rfl, rfl⟩ := asB_inv e1
    refine ⟨ρ, A, σp, _, _, rl, rs, e0, fun ρ1 H1 v1 x1 rl1 rv1 => ?_⟩
    cases rv1
    refine ⟨c, rfl, ?_⟩
    cases c with
    | true => rw [if_pos rfl] at ev ⊢; exact ⟨ρ1, _, σp, z, A', rl1, rs.mono x1, ev, fun ρ2 H2 v2 x2 rl2 => k ρ2 H2 v2 (x1.trans x2) rl2⟩
    | false => rw [if_neg (by simp)] at ev ⊢; cases ev; exact k ρ1 H1 _ x1 rl1 (.bl false)
theorem r_or {a b : Expr} {rest : List Expr} {d u : ED} {pos : Pos} (ha : L2.PE X a (EvE X.K cm d)) (hb : L2.PE X (.BoolOp .Or (b :: rest) pos) (EvE X.K cm u)) : L2.PE X (.BoolOp .Or (a :: b :: rest) pos) (EvE X.K cm (eOr d u)) :=
  PE_imp (L2.pe_or ha hb) fun σ H Q ⟨ρ, A, σp, z, A', rl, rs, ev, k⟩ => by
    obtain ⟨c, A1, e1, ev⟩ := bnd_inv ev
    obtain ⟨x, A0, e0, e1⟩ := bnd_inv e1
    obtain ⟨rfl, rfl⟩ := asB_inv e1
    refine ⟨ρ, A, σp, _, _, rl, rs, e0, fun ρ1 H1 v1 x1 rl1 rv1 => ?_⟩
    cases rv1
    refine ⟨c, rfl, ?_⟩
    cases c with
    | true => rw [if_pos rfl] at ev ⊢; cases ev; exact k ρ1 H1 _ x1 rl1 (.bl true)
    | false => rw [if_neg (by simp)] at ev ⊢; exact ⟨ρ1, _, σp, z, A', rl1, rs.mono x1, ev, fun ρ2 H2 v2 x2 rl2 => k ρ2 H2 v2 (x1.trans x2) rl2⟩
theorem r_if {c a b : Expr} {t : TD} {d u : ED} {pos : Pos} (hc : L2.PT X c (EvT X.K cm t)) (ha : L2.PE X a (EvE X.K cm d)) (hb : L2.PE X b (EvE X.K cm u)) : L2.PE X (.IfExp c a b pos) (EvE X.K cm (eIf t d u)) :=
  PE_imp (L2.pe_ifExp hc ha hb) fun σ H Q ⟨ρ, A, σp, z, A', rl, rs, ev, k⟩ => by
    obtain ⟨c, A1, e1, ev⟩ := bnd_inv ev
    refine ⟨ρ, A, σp, c, A1, rl, rs, e1, fun ρ1 H1 x1 rl1 => ?_⟩
    cases c with
    | true => rw [if_pos rfl] at ev ⊢; exact ⟨ρ1, A1, σp, z, A', rl1, rs.mono x1, ev, fun ρ2 H2 v2 x2 rl2 => k ρ2 H2 v2 (x1.trans x2) rl2⟩
    | false => rw [if_neg (by simp)] at ev ⊢; exact ⟨ρ1, A1, σp, z, A', rl1, rs.mono x1, ev, fun ρ2 H2 v2 x2 rl2 => k ρ2 H2 v2 (x1.trans x2) rl2⟩
theorem r_nil : L2.PA X [] (EvA X.K cm aNil) := PA_imp L2.pa_nil fun σ H Q ⟨ρ, A, σp, vs, A', rl, rs, ev, k⟩ => by
  cases ev
  exact k ρ H [] (Ext.refl _ _) rl .nil
theorem r_cons {e : Expr} {es : List Expr} {d : ED} {ds : AD} (h : L2.PE X e (EvE X.K cm d)) (hr : L2.PA X es (EvA X.K cm ds)) (hs : starEach (e :: es) X.env = (false, eval e X.env) :: starEach es X.env := by exact star_c rfl) : L2.PA X (e :: es) (EvA X.K cm (aCons d ds)) :=
  PA_imp (L2.pa_cons h hr hs) fun σ H Q ⟨ρ, A, σp, vs, A', rl, rs, ev, k⟩ => by
    obtain ⟨x, A1, e1, ev⟩ := bnd_inv ev
    obtain ⟨xs, A2, e2, ev⟩ := bnd_inv ev
    cases ev
    exact ⟨ρ, A, σp, x, A1, rl, rs, e1, fun ρ1 H1 v1 x1 rl1 rv1 => ⟨ρ1, A1, σp, xs, A', rl1, rs.mono x1, e2, fun ρ2 H2 vs2 x2 rl2 rv2 => k ρ2 H2 _ (x1.trans x2) rl2 (.cons (rv1.mono x2) rv2)⟩⟩
theorem r_tup {es : List Expr} {ds : AD} {x1 : Nat} {pos : Pos} (h : L2.PA X es (EvA X.K cm ds)) : L2.PE X (.Tuple es x1 pos) (EvE X.K cm (eTup ds)) :=
  PE_imp (L2.pe_tup h) fun σ H Q ⟨ρ, A, σp, v, A', rl, rs, ev, k⟩ => by
    obtain ⟨xs, A1, e1, ev⟩ := bnd_inv ev
    obtain ⟨c, ev⟩ := guard_inv ev
    cases ev
    refine ⟨ρ, A, σp, xs, A', rl, rs, e1, fun ρ1 H1 vs1 x1 rl1 rv1 => ⟨by rw [← rv1.length]; exact LIM_line c, fun p hp => ?_⟩⟩
    have e : Ext ρ1 H1 ρ1 (L2.upd H1 p (.tup vs1)) := Ext.same hp
    exact k ρ1 _ _ (x1.trans e) (rl1.tup hp) (.tup L2.upd_same (rv1.mono e))
theorem r_lst {es : List Expr} {ds : AD} {pos : Pos} (h : L2.PA X es (EvA X.K cm ds)) : L2.PE X (.List es pos) (EvE X.K cm (eLst ds)) :=
  PE_imp (L2.pe_lst h) fun σ H Q ⟨ρ, A, σp, v, A', rl, rs, ev, k⟩ => by
    obtain ⟨xs, A1, e1, ev⟩ := bnd_inv ev
    obtain ⟨c, ev⟩ := guard_inv ev
    cases ev
    refine ⟨ρ, A, σp, xs, A1, rl, rs, e1, fun ρ1 H1 vs1 x1 rl1 rv1 => ⟨by rw [← rv1.length]; exact LIM_line c, fun p hp => ?_⟩⟩
    have e : Ext ρ1 H1 (ρ1 ++ [p]) (L2.upd H1 p (.lst vs1)) := Ext.new hp
    exact k (ρ1 ++ [p]) _ _ (x1.trans e) (rl1.alloc hp ⟨_, L2.upd_same, rv1.mono e⟩ rfl) (.ref (by rw [← rl1.len]; simp))
end
end Ws
namespace Ws
open PySem
section
variable {X : L2.Cx} {cm : Nat → Addr}
noncomputable def EvL (K : PySem.W.Frag) (cm : Nat → Addr) (d : LD) : L2.TO := fun σ H Q => ∃ (ρ : List Addr) (A : PHp) (σp : PSt) (v : Option Int) (A' : PHp), Rel K cm ρ A H ∧ RSt ρ H σp σ ∧ d σp A = .ok v A' ∧
  ∀ ρ' H', Ext ρ H ρ' H' → Rel K cm ρ' A' H' → Q v H'
theorem PO_imp {e : Option Expr} {t t' : L2.TO} (h : L2.PO X e t) (k : ∀ σ H Q, t' σ H Q → t σ H Q) : L2.PO X e t' := fun pins s σ H Q I q => h pins s σ H Q I (k σ H Q q)
theorem r_lno : L2.PO X none (EvL X.K cm lNo) := PO_imp L2.po_none fun σ H Q ⟨ρ, A, σp, v, A', rl, rs, ev, k⟩ => by
  cases ev; exact k ρ H (Ext.refl _ _) rl
theorem r_lat {e : Expr} {d : ED} (h : L2.PE X e (EvE X.K cm d)) : L2.PO X (some e) (EvL X.K cm (lAt d)) := PO_imp (L2.po_some h) fun σ H Q ⟨ρ, A, σp, v, A', rl, rs, ev, k⟩ => by
  obtain ⟨x, A1, e1, ev1⟩ := bnd_inv ev
  refine ⟨ρ, A, σp, x, A1, rl, rs, e1, fun ρ1 H1 v1 x1 rl1 rv1 => ?_⟩
  cases x with
  | int i => cases ev1; cases rv1; exact ⟨i, rfl, k ρ1 H1 x1 rl1⟩
  | _ => cases ev1
theorem r_cut {e : Expr} {lo hi : Option Expr} {d : ED} {dl dh : LD} {p2 pos : Pos} (he : L2.PE X e (EvE X.K cm d)) (hl : L2.PO X lo (EvL X.K cm dl)) (hu : L2.PO X hi (EvL X.K cm dh)) : L2.PE X (.Subscript e (.Slice lo hi none p2) pos) (EvE X.K cm (eCut d dl dh)) :=
  PE_imp (L2.pe_slice (L2.sl_list.or L2.sl_tup) he hl hu) fun σ H Q ⟨ρ, A, σp, v, A', rl, rs, ev, k⟩ => by
    obtain ⟨x, A1, e1, ev1⟩ := bnd_inv ev
    obtain ⟨l, A2, e2, ev2⟩ := bnd_inv ev1
    obtain ⟨h, A3, e3, ev3⟩ := bnd_inv ev2
    refine ⟨ρ, A, σp, x, A1, rl, rs, e1, fun ρ1 H1 v1 x1 rl1 rv1 => ⟨ρ1, A1, σp, l, A2, rl1, rs.mono x1, e2, fun ρ2 H2 x2 rl2 => ⟨ρ2, A2, σp, h, A3, rl2, (rs.mono x1).mono x2, e3, fun ρ3 H3 x3 rl3 => ?_⟩⟩⟩
    have x13 := (x1.trans x2).trans x3
    have rv3 := rv1.mono (x2.trans x3)
    cases x with
    | ref n =>
      obtain ⟨xs, A4, e4, ev4⟩ := bnd_inv ev3
      obtain ⟨rfl, a, vs, rfl, hs, r⟩ := lst_read rl3 rv3 e4
      cases ev4
      refine .inl ⟨a, vs, rfl, hs, fun p hp => ?_⟩
      have e : Ext ρ3 H3 (ρ3 ++ [p]) (L2.upd H3 p (.lst (L2.cutV vs l h))) := Ext.new hp
      exact k (ρ3 ++ [p]) _ _ (x13.trans e) (rl3.alloc hp ⟨_, L2.upd_same, (r.slc l h).mono e⟩ rfl) (.ref (by rw [← rl3.len]; simp))
    | tup xs =>
      obtain ⟨c, ev4⟩ := guard_inv ev3
      cases ev4
      cases rv3 with
      | tup ha r =>
        refine .inr ⟨_, _, rfl, L2.SqT.of ha, by rw [cutIx_eq, cutIx_eq, ← r.length]; exact c, fun p hp => ?_⟩
        exact k ρ3 _ _ (x13.trans (Ext.same hp)) (rl3.tup hp) (.tup L2.upd_same ((r.slc l h).mono (Ext.same hp)))
    | _ => cases ev3
theorem ev_one {d : ED} {f : PV → M PV} {r : List L2.V → L2.Hp → L2.VK → Prop} {e : ED} (he : ∀ σ, e σ = bnd (d σ) f)
    (hf : ∀ ρ A H x z A' v (Q : L2.VK), Rel X.K cm ρ A H → RV ρ H x v → f x A = .ok z A' → (∀ ρ' H' v', Ext ρ H ρ' H' → Rel X.K cm ρ' A' H' → RV ρ' H' z v' → Q v' H') → r [v] H Q)
    {σ : L2.St} {H : L2.Hp} {Q : L2.VK} (h : EvE X.K cm e σ H Q) : L2.tCB r (EvA X.K cm (aCons d aNil)) σ H Q := by
  obtain ⟨ρ, A, σp, z, A', rl, rs, ev, k⟩ := h
  rw [he] at ev
  obtain ⟨x, A1, e1, ev1⟩ := bnd_inv ev
  refine ⟨ρ, A, σp, [x], A1, rl, rs, by show bnd (d σp) _ A = _; rw [bnd_ok e1]; rfl, fun ρ1 H1 vs1 x1 rl1 rv1 => ?_⟩
  cases rv1 with
  | cons hv hr =>
    cases hr
    exact hf ρ1 A1 H1 x z A' _ Q rl1 hv ev1 fun ρ2 H2 v2 x2 rl2 rv2 => k ρ2 H2 v2 (x1.trans x2) rl2 rv2
theorem r_len {e : Expr} {d : ED} {p pos : Pos} (he : L2.PE X e (EvE X.K cm d)) (hg : L2.Gl X "len") (hm : X.mg "len" = none) (hs : starEach [e] X.env = (false, eval e X.env) :: starEach [] X.env := by exact star_c rfl) : L2.PE X (.Call (.Name "len" p) [e] [] pos) (EvE X.K cm (eLen d)) :=
  PE_imp (L2.pe_callB L2.call_len_seq hg hm PySem.boot_len (r_cons he r_nil hs) (he := hs)) fun σ H Q h => ev_one (f := fun x => bnd (seqOf x) fun l => ret (.int l.length)) (fun _ => rfl) (fun ρ A H x z A' v Q rl rx ev k => by
    obtain ⟨l, A1, e1, ev1⟩ := bnd_inv ev
    obtain ⟨rfl, a, xs, rfl, hq, r⟩ := seq_read rl rx e1
    cases ev1
    exact ⟨a, xs, rfl, hq, k ρ H _ (Ext.refl _ _) rl (by rw [← r.length]; exact .int _)⟩) h
theorem r_listOf {e : Expr} {d : ED} {p pos : Pos} (he : L2.PE X e (EvE X.K cm d)) (hg : L2.Gl X "list") (hm : X.mg "list" = none) (hv : bootBuiltins "list" = some (.type "list")) (hs : starEach [e] X.env = (false, eval e X.env) :: starEach [] X.env := by exact star_c rfl) : L2.PE X (.Call (.Name "list" p) [e] [] pos) (EvE X.K cm (eListOf d)) :=
  PE_imp (L2.pe_callTy L2.call_list_of hg hm hv (r_cons he r_nil hs) (he := hs)) fun σ H Q h => ev_one (f := fun x => bnd (seqOf x) fun l => alloc (.lst l)) (fun _ => rfl) (fun ρ A H x z A' v Q rl rx ev k => by
    obtain ⟨l, A1, e1, ev1⟩ := bnd_inv ev
    obtain ⟨rfl, a, xs, rfl, hq, r⟩ := seq_read rl rx e1
    cases ev1
    refine ⟨a, xs, rfl, hq, fun p hp => ?_⟩
    have e : Ext ρ H (ρ ++ [p]) (L2.upd H p (.lst xs)) := Ext.new hp
    exact k (ρ ++ [p]) _ _ e (rl.alloc hp ⟨_, L2.upd_same, r.mono e⟩ rfl) (.ref (by rw [← rl.len]; simp))) h
end
end Ws
namespace Ws
open PySem
section
variable {X : L2.Cx} {cm : Nat → Addr}
theorem r_append {o e : Expr} {d u : ED} {apos cpos : Pos} (ho : L2.PE X o (EvE X.K cm d)) (he : L2.PE X e (EvE X.K cm u))
    (hb : attributeBase o "append" X.env (eval o X.env) = eval o X.env := by rfl) (hs : starEach [e] X.env = (false, eval e X.env) :: starEach [] X.env := by exact star_c rfl)
    (hfew : ((backTo cpos (starEach [e] X.env)).all (fun x => !x.1) && (backToKw cpos (keywordEach [] X.env)).all (fun x => x.1.isSome) && decide ([e].length + ([] : List Keyword).length + (if ([] : List Keyword).isEmpty then 0 else 1) < 30)) = true := by rfl)
    (hline : (apos.endLine == cpos.line) = true := by rfl) : L2.PE X (.Call (.Attribute o "append" apos) [e] [] cpos) (EvE X.K cm (eAppend d u)) :=
  PE_imp (L2.pe_bm PySem.F.plainAttrs_list PySem.F.slot_list_append PySem.F.type_list_append L2.mt_append ho (r_cons he r_nil hs) (hbase := hb) (hfew := hfew) (hline := hline) (hs := hs)) fun σ H Q ⟨ρ, A, σp, v, A', rl, rs, ev, k⟩ => by
    obtain ⟨x, A1, e1, ev1⟩ := bnd_inv ev
    refine ⟨ρ, A, σp, x, A1, rl, rs, e1, fun ρ1 H1 v1 x1 rl1 rv1 => ?_⟩
    cases x with
    | ref n =>
      obtain ⟨l0, A2, e2, ev2⟩ := bnd_inv ev1
      obtain ⟨rfl, hA, a, xs, rfl, hn, hH, r0⟩ := mut_read rl1 rv1 e2
      refine ⟨.inl ⟨rfl, xs, L2.SqL.of hH⟩, ?_⟩
      obtain ⟨y, A3, e3, ev3⟩ := bnd_inv ev2
      obtain ⟨l, A4, e4, ev4⟩ := bnd_inv ev3
      obtain ⟨c, ev5⟩ := guard_inv ev4
      cases ev5
      refine ⟨ρ1, _, σp, [y], A3, rl1, rs.mono x1, by show bnd (u σp) _ _ = _; rw [bnd_ok e3]; rfl, fun ρ2 H2 vs2 x2 rl2 rv2 => ?_⟩
      cases rv2 with
      | cons hv hr =>
        cases hr
        obtain ⟨rfl, hA2, a2, ys, e5, hn2, hH2, r2⟩ := mut_read rl2 (rv1.mono x2) e4
        cases e5
        refine ⟨a, ys, _, rfl, rfl, hH2, by rw [← r2.length]; exact LIM_lt c, ?_⟩
        refine k ρ2 _ _ ((x1.trans x2).trans (Ext.put rl2 hn2 hA2 rfl)) (rl2.put hn2 hA2 rfl rfl ⟨_, L2.upd_same, ?_⟩) .non
        exact (r2.mono (Ext.put rl2 hn2 hA2 rfl)).append (.cons (hv.mono (Ext.put rl2 hn2 hA2 rfl)) .nil)
    | _ => cases ev1
theorem g_name {i : Nat} {e : Expr} (h : L2.PG X e (L2.gName i)) : L2.PG X e (EvG X.K cm (gName i)) := PG_imp h fun v σ H Q ⟨ρ, A, σp, x, σp', A', rl, rs, rv, ev, k⟩ => by
  cases ev
  exact k ρ H _ (Ext.refl _ _) rl (rs.set i rv)
theorem g_nil : L2.PGs X [] (EvGs X.K cm gNil) := PGs_imp L2.pgs_nil fun vs σ H Q ⟨ρ, A, σp, xs, σp', A', rl, rs, rv, ev, k⟩ => by
  cases xs with
  | nil => cases ev; cases rv; exact ⟨rfl, k ρ H _ (Ext.refl _ _) rl rs⟩
  | cons y ys => cases ev
theorem g_cons {e : Expr} {es : List Expr} {g : GD} {r : GDs} (h1 : L2.PG X e (EvG X.K cm g)) (h2 : L2.PGs X es (EvGs X.K cm r)) (hs : (assignEach (e :: es) X.env).map (·.2) = assign e X.env :: (assignEach es X.env).map (·.2) := by rfl) : L2.PGs X (e :: es) (EvGs X.K cm (gCons g r)) :=
  PGs_imp (L2.pgs_cons h1 h2 hs) fun vs σ H Q ⟨ρ, A, σp, xs, σp', A', rl, rs, rv, ev, k⟩ => by
    cases xs with
    | nil => cases ev
    | cons y ys =>
      obtain ⟨σ1, A1, e1, ev1⟩ := bnd_inv ev
      cases rv with
      | cons hv hr =>
        exact ⟨_, _, rfl, ρ, A, σp, y, σ1, A1, rl, rs, hv, e1, fun ρ1 H1 σ' x1 rl1 rs1 => ⟨ρ1, A1, σ1, ys, σp', A', rl1, rs1, hr.mono x1, ev1, fun ρ2 H2 σ2 x2 rl2 rs2 => k ρ2 H2 σ2 (x1.trans x2) rl2 rs2⟩⟩
theorem g_tup {es : List Expr} {j n : Nat} {g : GDs} {pos : Pos} (hc : X.calm = true) (h : L2.PGs X es (EvGs X.K cm g)) (hn : (assignEach es X.env).length = n := by rfl) (hst : (assignEach es X.env).findIdx? (·.1) = none := by rfl) : L2.PG X (.Tuple es j pos) (EvG X.K cm (gTup n g)) :=
  PG_imp (L2.pg_tup hc h hn hst) fun v σ H Q ⟨ρ, A, σp, x, σp', A', rl, rs, rv, ev, k⟩ => by
    cases x with
    | tup l =>
      obtain ⟨c, ev1⟩ := guard_inv ev
      cases rv with
      | tup ha r => exact ⟨_, _, rfl, L2.SqT.of ha, by rw [← r.length]; exact c, ρ, A, σp, l, σp', A', rl, rs, r, ev1, k⟩
    | _ => cases ev
theorem s_never {st : Stmt} : L2.PS X st (EvS X.K cm sNever) := PS_imp L2.ps_never fun D σ H ⟨ρ, A, σp, f, A', rl, rs, ev, k⟩ => by cases ev
theorem ss_nil : L2.PSs X [] (EvS X.K cm sPass) := PSs_imp L2.pss_nil fun D σ H ⟨ρ, A, σp, f, A', rl, rs, ev, k⟩ => by
  cases ev; exact k ρ H (Ext.refl _ _) rl σ rs
theorem ss_one {st : Stmt} {s : SD} (h : L2.PS X st (EvS X.K cm s)) : L2.PSs X [st] (EvS X.K cm s) := L2.pss_one h
theorem ss_cons {st : Stmt} {rest : List Stmt} {s r : SD} (h1 : L2.PS X st (EvS X.K cm s)) (h2 : L2.PSs X rest (EvS X.K cm r)) : L2.PSs X (st :: rest) (EvS X.K cm (sSeq s r)) :=
  PSs_imp (L2.pss_cons h1 h2) fun D σ H ⟨ρ, A, σp, f, A', rl, rs, ev, k⟩ => by
    obtain ⟨o, A1, e1, ev1⟩ := bnd_inv ev
    refine ⟨ρ, A, σp, o, A1, rl, rs, e1, fun ρ1 H1 x1 rl1 => ?_⟩
    cases o with
    | nx σ1 => exact fun σ' rs' => ⟨ρ1, A1, σ1, f, A', rl1, rs', ev1, fun ρ2 H2 x2 rl2 => k ρ2 H2 (x1.trans x2) rl2⟩
    | rt v => cases ev1; exact fun v' rv => k ρ1 H1 x1 rl1 v' rv
    | bk σ1 => cases ev1; exact fun σ' rs' => k ρ1 H1 x1 rl1 σ' rs'
    | ct σ1 => cases ev1; exact fun σ' rs' => k ρ1 H1 x1 rl1 σ' rs'
theorem s_expr {e : Expr} {d : ED} {pos : Pos} (h : L2.PE X e (EvE X.K cm d)) (hs : swapsWith e none pos.line X.env = pure false := by rfl) : L2.PS X (.Expr e pos) (EvS X.K cm (sExpr d)) :=
  PS_imp (L2.ps_expr h hs) fun D σ H ⟨ρ, A, σp, f, A', rl, rs, ev, k⟩ => by
    obtain ⟨x, A1, e1, ev1⟩ := bnd_inv ev
    cases ev1
    exact ⟨ρ, A, σp, x, A', rl, rs, e1, fun ρ1 H1 v1 x1 rl1 rv1 => k ρ1 H1 x1 rl1 σ (rs.mono x1)⟩
theorem s_ret {e : Expr} {d : ED} {pos : Pos} (h : L2.PE X e (EvE X.K cm d)) : L2.PS X (.Return (some e) pos) (EvS X.K cm (sRet d)) :=
  PS_imp (L2.ps_ret h) fun D σ H ⟨ρ, A, σp, f, A', rl, rs, ev, k⟩ => by
    obtain ⟨x, A1, e1, ev1⟩ := bnd_inv ev
    cases ev1
    exact ⟨ρ, A, σp, x, A', rl, rs, e1, fun ρ1 H1 v1 x1 rl1 rv1 => k ρ1 H1 x1 rl1 v1 rv1⟩
theorem s_if {c : Expr} {a b : List Stmt} {t : TD} {s u : SD} {pos : Pos} (hc : L2.PT X c (EvT X.K cm t)) (ha : L2.PSs X a (EvS X.K cm s)) (hb : L2.PSs X b (EvS X.K cm u)) : L2.PS X (.If c a b pos) (EvS X.K cm (sIf t s u)) :=
  PS_imp (L2.ps_if hc ha hb) fun D σ H ⟨ρ, A, σp, f, A', rl, rs, ev, k⟩ => by
    obtain ⟨x, A1, e1, ev1⟩ := bnd_inv ev
    refine ⟨ρ, A, σp, x, A1, rl, rs, e1, fun ρ1 H1 x1 rl1 => ?_⟩
    cases x with
    | true => rw [if_pos rfl] at ev1 ⊢; exact ⟨ρ1, A1, σp, f, A', rl1, rs.mono x1, ev1, fun ρ2 H2 x2 rl2 => k ρ2 H2 (x1.trans x2) rl2⟩
    | false => rw [if_neg (by simp)] at ev1 ⊢; exact ⟨ρ1, A1, σp, f, A', rl1, rs.mono x1, ev1, fun ρ2 H2 x2 rl2 => k ρ2 H2 (x1.trans x2) rl2⟩
theorem ev_asg {d : ED} {g : GD} {te : L2.TE} {tg : L2.TG} (he : ∀ σ H Q, EvE X.K cm d σ H Q → te σ H Q) (hg : ∀ v σ H Q, EvG X.K cm g v σ H Q → tg v σ H Q) {D : L2.Ends} {σ : L2.St} {H : L2.Hp} (h : EvS X.K cm (sAsg d g) D σ H) : L2.tAsg te tg D σ H := by
  obtain ⟨ρ, A, σp, f, A', rl, rs, ev, k⟩ := h
  obtain ⟨x, A1, e1, ev1⟩ := bnd_inv ev
  obtain ⟨σ1, A2, e2, ev2⟩ := bnd_inv ev1
  cases ev2
  exact he _ _ _ ⟨ρ, A, σp, x, A1, rl, rs, e1, fun ρ1 H1 v1 x1 rl1 rv1 => hg _ _ _ _ ⟨ρ1, A1, σp, x, σ1, A', rl1, rs.mono x1, rv1, e2, fun ρ2 H2 σ2 x2 rl2 rs2 => k ρ2 H2 (x1.trans x2) rl2 σ2 rs2⟩⟩
theorem s_set {i : Nat} {x : Str} {e : Expr} {d : ED} {pos pos' : Pos} (hN : X.N.Nodup) (hi : X.N[i]? = some x) (hx : L2.Loc X.env.scope x) (he : L2.PE X e (EvE X.K cm d)) (hs : swapsWith e (some (.Name x pos')) pos.line X.env = pure false := by rfl)
    (hf : X.fn x = true ∨ X.env.scope.names.lookup x = some .local := by first | exact .inl rfl | exact .inr rfl | assumption) : L2.PS X (.Assign [.Name x pos'] e pos) (EvS X.K cm (sAsg d (gName i))) :=
  PS_imp (L2.ps_set hN hi hx he hs hf) fun D σ H h => ev_asg (fun _ _ _ z => z) (fun v σ H Q ⟨ρ, A, σp, x, σp', A', rl, rs, rv, ev, k⟩ => by
    cases ev
    exact k ρ H _ (Ext.refl _ _) rl (rs.set i rv)) h
end
end Ws
namespace Ws
open PySem
noncomputable def SpF (K : PySem.W.Frag) (cm : Nat → Addr) (f : Fun) (n : Nat) : L2.Sp := fun vs H Q _ => ∃ (ρ : List Addr) (A : PHp) (ps : List PV) (v : PV) (A' : PHp), Rel K cm ρ A H ∧ RVs ρ H ps vs ∧ ps.length = n ∧ f ps A = .ok v A' ∧
  ∀ ρ' H' v', Ext ρ H ρ' H' → Rel K cm ρ' A' H' → RV ρ' H' v v' → Q v' H'
theorem RSt.start0 {ρ : List Addr} {H : L2.Hp} {ps : List PV} {vs : List L2.V} {N : List Str} (r : RVs ρ H ps vs) : RSt ρ H (Ws.start N.length ps) (L2.start N vs) := by
  have hl := r.length
  refine ⟨by unfold Ws.start L2.start; simp [hl], fun i p hp => ?_⟩
  unfold Ws.start at hp
  by_cases hi : i < ps.length
  · rw [List.getElem?_append_left (by simpa using hi), List.getElem?_map] at hp
    rcases e : ps[i]? with _ | q
    · rw [e] at hp; cases hp
    · rw [e] at hp; cases hp
      obtain ⟨v, h1, h2⟩ := r.get e
      refine ⟨v, ?_, h2⟩
      unfold L2.start
      rw [List.getElem?_append_left (by simp; omega), List.getElem?_map, h1]; rfl
  · rw [List.getElem?_append_right (by simpa using hi), List.getElem?_replicate] at hp
    split at hp <;> cases hp
section
variable {P : Program} {w : World} {K : PySem.W.Frag} {mg : Str → Option Value} {base : Heap} {cm : Nat → Addr}
theorem fn_ok {x qual : Str} {st : Stmt} {f : Addr} {fd : FuncData} {N ps : List Str} {k : Nat} {s : SD} (F : L2.Fun K x qual st f fd) (S : L2.FnScope N ps (L2.defScope st))
    (hbody : ∀ (cdv : Value) (A : Around) (outer : List Env) (s0 : Shared) (H : L2.Hp) (E : L2.XK), L2.Room k (A.deeper (PyProof.Rows.envOfC qual (L2.defScope st) s0.heap.objs.size f cdv)) →
      L2.PSs (L2.cxOf L2.CX0 P w K mg base N qual (L2.defScope st) f cdv A outer s0 H E).nox (L2.defBody st) (EvS K cm s)) :
    L2.FnOk P w K mg base L2.CX0 (k + 1) f fd ps (SpF K cm (fn N.length ps.length s) ps.length) := by
  refine F.ok S (fun vs H Q E ⟨ρ, A, qs, v, A', rl, rv, hl, _, _⟩ => by rw [← rv.length]; exact hl) fun cdv A outer s0 H vs Q E hr h => ⟨_, hbody cdv A outer s0 H E hr, ?_⟩
  obtain ⟨ρ, B, qs, v, B', rl, rv, hl, ev, k⟩ := h
  obtain ⟨_, ev1⟩ := guard_inv ev
  obtain ⟨o, B1, e1, ev2⟩ := bnd_inv ev1
  refine ⟨ρ, B, Ws.start N.length qs, o, B1, rl, RSt.start0 rv, e1, fun ρ1 H1 x1 rl1 => ?_⟩
  cases o with
  | nx σ1 => cases ev2; exact fun σ' _ => k ρ1 H1 _ x1 rl1 .non
  | rt u => cases ev2; exact fun v' rv' => k ρ1 H1 v' x1 rl1 rv'
  | bk σ1 => cases ev2
  | ct σ1 => cases ev2
end
section
variable {X : L2.Cx} {cm : Nat → Addr}
theorem ev_call {f : Fun} {n : Nat} {ds : AD} (hn : ∀ vs A v A', f vs A = .ok v A' → vs.length = n) {σ : L2.St} {H : L2.Hp} {Q : L2.VK} (h : EvE X.K cm (eCall f ds) σ H Q) : L2.tCall (SpF X.K cm f n) [] L2.E0 (EvA X.K cm ds) σ H Q := by
  obtain ⟨ρ, A, σp, v, A', rl, rs, ev, k⟩ := h
  obtain ⟨xs, A1, e1, ev1⟩ := bnd_inv ev
  refine ⟨ρ, A, σp, xs, A1, rl, rs, e1, fun ρ1 H1 vs1 x1 rl1 rv1 => ?_⟩
  show SpF X.K cm f n (vs1 ++ []) H1 Q _
  rw [List.append_nil]
  exact ⟨ρ1, A1, xs, v, A', rl1, rv1, hn _ _ _ _ ev1, ev1, fun ρ2 H2 v2 x2 rl2 rv2 => k ρ2 H2 v2 (x1.trans x2) rl2 rv2⟩
theorem fn_len {n p : Nat} {s : SD} {vs : List PV} {A A' : PHp} {v : PV} (h : fn n p s vs A = .ok v A') : vs.length = p := (guard_inv h).1
theorem r_call {f : Fun} {n k : Nat} {fa : Addr} {fd : FuncData} {ps : List Str} {x : Str} {e : Expr} {es : List Expr} {ds : AD} {p pos : Pos} (F : L2.FnOk X.prog X.w X.K X.mg X.base L2.CX0 k fa fd ps (SpF X.K cm f n)) (hn : ∀ vs A v A', f vs A = .ok v A' → vs.length = n) (hr : L2.Room k X.A) (hg : L2.Gl X x) (hm : X.mg x = some (.ref fa)) (hk : PySem.W.keepIn X.K (.ref fa) = true) (hb : L2.Binds X.K fd ps [])
    (ha : L2.PA X (e :: es) (EvA X.K cm ds)) (hdb : (x == ("__debug__" : Str)) = false := by decide) (he : starEach (e :: es) X.env = (false, eval e X.env) :: starEach es X.env := by exact star_c rfl) (hpl : (backTo pos (starEach es X.env)).any (·.1) = false := by rfl) :
    L2.PE X (.Call (.Name x p) (e :: es) [] pos) (EvE X.K cm (eCall f ds)) :=
  PE_imp (L2.pe_call F hr hg hm hk hb .nil L2.pass0 ha hdb he hpl) fun σ H Q h => ev_call hn h
noncomputable def Ite (K : PySem.W.Frag) (a : Addr) : L2.It :=
  ⟨fun i H => ∃ xs x, L2.SqL K H a xs ∧ xs[i]? = some x, fun i H x H' => ∃ y p, (∀ xs, L2.SqL K H a xs → xs[i]? = some y) ∧ H p = none ∧ x = .ref p ∧ H' = L2.upd H p (.tup [.int i, y]), fun i H => ∃ xs, L2.SqL K H a xs ∧ xs.length ≤ i⟩
noncomputable def Itk (K : PySem.W.Frag) (k : Nat) (a : Addr) : L2.It :=
  ⟨fun i H => ∃ xs x, L2.SqL K H a xs ∧ xs[i]? = some x, fun i H x H' => ∃ y p, (∀ xs, L2.SqL K H a xs → xs[i]? = some y) ∧ H p = none ∧ x = .ref p ∧ H' = L2.upd H p (.tup [.int ((k + i : Nat) : Int), y]), fun i H => ∃ xs, L2.SqL K H a xs ∧ xs.length ≤ i⟩
noncomputable def Itf (vs : List L2.V) : L2.It := ⟨fun i _ => i < vs.length, fun i H x H' => H' = H ∧ vs[i]? = some x, fun i _ => vs.length ≤ i⟩
noncomputable def SqK (k : Bool) (K : PySem.W.Frag) (H : L2.Hp) (a : Addr) (xs : List L2.V) : Prop := match k with
  | true => L2.SqT K H a xs
  | false => L2.SqL K H a xs
noncomputable def kindOf : PV → Bool
  | .tup _ => true
  | _ => false
noncomputable def Itz (K : PySem.W.Frag) (k1 k2 : Bool) (a b : Addr) : L2.It :=
  ⟨fun i H => ∃ xs ys x y, SqK k1 K H a xs ∧ SqK k2 K H b ys ∧ xs[i]? = some x ∧ ys[i]? = some y,
   fun i H v H' => ∃ x y p, (∀ xs, SqK k1 K H a xs → xs[i]? = some x) ∧ (∀ ys, SqK k2 K H b ys → ys[i]? = some y) ∧ H p = none ∧ v = .ref p ∧ H' = L2.upd H p (.tup [x, y]),
   fun i H => ∃ xs ys, SqK k1 K H a xs ∧ SqK k2 K H b ys ∧ (xs.length ≤ i ∨ ys.length ≤ i)⟩
theorem seqk_read {K : PySem.W.Frag} {ρ : List Addr} {H : L2.Hp} {A : PHp} {l : List PV} {v : L2.V} {x : PV} {A' : PHp} (rl : Rel K cm ρ A H) (r : RV ρ H x v) (h : seqOf x A = .ok l A') : A' = A ∧ ∃ a xs, v = .ref a ∧ SqK (kindOf x) K H a xs ∧ RVs ρ H l xs := by
  cases x with
  | ref n =>
    obtain ⟨e, a, xs, h1, h2, h3⟩ := lst_read rl r h
    exact ⟨e, a, xs, h1, h2, h3⟩
  | tup m =>
    cases h
    cases r with
    | tup h1 h2 => exact ⟨rfl, _, _, rfl, L2.SqT.of h1, h2⟩
  | _ => cases h
noncomputable def RIt (K : PySem.W.Frag) (ρ : List Addr) (H : L2.Hp) : It → L2.It → Prop
  | .rng lo n, j => j = L2.Itr lo n
  | .lst m, j => ∃ a, ρ[m]? = some a ∧ j = L2.Itl K a
  | .tup l, j => ∃ a vs, H a = some (.tup vs) ∧ RVs ρ H l vs ∧ j = L2.Itt K a
  | .enm m, j => ∃ a, ρ[m]? = some a ∧ j = Ite K a
  | .fix l, j => ∃ vs, RVs ρ H l vs ∧ j = Itf vs
  | .zip x y, j => ∃ a b, RV ρ H x (.ref a) ∧ RV ρ H y (.ref b) ∧ j = Itz K (kindOf x) (kindOf y) a b
  | .enk k m, j => ∃ a, ρ[m]? = some a ∧ j = Itk K k a
theorem RIt.mono {K : PySem.W.Frag} {ρ ρ' : List Addr} {H H' : L2.Hp} {J : It} {j : L2.It} (h : RIt K ρ H J j) (e : Ext ρ H ρ' H') : RIt K ρ' H' J j := by
  cases J with
  | rng lo n => exact h
  | lst m => obtain ⟨a, h1, h2⟩ := h; exact ⟨a, pre_at e.pre h1, h2⟩
  | tup l => obtain ⟨a, vs, h1, h2, h3⟩ := h; exact ⟨a, vs, e.tup _ _ h1, h2.mono e, h3⟩
  | enm m => obtain ⟨a, h1, h2⟩ := h; exact ⟨a, pre_at e.pre h1, h2⟩
  | fix l => obtain ⟨vs, h1, h2⟩ := h; exact ⟨vs, h1.mono e, h2⟩
  | zip x y => obtain ⟨a, b, h1, h2, h3⟩ := h; exact ⟨a, b, h1.mono e, h2.mono e, h3⟩
  | enk k m => obtain ⟨a, h1, h2⟩ := h; exact ⟨a, pre_at e.pre h1, h2⟩
noncomputable def EvI (K : PySem.W.Frag) (cm : Nat → Addr) (d : ID) : L2.TI := fun σ H R => ∃ (ρ : List Addr) (A : PHp) (σp : PSt) (J : It) (A' : PHp), Rel K cm ρ A H ∧ RSt ρ H σp σ ∧ d σp A = .ok J A' ∧
  ∀ ρ' H' j, Ext ρ H ρ' H' → Rel K cm ρ' A' H' → RIt K ρ' H' J j → R j H'
noncomputable def ItemIs (K : PySem.W.Frag) (cm : Nat → Addr) (ρ : List Addr) (A : PHp) (H : L2.Hp) (j : L2.It) (i : Nat) : Option PV → Prop
  | none => j.stop i H
  | some v => j.go i H ∧ ∀ y H', j.yld i H y H' → Ext ρ H ρ H' ∧ Rel K cm ρ A H' ∧ RV ρ H' v y
theorem item_ok {K : PySem.W.Frag} {ρ : List Addr} {H : L2.Hp} {A A' : PHp} {J : It} {j : L2.It} {i : Nat} {x : Option PV} (rl : Rel K cm ρ A H) (rj : RIt K ρ H J j) (e : item J i A = .ok x A') :
    A' = A ∧ ItemIs K cm ρ A H j i x := by
  cases J with
  | rng lo n =>
    cases e
    cases rj
    refine ⟨rfl, ?_⟩
    by_cases h : i < n
    · show ItemIs K cm ρ A H _ i (if i < n then some (PV.int (lo + i)) else none)
      rw [if_pos h]
      refine ⟨h, fun y H' ⟨e1, e2⟩ => ?_⟩
      subst e1; subst e2
      exact ⟨Ext.refl _ _, rl, .int _⟩
    · show ItemIs K cm ρ A H _ i (if i < n then some (PV.int (lo + i)) else none)
      rw [if_neg h]
      exact Nat.le_of_not_lt h
  | fix l =>
    cases e
    obtain ⟨vs, r, rfl⟩ := rj
    refine ⟨rfl, ?_⟩
    rcases hi : l[i]? with _ | v
    · show vs.length ≤ i
      rw [← r.length]; exact List.getElem?_eq_none_iff.mp hi
    · obtain ⟨u, hu, rv⟩ := r.get hi
      refine ⟨(List.getElem?_eq_some_iff.mp hu).1, fun y H' ⟨e3, e4⟩ => ?_⟩
      subst e3
      rw [hu] at e4; cases e4
      exact ⟨Ext.refl _ _, rl, rv⟩
  | zip x y =>
    obtain ⟨a, b, ra, rb, rfl⟩ := rj
    obtain ⟨l, A1, e1, e2⟩ := bnd_inv e
    obtain ⟨rfl, a', xs, h1, q1, r1⟩ := seqk_read rl ra e1
    cases h1
    obtain ⟨m, A2, e3, e4⟩ := bnd_inv e2
    obtain ⟨rfl, b', ys, h2, q2, r2⟩ := seqk_read rl rb e3
    cases h2
    cases e4
    refine ⟨rfl, ?_⟩
    rcases hi : l[i]? with _ | u
    · exact ⟨xs, ys, q1, q2, .inl (by rw [← r1.length]; exact List.getElem?_eq_none_iff.mp hi)⟩
    · rcases hj : m[i]? with _ | v
      · exact ⟨xs, ys, q1, q2, .inr (by rw [← r2.length]; exact List.getElem?_eq_none_iff.mp hj)⟩
      · obtain ⟨u', hu, ru⟩ := r1.get hi
        obtain ⟨v', hv, rv⟩ := r2.get hj
        refine ⟨⟨xs, ys, u', v', q1, q2, hu, hv⟩, fun z H' ⟨x', y', p, g1, g2, g3, g4, g5⟩ => ?_⟩
        have g1 := g1 xs q1
        have g2 := g2 ys q2
        rw [hu] at g1; cases g1
        rw [hv] at g2; cases g2
        subst g4; subst g5
        exact ⟨Ext.same g3, rl.tup g3, .tup L2.upd_same (.cons (ru.mono (Ext.same g3)) (.cons (rv.mono (Ext.same g3)) .nil))⟩
  | lst m =>
    obtain ⟨a, ha, rfl⟩ := rj
    obtain ⟨l, A1, e1, e2⟩ := bnd_inv e
    obtain ⟨rfl, b, xs, hb, hs, r⟩ := lst_read rl (.ref ha) e1
    cases hb
    cases e2
    refine ⟨rfl, ?_⟩
    rcases hi : l[i]? with _ | v
    · exact ⟨xs, hs, by rw [← r.length]; exact List.getElem?_eq_none_iff.mp hi⟩
    · obtain ⟨u, hu, rv⟩ := r.get hi
      refine ⟨⟨xs, u, hs, hu⟩, fun y H' ⟨e3, e4⟩ => ?_⟩
      subst e3
      have := e4 xs hs
      rw [hu] at this; cases this
      exact ⟨Ext.refl _ _, rl, rv⟩
  | tup l =>
    obtain ⟨a, vs, ha, r, rfl⟩ := rj
    cases e
    refine ⟨rfl, ?_⟩
    rcases hi : l[i]? with _ | v
    · exact ⟨vs, L2.SqT.of ha, by rw [← r.length]; exact List.getElem?_eq_none_iff.mp hi⟩
    · obtain ⟨u, hu, rv⟩ := r.get hi
      refine ⟨⟨vs, u, L2.SqT.of ha, hu⟩, fun y H' ⟨e3, e4⟩ => ?_⟩
      subst e3
      have := e4 vs (L2.SqT.of ha)
      rw [hu] at this; cases this
      exact ⟨Ext.refl _ _, rl, rv⟩
  | enm m =>
    obtain ⟨a, ha, rfl⟩ := rj
    obtain ⟨l, A1, e1, e2⟩ := bnd_inv e
    obtain ⟨rfl, b, xs, hb, hs, r⟩ := lst_read rl (.ref ha) e1
    cases hb
    cases e2
    refine ⟨rfl, ?_⟩
    rcases hi : l[i]? with _ | v
    · exact ⟨xs, hs, by rw [← r.length]; exact List.getElem?_eq_none_iff.mp hi⟩
    · obtain ⟨u, hu, rv⟩ := r.get hi
      refine ⟨⟨xs, u, hs, hu⟩, fun y H' ⟨y', p, h2, h3, h4, h5⟩ => ?_⟩
      have h2 := h2 xs hs
      rw [hu] at h2; cases h2
      subst h4; subst h5
      exact ⟨Ext.same h3, rl.tup h3, .tup L2.upd_same (.cons (.int _) (.cons (rv.mono (Ext.same h3)) .nil))⟩
  | enk k m =>
    obtain ⟨a, ha, rfl⟩ := rj
    obtain ⟨l, A1, e1, e2⟩ := bnd_inv e
    obtain ⟨rfl, b, xs, hb, hs, r⟩ := lst_read rl (.ref ha) e1
    cases hb
    cases e2
    refine ⟨rfl, ?_⟩
    rcases hi : l[i]? with _ | v
    · exact ⟨xs, hs, by rw [← r.length]; exact List.getElem?_eq_none_iff.mp hi⟩
    · obtain ⟨u, hu, rv⟩ := r.get hi
      refine ⟨⟨xs, u, hs, hu⟩, fun y H' ⟨y', p, h2, h3, h4, h5⟩ => ?_⟩
      have h2 := h2 xs hs
      rw [hu] at h2; cases h2
      subst h4; subst h5
      exact ⟨Ext.same h3, rl.tup h3, .tup L2.upd_same (.cons (.int _) (.cons (rv.mono (Ext.same h3)) .nil))⟩
theorem fuel_same {J : It} {A A' : PHp} {n : Nat} (h : fuelOf J A = .ok n A') : A' = A := by
  have key : ∀ a, bnd (lstAt a) (fun l => ret l.length) A = .ok n A' → A' = A := fun a h => by
    obtain ⟨l, A1, e1, e2⟩ := bnd_inv h
    cases e2
    unfold lstAt at e1
    rcases hA : A[a]? with _ | o
    · rw [hA] at e1; cases e1
    · cases o <;> rw [hA] at e1 <;> cases e1 <;> rfl
  cases J with
  | rng lo n => cases h; rfl
  | lst m => exact key m h
  | tup l => cases h; rfl
  | fix l => cases h; rfl
  | enm m => exact key m h
  | enk k m => exact key m h
  | zip x y =>
    cases x with
    | ref n =>
      exact key n h
    | tup l => cases h; rfl
    | _ => cases h
theorem s_for {tg iter : Expr} {body : List Stmt} {it : ID} {g : GD} {b : SD} {pos : Pos} (hp : PassesOwn (model X.prog X.w) X.A X.env X.xe) (hc : X.calm = true) (hi : L2.PI X tg iter (EvI X.K cm it)) (hg : L2.PG X tg (EvG X.K cm g)) (hb : L2.PSs X body (EvS X.K cm b))
    (hs : ∀ x, foldedSetIterable iter X.env x = pure x := by intro _; rfl) : L2.PS X (.For tg iter body [] pos) (EvS X.K cm (sFor it g b)) :=
  PS_imp (L2.ps_for hp hc hi hg hb hs) fun D σ H ⟨ρ, A, σp, f, A', rl, rs, ev, k⟩ => by
    obtain ⟨J, A1, e1, ev1⟩ := bnd_inv ev
    obtain ⟨n, A2, e2, ev2⟩ := bnd_inv ev1
    obtain rfl := fuel_same e2
    refine ⟨ρ, A, σp, J, A2, rl, rs, e1, fun ρ1 H1 j x1 rl1 rj => ?_⟩
    refine ⟨fun i m σ' H' => ∃ ρ' B σp', Ext ρ1 H1 ρ' H' ∧ Rel X.K cm ρ' B H' ∧ RSt ρ' H' σp' σ' ∧ turns J g b (m + 1) i σp' B = .ok f A', ⟨n, ρ1, A2, σp, Ext.refl _ _, rl1, rs.mono x1, ev2⟩, ?_⟩
    rintro i m σ' H' ⟨ρ', B, σp', x2, rl2, rs2, ev3⟩
    rw [turns_succ] at ev3
    obtain ⟨x, B1, e3, ev4⟩ := bnd_inv ev3
    obtain ⟨rfl, hit⟩ := item_ok rl2 (rj.mono x2) e3
    cases x with
    | none =>
      cases ev4
      exact .inl ⟨hit, k ρ' H' (x1.trans x2) rl2 σ' rs2⟩
    | some v =>
      refine .inr ⟨hit.1, fun σ3 H3 => ∃ ρ3 B3 σp3, Ext ρ1 H1 ρ3 H3 ∧ Rel X.K cm ρ3 B3 H3 ∧ RSt ρ3 H3 σp3 σ3 ∧ turns J g b m (i + 1) σp3 B3 = .ok f A', ?_, fun y H3 hy => ?_⟩
      · rintro σ3 H3 ⟨ρ3, B3, σp3, x3, rl3, rs3, ev5⟩
        cases m with
        | zero => rw [turns_zero] at ev5; cases ev5
        | succ m => exact ⟨m, Nat.lt_succ_self _, ρ3, B3, σp3, x3, rl3, rs3, ev5⟩
      · obtain ⟨x3, rl3, rv3⟩ := hit.2 y H3 hy
        obtain ⟨σ4, B4, e4, ev5⟩ := bnd_inv ev4
        obtain ⟨o, B5, e5, ev6⟩ := bnd_inv ev5
        refine ⟨ρ', B1, σp', v, σ4, B4, rl3, rs2.mono x3, rv3, e4, fun ρ4 H4 σ5 x4 rl4 rs4 => ⟨ρ4, B4, σ4, o, B5, rl4, rs4, e5, fun ρ5 H5 x5 rl5 => ?_⟩⟩
        have x15 := (((x2.trans x3).trans x4).trans x5)
        cases o with
        | nx σ6 => exact fun σ7 rs7 => ⟨ρ5, B5, σ6, x15, rl5, rs7, ev6⟩
        | ct σ6 => exact fun σ7 rs7 => ⟨ρ5, B5, σ6, x15, rl5, rs7, ev6⟩
        | bk σ6 => cases ev6; exact fun σ7 rs7 => k ρ5 H5 (x1.trans x15) rl5 σ7 rs7
        | rt u => cases ev6; exact fun v' rv' => k ρ5 H5 (x1.trans x15) rl5 v' rv'
theorem PI_imp {tg iter : Expr} {t t' : L2.TI} (h : L2.PI X tg iter t) (k : ∀ σ H R, t' σ H R → t σ H R) : L2.PI X tg iter t' := fun pins s σ H R I q => h pins s σ H R I (k σ H R q)
theorem i_rng1 {tg a : Expr} {d : ED} {p pos : Pos} (hg : L2.Gl X "range") (hm : X.mg "range" = none) (ha : L2.PE X a (EvE X.K cm d)) (hs : starEach [a] X.env = [(false, eval a X.env)] := by rfl) : L2.PI X tg (.Call (.Name "range" p) [a] [] pos) (EvI X.K cm (iRng1 d)) :=
  PI_imp (L2.pi_range1 hg hm (r_cons ha r_nil hs) hs) fun σ H R ⟨ρ, A, σp, J, A', rl, rs, ev, k⟩ => by
    obtain ⟨x, A1, e1, ev1⟩ := bnd_inv ev
    refine ⟨ρ, A, σp, [x], A1, rl, rs, by show bnd (d σp) _ A = _; rw [bnd_ok e1]; rfl, fun ρ1 H1 vs1 x1 rl1 rv1 => ?_⟩
    cases x with
    | int i =>
      obtain ⟨c, ev2⟩ := guard_inv ev1
      cases ev2
      cases rv1 with
      | cons hv hr => cases hr; cases hv; exact ⟨i, rfl, c.1, c.2, k ρ1 H1 _ x1 rl1 rfl⟩
    | _ => cases ev1
noncomputable def iSeq2 (K : PySem.W.Frag) (tl : L2.TE) : L2.TI := fun σ H R => tl σ H fun x H1 => (∃ a, x = .ref a ∧ (∃ xs, L2.SqL K H1 a xs) ∧ R (L2.Itl K a) H1) ∨ (∃ a, x = .ref a ∧ (∃ xs, L2.SqT K H1 a xs) ∧ R (L2.Itt K a) H1)
theorem pi_seq2 {tg l : Expr} {tl : L2.TE} (hl : L2.PE X l tl) : L2.PI X tg l (iSeq2 X.K tl) := by
  intro pins s σ H R I h
  have a1 := L2.pi_list (tg := tg) hl
  have a2 := L2.pi_tup (tg := tg) hl
  refine L2.thn (hl pins s σ H _ I h) fun v s1 ⟨x, H1, I1, r1, q1⟩ => ?_
  rcases q1 with ⟨a, e, ⟨xs, hq⟩, q⟩ | ⟨a, e, ⟨xs, hq⟩, q⟩
  · subst e
    cases r1
    obtain ⟨its, rv, p, hz⟩ := I1.list hq
    refine wpAny_pyIter_list p.isList ?_
    refine ⟨s1.heap.objs.size, [s1.heap.objs.size], _, _, H1, rfl, I1.kept (t' := s1.toks) fun b o e => Heap.get?_push_of_some _ e, L2.turn_list a _, ⟨_, Heap.get?_push_size _ rfl, rfl, rfl⟩, fun b hb => ?_, q⟩
    have e : b = s1.heap.objs.size := by simpa using hb
    subst e
    exact I1.fpOk (Nat.le_refl _) (I1.hok.fresh (Nat.le_refl _))
  · subst e
    cases r1
    obtain ⟨its, rv, p, hz⟩ := I1.tuple hq
    refine wpAny_pyIter_tuple (show s1.heap.IsTuple a its.toArray from p) ?_
    refine ⟨s1.heap.objs.size, [s1.heap.objs.size], _, _, H1, rfl, I1.kept (t' := s1.toks) fun b o e => Heap.get?_push_of_some _ e, L2.turn_tuple a _, ⟨_, Heap.get?_push_size _ rfl, rfl, rfl⟩, fun b hb => ?_, q⟩
    have e : b = s1.heap.objs.size := by simpa using hb
    subst e
    exact I1.fpOk (Nat.le_refl _) (I1.hok.fresh (Nat.le_refl _))
theorem i_seq {tg l : Expr} {d : ED} (hl : L2.PE X l (EvE X.K cm d)) : L2.PI X tg l (EvI X.K cm (iSeq d)) := PI_imp (pi_seq2 hl) fun σ H R ⟨ρ, A, σp, J, A', rl, rs, ev, k⟩ => by
  obtain ⟨x, A1, e1, ev1⟩ := bnd_inv ev
  refine ⟨ρ, A, σp, x, A1, rl, rs, e1, fun ρ1 H1 v1 x1 rl1 rv1 => ?_⟩
  cases x with
  | ref n =>
    obtain ⟨l, A2, e2, ev2⟩ := bnd_inv ev1
    obtain ⟨rfl, a, xs, rfl, hs, r⟩ := lst_read rl1 rv1 e2
    cases ev2
    cases rv1 with
    | ref hn => exact .inl ⟨a, rfl, ⟨xs, hs⟩, k ρ1 H1 _ x1 rl1 ⟨a, hn, rfl⟩⟩
  | tup l =>
    cases ev1
    cases rv1 with
    | tup ha r => exact .inr ⟨_, rfl, ⟨_, L2.SqT.of ha⟩, k ρ1 H1 _ x1 rl1 ⟨_, _, ha, r, rfl⟩⟩
  | _ => cases ev1
end
end Ws
namespace Ws
open PySem
section
variable {ρ : List Addr} {H : L2.Hp}
mutual
theorem RV.uniq : ∀ {x y : PV} {v : L2.V}, RV ρ H x v → RV ρ H y v → nice x = true → nice y = true → x = y
  | _, _, _, .non, h, _, _ => by cases h; rfl
  | _, _, _, .bl b, _, n, _ => by simp [nice] at n
  | _, _, _, .int i, h, _, _ => by cases h; rfl
  | _, _, _, .str z, h, _, _ => by cases h; rfl
  | _, _, _, .tup h1 r1, h, n1, n2 => by
    cases h with
    | tup h2 r2 =>
      rw [h1] at h2; cases h2
      rw [RVs.uniq r1 r2 (by simpa [nice] using n1) (by simpa [nice] using n2)]
    | ref h2 => simp [nice] at n2
  | _, _, _, .ref _, _, n, _ => by simp [nice] at n
theorem RVs.uniq : ∀ {l m : List PV} {vs : List L2.V}, RVs ρ H l vs → RVs ρ H m vs → nices l = true → nices m = true → l = m
  | _, _, _, .nil, h, _, _ => by cases h; rfl
  | _, _, _, .cons h1 r1, h, n1, n2 => by
    cases h with
    | cons h2 r2 =>
      simp only [nices, Bool.and_eq_true] at n1 n2
      rw [RV.uniq h1 h2 n1.1 n2.1, RVs.uniq r1 r2 n1.2 n2.2]
end
end
theorem eqvs_len : ∀ {l m : List PV}, l.length ≠ m.length → eqvs l m = false
  | [], [], h => absurd rfl h
  | [], _ :: _, _ => rfl
  | _ :: _, [], _ => rfl
  | x :: xs, y :: ys, h => by
    have : xs.length ≠ ys.length := by simpa using h
    simp [eqvs, eqvs_len this]
theorem eqvs_all : ∀ {l m : List PV}, l.length = m.length → eqvs l m = (List.range l.length).all fun j => eqv (l.getD j .non) (m.getD j .non)
  | [], [], _ => rfl
  | [], _ :: _, h => by simp at h
  | _ :: _, [], h => by simp at h
  | x :: xs, y :: ys, h => by
    have e : xs.length = ys.length := by simpa using h
    rw [List.length_cons, List.range_succ_eq_map, List.all_cons, List.all_map]
    simp only [eqvs, eqvs_all e]
    rfl
theorem eqvs_tup {l m : List PV} : eqvs l m = ((List.range (min l.length m.length)).all (fun j => eqv (l.getD j .non) (m.getD j .non)) && l.length == m.length) := by
  by_cases h : l.length = m.length
  · rw [eqvs_all h, h]; simp
  · rw [eqvs_len h, beq_eq_false_iff_ne.mpr h, Bool.and_false]
section
variable {X : L2.Cx} {pins : List (Addr × Obj)} {σ : L2.St} {H : L2.Hp} {s : Shared} {ρ : List Addr} {A : Around}
open PySem.SeqAt
theorem eqAt0 {x y : PV} {vx vy : L2.V} {u v : Value} (rx : RV ρ H x vx) (ry : RV ρ H y vy) (hx : flat0 x = true) (hy : flat0 y = true) (ux : L2.RelV vx u) (uy : L2.RelV vy v) : EqAt A s u v (eqv x y) := by
  have key := L2.eqAt_V (A := A) (s := s) ux uy (by cases rx <;> simp_all [flat0, L2.flatV]) (by cases ry <;> simp_all [flat0, L2.flatV])
  have e : L2.eqV vx vy = eqv x y := by
    cases rx <;> cases ry <;> simp_all [flat0, L2.eqV, eqv] <;> (try (exact (Bool.beq_eq_decide_eq _ _)))
  rw [← e]; exact key
theorem eqAt_tups {f : PV → Bool} {l m : List PV} {a b : Addr} {vs ws : List L2.V} (I : L2.Inv X pins σ H s) (ha : H a = some (.tup vs)) (hb : H b = some (.tup ws)) (r1 : RVs ρ H l vs) (r2 : RVs ρ H m ws) (hl : l.all f = true) (hm : m.all f = true) (hf : ∀ x, f x = true → nice x = true) (hu : A.units < cLine)
    (ih : ∀ x y vx vy u v, RV ρ H x vx → RV ρ H y vy → f x = true → f y = true → L2.RelV vx u → L2.RelV vy v → EqAt A.in1 s u v (eqv x y)) :
    (a ≠ b → RcAt A s (.ref a) (.ref b) (eqvs l m)) ∧ RcAt A s (.ref a) (.ref b) (eqvs l m) ∧ EqAt A s (.ref a) (.ref b) (eqvs l m) := by
  obtain ⟨_, its, ri, pi⟩ := I.hok a _ ha
  obtain ⟨_, its2, ri2, pi2⟩ := I.hok b _ hb
  have rc : RcAt A s (.ref a) (.ref b) (eqvs l m) := by
    have h := RcAt.tuples (A := A) (s := s) (l := a) (b := b) (items := its.toArray) (items2 := its2.toArray) (e := fun j => eqv (l.getD j .non) (m.getD j .non)) pi pi2 hu (fun j h1 h2 => by
      simp only [List.size_toArray] at h1 h2
      have l1 : j < vs.length := by rw [ri.length]; exact h1
      have l2 : j < ws.length := by rw [ri2.length]; exact h2
      obtain ⟨x, ex, rx⟩ := r1.get' (i := j) (v := vs[j]) (by simp [l1])
      obtain ⟨y, ey, ry⟩ := r2.get' (i := j) (v := ws[j]) (by simp [l2])
      obtain ⟨u, eu, ru⟩ := ri.get (i := j) (x := vs[j]) (by simp [l1])
      obtain ⟨v, ev, rv⟩ := ri2.get (i := j) (x := ws[j]) (by simp [l2])
      have d1 : l.getD j .non = x := by rw [List.getD_eq_getElem?_getD, ex]; rfl
      have d2 : m.getD j .non = y := by rw [List.getD_eq_getElem?_getD, ey]; rfl
      have q1 : its.toArray[j] = u := by
        rw [List.getElem?_eq_getElem h1] at eu
        simpa using Option.some.inj eu
      have q2 : its2.toArray[j] = v := by
        rw [List.getElem?_eq_getElem h2] at ev
        simpa using Option.some.inj ev
      rw [d1, d2, q1, q2]
      exact ih x y _ _ u v rx ry (List.all_eq_true.mp hl x (List.mem_of_getElem? ex)) (List.all_eq_true.mp hm y (List.mem_of_getElem? ey)) ru rv)
    rw [eqvs_tup]
    have z1 : its.toArray.size = l.length := by rw [List.size_toArray, ← ri.length, r1.length]
    have z2 : its2.toArray.size = m.length := by rw [List.size_toArray, ← ri2.length, r2.length]
    rw [z1, z2] at h
    exact h
  refine ⟨fun _ => rc, rc, ?_⟩
  by_cases hab : a = b
  · subst hab
    rw [ha] at hb; cases hb
    have e := RVs.uniq r1 r2 (nices_of hf l hl) (nices_of hf m hm)
    subst e
    rw [(eqvs_nice l l (nices_of hf l hl)).mpr rfl]
    exact EqAt.same _
  · exact EqAt.of_refs hab rc
theorem eqAt_mix {x y : PV} {vx vy : L2.V} {u v : Value} (I : L2.Inv X pins σ H s) (rx : RV ρ H x vx) (ry : RV ρ H y vy) (hu : A.units < cLine) (ux : L2.RelV vx u) (uy : L2.RelV vy v)
    (h : (∃ l, x = .tup l ∧ flat0 y = true) ∨ (∃ m, y = .tup m ∧ flat0 x = true)) : EqAt A s u v (eqv x y) ∧ RcAt A s u v (eqv x y) ∧ RcNeAt A s u v (!eqv x y) := by
  rcases h with ⟨l, rfl, hy⟩ | ⟨m, rfl, hx⟩
  · cases rx with
    | tup ha r =>
      obtain ⟨_, its, ri, pi⟩ := I.hok _ _ ha
      cases ux
      cases ry with
      | non => cases uy; exact ⟨EqAt.tuple_none pi hu, RcAt.tuple_none pi hu, RcNeAt.tuple_none pi hu⟩
      | int i => obtain ⟨t, rfl⟩ := uy; exact ⟨EqAt.tuple_int _ _ pi hu, RcAt.tuple_int _ _ pi hu, RcNeAt.tuple_int _ _ pi hu⟩
      | str i => obtain ⟨t, rfl⟩ := uy; exact ⟨EqAt.tuple_str _ _ pi hu, RcAt.tuple_str _ _ pi hu, RcNeAt.tuple_str _ _ pi hu⟩
      | bl b => simp [flat0] at hy
      | tup h2 r2 => simp [flat0] at hy
      | ref h2 => simp [flat0] at hy
  · cases ry with
    | tup ha r =>
      obtain ⟨_, its, ri, pi⟩ := I.hok _ _ ha
      cases uy
      cases rx with
      | non => cases ux; exact ⟨EqAt.none_tuple pi hu, RcAt.none_tuple pi hu, RcNeAt.none_tuple pi hu⟩
      | int i => obtain ⟨t, rfl⟩ := ux; exact ⟨EqAt.int_tuple _ _ pi hu, RcAt.int_tuple _ _ pi hu, RcNeAt.int_tuple _ _ pi hu⟩
      | str i => obtain ⟨t, rfl⟩ := ux; exact ⟨EqAt.str_tuple _ _ pi hu, RcAt.str_tuple _ _ pi hu, RcNeAt.str_tuple _ _ pi hu⟩
      | bl b => simp [flat0] at hx
      | tup h2 r2 => simp [flat0] at hx
      | ref h2 => simp [flat0] at hx
theorem in1_units (A : Around) (n : Nat) (h : A.units + (n + 1) < cLine) : A.in1.units + n < cLine := by
  show A.units + 1 + n < cLine; omega
theorem eqAt1 (I : L2.Inv X pins σ H s) (A : Around) (hu : A.units + 1 < cLine) (x y : PV) (vx vy : L2.V) (u v : Value) (rx : RV ρ H x vx) (ry : RV ρ H y vy) (hx : flat1 x = true) (hy : flat1 y = true) (ux : L2.RelV vx u) (uy : L2.RelV vy v) : EqAt A s u v (eqv x y) := by
  cases x with
  | tup l =>
    cases y with
    | tup m =>
      cases rx with
      | tup ha r1 =>
        cases ry with
        | tup hb r2 =>
          cases ux; cases uy
          exact (eqAt_tups I ha hb r1 r2 hx hy nice0 (by omega) (fun x y vx vy u v rx ry h1 h2 u1 u2 => eqAt0 rx ry h1 h2 u1 u2)).2.2
    | _ => exact (eqAt_mix I rx ry (by omega) ux uy (.inl ⟨_, rfl, hy⟩)).1
  | _ =>
    cases y with
    | tup m => exact (eqAt_mix I rx ry (by omega) ux uy (.inr ⟨_, rfl, hx⟩)).1
    | _ => exact eqAt0 rx ry hx hy ux uy
theorem eqAt2 (I : L2.Inv X pins σ H s) (A : Around) (hu : A.units + 2 < cLine) (x y : PV) (vx vy : L2.V) (u v : Value) (rx : RV ρ H x vx) (ry : RV ρ H y vy) (hx : flat2 x = true) (hy : flat2 y = true) (ux : L2.RelV vx u) (uy : L2.RelV vy v) : EqAt A s u v (eqv x y) := by
  cases x with
  | tup l =>
    cases y with
    | tup m =>
      cases rx with
      | tup ha r1 =>
        cases ry with
        | tup hb r2 =>
          cases ux; cases uy
          exact (eqAt_tups I ha hb r1 r2 hx hy nice1 (by omega) (fun x y vx vy u v rx ry h1 h2 u1 u2 => eqAt1 I A.in1 (in1_units A 1 (by omega)) x y vx vy u v rx ry h1 h2 u1 u2)).2.2
    | _ => exact (eqAt_mix I rx ry (by omega) ux uy (.inl ⟨_, rfl, hy⟩)).1
  | _ =>
    cases y with
    | tup m => exact (eqAt_mix I rx ry (by omega) ux uy (.inr ⟨_, rfl, hx⟩)).1
    | _ => exact eqAt0 rx ry hx hy ux uy
theorem eqAt3 (I : L2.Inv X pins σ H s) (A : Around) (hu : A.units + 3 < cLine) (x y : PV) (vx vy : L2.V) (u v : Value) (rx : RV ρ H x vx) (ry : RV ρ H y vy) (hx : plain x = true) (hy : plain y = true) (ux : L2.RelV vx u) (uy : L2.RelV vy v) : EqAt A s u v (eqv x y) := by
  cases x with
  | tup l =>
    cases y with
    | tup m =>
      cases rx with
      | tup ha r1 =>
        cases ry with
        | tup hb r2 =>
          cases ux; cases uy
          exact (eqAt_tups I ha hb r1 r2 hx hy nice2 (by omega) (fun x y vx vy u v rx ry h1 h2 u1 u2 => eqAt2 I A.in1 (in1_units A 2 (by omega)) x y vx vy u v rx ry h1 h2 u1 u2)).2.2
    | _ => exact (eqAt_mix I rx ry (by omega) ux uy (.inl ⟨_, rfl, hy⟩)).1
  | _ =>
    cases y with
    | tup m => exact (eqAt_mix I rx ry (by omega) ux uy (.inr ⟨_, rfl, hx⟩)).1
    | _ => exact eqAt0 rx ry hx hy ux uy
end
end Ws
namespace Ws
open PySem PySem.SeqAt
section
variable {X : L2.Cx} {cm : Nat → Addr} {pins : List (Addr × Obj)} {σ : L2.St} {H : L2.Hp} {s : Shared} {ρ : List Addr} {A : Around}
theorem rc0 {x y : PV} {vx vy : L2.V} {u v : Value} (rx : RV ρ H x vx) (ry : RV ρ H y vy) (hx : flat0 x = true) (hy : flat0 y = true) (ux : L2.RelV vx u) (uy : L2.RelV vy v) : RcAt A s u v (eqv x y) ∧ RcNeAt A s u v (!eqv x y) := by
  have hb : ∀ (i j : Int), (i == j) = decide (i = j) := fun i j => by rw [Bool.beq_eq_decide_eq]
  have hs : ∀ (i j : Str), (i == j) = decide (i = j) := fun i j => by rw [Bool.beq_eq_decide_eq]
  cases rx with
  | non =>
    cases ux
    cases ry with
    | non => cases uy; exact ⟨RcAt.none_none, RcNeAt.none_none⟩
    | int i => obtain ⟨t, rfl⟩ := uy; exact ⟨RcAt.none_int _ _, RcNeAt.none_int _ _⟩
    | str i => obtain ⟨t, rfl⟩ := uy; exact ⟨RcAt.none_str _ _, RcNeAt.none_str _ _⟩
    | _ => simp [flat0] at hy
  | int i =>
    obtain ⟨t, rfl⟩ := ux
    cases ry with
    | non => cases uy; exact ⟨RcAt.int_none _ _, RcNeAt.int_none _ _⟩
    | int j => obtain ⟨t', rfl⟩ := uy; simp only [eqv, ← hb]; exact ⟨RcAt.int_int _ _ _ _, RcNeAt.int_int _ _ _ _⟩
    | str j => obtain ⟨t', rfl⟩ := uy; exact ⟨RcAt.int_str _ _ _ _, RcNeAt.int_str _ _ _ _⟩
    | _ => simp [flat0] at hy
  | str i =>
    obtain ⟨t, rfl⟩ := ux
    cases ry with
    | non => cases uy; exact ⟨RcAt.str_none _ _, RcNeAt.str_none _ _⟩
    | int j => obtain ⟨t', rfl⟩ := uy; exact ⟨RcAt.str_int _ _ _ _, RcNeAt.str_int _ _ _ _⟩
    | str j => obtain ⟨t', rfl⟩ := uy; simp only [eqv, ← hs]; exact ⟨RcAt.str_str _ _ _ _, RcNeAt.str_str _ _ _ _⟩
    | _ => simp [flat0] at hy
  | _ => simp [flat0] at hx
theorem items_eq {f : PV → Bool} {l m : List PV} {vs ws : List L2.V} {its its2 : List Value} (r1 : RVs ρ H l vs) (r2 : RVs ρ H m ws) (ri : L2.Vals vs its) (ri2 : L2.Vals ws its2) (hl : l.all f = true) (hm : m.all f = true)
    (ih : ∀ x y vx vy u v, RV ρ H x vx → RV ρ H y vy → f x = true → f y = true → L2.RelV vx u → L2.RelV vy v → EqAt A s u v (eqv x y)) :
    ∀ j (h1 : j < its.toArray.size) (h2 : j < its2.toArray.size), EqAt A s its.toArray[j] its2.toArray[j] (eqv (l.getD j .non) (m.getD j .non)) := fun j h1 h2 => by
  simp only [List.size_toArray] at h1 h2
  have l1 : j < vs.length := by rw [ri.length]; exact h1
  have l2 : j < ws.length := by rw [ri2.length]; exact h2
  obtain ⟨x, ex, rx⟩ := r1.get' (i := j) (v := vs[j]) (by simp [l1])
  obtain ⟨y, ey, ry⟩ := r2.get' (i := j) (v := ws[j]) (by simp [l2])
  obtain ⟨u, eu, ru⟩ := ri.get (i := j) (x := vs[j]) (by simp [l1])
  obtain ⟨v, ev, rv⟩ := ri2.get (i := j) (x := ws[j]) (by simp [l2])
  have d1 : l.getD j .non = x := by rw [List.getD_eq_getElem?_getD, ex]; rfl
  have d2 : m.getD j .non = y := by rw [List.getD_eq_getElem?_getD, ey]; rfl
  have q1 : its.toArray[j] = u := by
    rw [List.getElem?_eq_getElem h1] at eu
    simpa using Option.some.inj eu
  have q2 : its2.toArray[j] = v := by
    rw [List.getElem?_eq_getElem h2] at ev
    simpa using Option.some.inj ev
  rw [d1, d2, q1, q2]
  exact ih x y _ _ u v rx ry (List.all_eq_true.mp hl x (List.mem_of_getElem? ex)) (List.all_eq_true.mp hm y (List.mem_of_getElem? ey)) ru rv
noncomputable def rEqP (K : PySem.W.Frag) (g : Bool → Bool) : L2.R2 := fun vx vy H Q => ∃ (ρ : List Addr), 
  (∃ x y, RV ρ H x vx ∧ RV ρ H y vy ∧ plain x = true ∧ plain y = true ∧ Q (.bl (g (eqv x y))) H) ∨ (∃ b c, vx = .bl b ∧ vy = .bl c ∧ Q (.bl (g (b == c))) H) ∨
  (∃ a b l m xs ys, vx = .ref a ∧ vy = .ref b ∧ L2.SqL K H a xs ∧ L2.SqL K H b ys ∧ RVs ρ H l xs ∧ RVs ρ H m ys ∧ plains l = true ∧ plains m = true ∧ Q (.bl (g (eqvs l m))) H)
theorem eq_core (hr : X.A.units + 64 < cLine) {vx vy : L2.V} {u v : Value} {Q : L2.VK} {g : Bool → Bool} (I : L2.Inv X pins σ H s) (ux : L2.RelV vx u) (uy : L2.RelV vy v) (h : rEqP X.K g vx vy H Q) : ∃ b, RcAt X.A s u v b ∧ RcNeAt X.A s u v (!b) ∧ Q (.bl (g b)) H := by
  obtain ⟨ρ, h⟩ := h
  rcases h with ⟨x, y, rx, ry, px, py, q⟩ | ⟨b, c, rfl, rfl, q⟩ | ⟨a, b, l, m, xs, ys, rfl, rfl, h1, h2, r1, r2, p1, p2, q⟩
  · refine ⟨eqv x y, ?_, ?_, q⟩ <;>
    (cases x with
    | tup l =>
      cases y with
      | tup m =>
        cases rx with
        | tup ha r1 =>
          cases ry with
          | tup hb r2 =>
            cases ux; cases uy
            obtain ⟨_, its, ri, pi⟩ := I.hok _ _ ha
            obtain ⟨_, its2, ri2, pi2⟩ := I.hok _ _ hb
            have z1 : its.toArray.size = l.length := by rw [List.size_toArray, ← ri.length, r1.length]
            have z2 : its2.toArray.size = m.length := by rw [List.size_toArray, ← ri2.length, r2.length]
            have hi := items_eq (A := X.A.in1) (s := s) r1 r2 ri ri2 (show l.all flat2 = true from px) (show m.all flat2 = true from py) (fun x y vx vy u v rx ry h1 h2 u1 u2 => eqAt2 I X.A.in1 (in1_units X.A 2 (by omega)) x y vx vy u v rx ry h1 h2 u1 u2)
            first
              | (have h := RcAt.tuples (A := X.A) (s := s) (e := fun j => eqv (l.getD j .non) (m.getD j .non)) pi pi2 (by omega) hi
                 rw [z1, z2, ← eqvs_tup] at h; exact h)
              | (have h := RcNeAt.tuples (A := X.A) (s := s) (e := fun j => eqv (l.getD j .non) (m.getD j .non)) pi pi2 (by omega) hi
                 rw [z1, z2, ← eqvs_tup] at h; exact h)
      | _ => first | exact (eqAt_mix I rx ry (by omega) ux uy (.inl ⟨_, rfl, py⟩)).2.1 | exact (eqAt_mix I rx ry (by omega) ux uy (.inl ⟨_, rfl, py⟩)).2.2
    | _ =>
      cases y with
      | tup m => first | exact (eqAt_mix I rx ry (by omega) ux uy (.inr ⟨_, rfl, px⟩)).2.1 | exact (eqAt_mix I rx ry (by omega) ux uy (.inr ⟨_, rfl, px⟩)).2.2
      | _ => first | exact (rc0 rx ry px py ux uy).1 | exact (rc0 rx ry px py ux uy).2)
  · cases ux; cases uy
    exact ⟨b == c, RcAt.bool_bool _ _, RcNeAt.bool_bool _ _, q⟩
  · cases ux; cases uy
    obtain ⟨its, ri, pi, _⟩ := I.list h1
    obtain ⟨its2, ri2, pi2, _⟩ := I.list h2
    have z1 : its.toArray.size = l.length := by rw [List.size_toArray, ← ri.length, r1.length]
    have z2 : its2.toArray.size = m.length := by rw [List.size_toArray, ← ri2.length, r2.length]
    refine ⟨eqvs l m, ?_, ?_, q⟩
    · by_cases hlm : l.length = m.length
      · have hi := items_eq (A := X.A.in1) (s := s) r1 r2 ri ri2 p1 p2 (fun x y vx vy u v rx ry h1 h2 u1 u2 => eqAt3 I X.A.in1 (in1_units X.A 3 (by omega)) x y vx vy u v rx ry h1 h2 u1 u2)
        have h := RcAt.lists (A := X.A) (s := s) (e := fun j => eqv (l.getD j .non) (m.getD j .non)) pi.isList pi2.isList (by rw [z1, z2, hlm]) (by omega) hi
        rw [z1, ← eqvs_all hlm] at h; exact h
      · rw [eqvs_len hlm]
        exact RcAt.lists_lengths pi.isList pi2.isList (by rw [z1, z2]; exact bne_iff_ne.mpr hlm) (by omega)
    · by_cases hlm : l.length = m.length
      · have hi := items_eq (A := X.A.in1) (s := s) r1 r2 ri ri2 p1 p2 (fun x y vx vy u v rx ry h1 h2 u1 u2 => eqAt3 I X.A.in1 (in1_units X.A 3 (by omega)) x y vx vy u v rx ry h1 h2 u1 u2)
        have h := RcNeAt.lists (A := X.A) (s := s) (e := fun j => eqv (l.getD j .non) (m.getD j .non)) pi.isList pi2.isList (by rw [z1, z2, hlm]) (by omega) hi
        rw [z1, ← eqvs_all hlm] at h; exact h
      · rw [eqvs_len hlm]
        exact RcNeAt.lists_lengths pi.isList pi2.isList (by rw [z1, z2]; exact bne_iff_ne.mpr hlm) (by omega)
theorem op_eqP (hr : X.A.units + 64 < cLine) : L2.OpR X (compareOp .Eq) (rEqP X.K id) := by
  intro pins s σ H x y v u Q I rx ry q
  obtain ⟨b, h1, _, h3⟩ := eq_core hr I rx ry q
  exact h1 _ _ _ _ ⟨.bl b, H, I, rfl, h3⟩
theorem op_neP (hr : X.A.units + 64 < cLine) : L2.OpR X (compareOp .NotEq) (rEqP X.K not) := by
  intro pins s σ H x y v u Q I rx ry q
  obtain ⟨b, _, h2, h3⟩ := eq_core hr I rx ry q
  exact h2 _ _ _ _ ⟨.bl (!b), H, I, rfl, h3⟩
theorem pEq_ok {x y : PV} {B B' : PHp} {b : Bool} {vx vy : L2.V} {Q : L2.VK} {g : Bool → Bool} (rl : Rel X.K cm ρ B H) (rx : RV ρ H x vx) (ry : RV ρ H y vy) (h : pEq x y B = .ok b B') (q : Q (.bl (g b)) H) : B' = B ∧ rEqP X.K g vx vy H Q := by
  have gen : ∀ x y, RV ρ H x vx → RV ρ H y vy → guard (bothBl x y = true ∨ (plain x = true ∧ plain y = true)) (ret (eqv x y)) B = .ok b B' → B' = B ∧ rEqP X.K g vx vy H Q := fun x y rx ry h => by
    obtain ⟨c, h⟩ := guard_inv h
    cases h
    refine ⟨rfl, ρ, ?_⟩
    rcases c with c | c
    · cases x with
      | bl b1 =>
        cases y with
        | bl b2 => cases rx; cases ry; exact .inr (.inl ⟨b1, b2, rfl, rfl, q⟩)
        | _ => simp [bothBl] at c
      | _ => simp [bothBl] at c
    · exact .inl ⟨x, y, rx, ry, c.1, c.2, q⟩
  cases x with
  | ref n =>
    cases y with
    | ref k =>
      obtain ⟨l, B1, e1, h1⟩ := bnd_inv h
      obtain ⟨rfl, a, xs, rfl, hs, r⟩ := lst_read rl rx e1
      obtain ⟨m, B2, e2, h2⟩ := bnd_inv h1
      obtain ⟨rfl, a2, ys, rfl, hs2, r2⟩ := lst_read rl ry e2
      obtain ⟨c, h3⟩ := guard_inv h2
      cases h3
      exact ⟨rfl, ρ, .inr (.inr ⟨a, a2, l, m, xs, ys, rfl, rfl, hs, hs2, r, r2, c.1, c.2, q⟩)⟩
    | _ => exact gen _ _ rx ry h
  | _ => cases y <;> exact gen _ _ rx ry h
theorem ok_eq : OkOp X.K cm oEq (rEqP X.K id) := fun ρ B H x y z B' vx vy Q rl rx ry ev k => by
  obtain ⟨b, B1, e1, ev1⟩ := bnd_inv ev
  cases ev1
  have hB : B' = B := (pEq_ok (g := id) (Q := fun _ _ => True) rl rx ry e1 trivial).1
  subst hB
  exact (pEq_ok (g := id) rl rx ry e1 (k ρ H _ (Ext.refl _ _) rl (.bl b))).2
theorem ok_ne : OkOp X.K cm oNe (rEqP X.K not) := fun ρ B H x y z B' vx vy Q rl rx ry ev k => by
  obtain ⟨b, B1, e1, ev1⟩ := bnd_inv ev
  cases ev1
  have hB : B' = B := (pEq_ok (g := not) (Q := fun _ _ => True) rl rx ry e1 trivial).1
  subst hB
  exact (pEq_ok (g := not) rl rx ry e1 (k ρ H _ (Ext.refl _ _) rl (.bl _))).2
noncomputable def tyName : Ty → String
  | .int => "int"
  | .bool => "bool"
  | .tuple => "tuple"
  | .list => "list"
structure Kit (K : PySem.W.Frag) : Prop where
  t (a b : String) (ha : a ∈ ["NoneType", "bool", "int", "str", "list", "tuple"]) (hb : b ∈ ["int", "bool", "tuple", "list"]) : PySem.W.kitOne K (.type a) (.type b) = some (a == b || (a == "bool" && b == "int"))
noncomputable def rIsA (K : PySem.W.Frag) (t : Ty) : List L2.V → L2.Hp → L2.VK → Prop := fun vs H Q => ∃ v ty, vs = [v, .ty (tyName t)] ∧ ty ∈ ["NoneType", "bool", "int", "str", "list", "tuple"] ∧ L2.TyOf K H v (.type ty) ∧ Q (.bl (ty == tyName t || (ty == "bool" && tyName t == "int"))) H
theorem call_isA (kit : Kit X.K) (t : Ty) : L2.CallR X (.builtin "isinstance") (rIsA X.K t) := by
  intro pins s σ H xs us Q I r h
  obtain ⟨v, ty, rfl, hm, hty, q⟩ := h
  obtain ⟨u, w, rfl, ru, rw'⟩ := L2.vals2 r
  cases rw'
  exact L2.isinst_ok I ru hty (kit.t ty (tyName t) hm (by cases t <;> simp [tyName])) fun tk => ⟨.bl _, H, I.tok tk, rfl, q⟩
theorem r_isA {e : Expr} {d : ED} {t : Ty} {tn : Str} {p p2 pos : Pos} (kit : Kit X.K) (he : L2.PE X e (EvE X.K cm d)) (hg : L2.Gl X "isinstance") (hm : X.mg "isinstance" = none) (hgt : L2.Gl X tn) (hmt : X.mg tn = none) (hbt : bootBuiltins tn = some (.type (tyName t)))
    (hs : starEach [e, .Name tn p2] X.env = (false, eval e X.env) :: starEach [.Name tn p2] X.env := by exact star_c rfl) (hs2 : starEach [Expr.Name tn p2] X.env = (false, eval (.Name tn p2) X.env) :: starEach [] X.env := by exact star_c rfl) (hpl : (backTo pos (starEach [Expr.Name tn p2] X.env)).any (·.1) = false := by rfl)
    (hn : tn ≠ "__name__" := by decide) (hdb : (tn == ("__debug__" : Str)) = false := by decide) :
    L2.PE X (.Call (.Name "isinstance" p) [e, .Name tn p2] [] pos) (EvE X.K cm (eIsA d t)) :=
  PE_imp (L2.pe_callB (call_isA kit t) hg hm PyProof.Rows.boot_isinstance (L2.pa_cons he (L2.pa_cons (L2.pe_bltn (v := .ty (tyName t)) hgt hmt hbt rfl hn hdb) L2.pa_nil hs2) hs) (he := hs) (hpl := hpl)) fun σ H Q ⟨ρ, A, σp, v, A', rl, rs, ev, k⟩ => by
    obtain ⟨x, A1, e1, ev1⟩ := bnd_inv ev
    obtain ⟨b, A2, e2, ev2⟩ := bnd_inv ev1
    cases ev2
    refine ⟨ρ, A, σp, x, A1, rl, rs, e1, fun ρ1 H1 v1 x1 rl1 rv1 => ?_⟩
    cases x with
    | non => cases rv1; cases t <;> cases e2 <;> exact ⟨_, "NoneType", rfl, by simp, .non, k ρ1 H1 _ x1 rl1 (.bl _)⟩
    | bl c => cases rv1; cases t <;> cases e2 <;> exact ⟨_, "bool", rfl, by simp, .bl c, k ρ1 H1 _ x1 rl1 (.bl _)⟩
    | int i => cases rv1; cases t <;> cases e2 <;> exact ⟨_, "int", rfl, by simp, .int i, k ρ1 H1 _ x1 rl1 (.bl _)⟩
    | str z => cases rv1; cases t <;> cases e2 <;> exact ⟨_, "str", rfl, by simp, .str z, k ρ1 H1 _ x1 rl1 (.bl _)⟩
    | tup l =>
      cases rv1 with
      | tup ha r => cases t <;> cases e2 <;> exact ⟨_, "tuple", rfl, by simp, .tup ha, k ρ1 H1 _ x1 rl1 (.bl _)⟩
    | ref n =>
      cases t <;>
      (obtain ⟨l, A3, e3, e4⟩ := bnd_inv e2
       obtain ⟨rfl, hA, a, xs, rfl, hn, hH, r⟩ := mut_read rl1 rv1 e3
       cases e4
       exact ⟨_, "list", rfl, by simp, .lst hH, k ρ1 H1 _ x1 rl1 (.bl _)⟩)
end
end Ws
namespace Ws
open PySem
theorem turned_new {X : L2.Cx} {pins : List (Addr × Obj)} {σ : L2.St} {H : L2.Hp} {s : Shared} {h' : Heap} {t' : Nat} {fp : List Addr} {T : Addr} {o : L2.HO} (I : L2.Inv X pins σ H s) (hf : ∀ b ∈ fp, L2.FpOk X pins H b)
    (k : ∀ b u, b ∉ fp → s.heap.get? b = some u → h'.get? b = some u) (hT : s.heap.objs.size ≤ T) (new : L2.ObjOk X.prog X.w (L2.upd H T o) h' T o) : L2.Inv X pins σ (L2.upd H T o) { s with heap := h', toks := t' } := by
  have hn : H T = none := I.hok.fresh hT
  have neT : ∀ b u, s.heap.get? b = some u → b ≠ T := fun b u e => Nat.ne_of_lt (Nat.lt_of_lt_of_le (Heap.lt_size e) hT)
  have nfp : ∀ b u, H b = some u → b ∉ fp := fun b u e z => by rw [(hf b z).1] at e; cases e
  refine I.step (g' := s.gens) (d' := s.drawn) (ch := fp) (fun b hb => ?_) (fun b u _ _ hc e _ => k b u hc e) (fun b u _ _ hc e _ => ⟨u.slots, k b u hc e⟩) (fun b u hc e n => by rw [L2.upd_ne (neT b u e)]; exact n) (fun b u hc e => ⟨u, k b u hc e⟩)
    (fun b xs e => by rw [L2.upd_ne (L2.ne_of_none e hn)]; exact e) (fun b u xs e => by rw [L2.upd_ne (L2.ne_of_none e hn)]; exact e) (fun b ps e => ⟨#[], by rw [L2.upd_ne (L2.ne_of_none e hn), e]; simp⟩) (fun m hm => ?_) (fun b u e => ?_) I.bare
  · obtain ⟨_, f1, _, f3, f4, f5⟩ := hf b hb
    exact ⟨f3, f1, f4, f5⟩
  · obtain ⟨ob, es, ep, ho, r⟩ := hm
    exact ⟨ob, es, ep, k _ ob (fun z => (hf _ z).2.1 rfl) ho, r⟩
  · by_cases hb : b = T
    · subst hb; rw [L2.upd_same] at e; cases e; exact new
    · rw [L2.upd_ne hb] at e
      refine (I.hok b u e).stay (fun c v hc q => k c v ?_ q) (fun c q => by rw [L2.upd_ne (L2.ne_of_none q hn)]; exact q) fun c xs q => by rw [L2.upd_ne (L2.ne_of_none q hn)]; exact q
      rcases hc with rfl | hc
      · exact nfp c u e
      · exact nfp c _ hc
theorem turned_fp {X : L2.Cx} {pins : List (Addr × Obj)} {σ : L2.St} {H : L2.Hp} {s : Shared} {h' : Heap} {t' : Nat} {fp : List Addr} (I : L2.Inv X pins σ H s) (hf : ∀ b ∈ fp, L2.FpOk X pins H b)
    (k : ∀ b u, b ∉ fp → s.heap.get? b = some u → h'.get? b = some u) : L2.Inv X pins σ H { s with heap := h', toks := t' } := by
  have nfp : ∀ b u, H b = some u → b ∉ fp := fun b u e z => by rw [(hf b z).1] at e; cases e
  refine I.step (g' := s.gens) (d' := s.drawn) (ch := fp) (fun b hb => ?_) (fun b u _ _ hc e _ => k b u hc e) (fun b u _ _ hc e _ => ⟨u.slots, k b u hc e⟩) (fun b u hc e n => n) (fun b u hc e => ⟨u, k b u hc e⟩)
    (fun b xs e => e) (fun b u xs e => e) (fun b ps e => ⟨#[], by rw [e]; simp⟩) (fun m hm => ?_) (fun b u e => ?_) I.bare
  · obtain ⟨_, f1, _, f3, f4, f5⟩ := hf b hb
    exact ⟨f3, f1, f4, f5⟩
  · obtain ⟨ob, es, ep, ho, r⟩ := hm
    exact ⟨ob, es, ep, k _ ob (fun z => (hf _ z).2.1 rfl) ho, r⟩
  · refine (I.hok b u e).stay (fun c v hc q => k c v ?_ q) (fun c q => q) fun c xs q => q
    rcases hc with rfl | hc
    · exact nfp c u e
    · exact nfp c _ hc
end Ws
namespace Ws
open PySem
structure Def (P : Program) (w : World) (K : PySem.W.Frag) (mg : Str → Option Value) (base : Heap) (cm : Nat → Addr) (x : Str) (k : Nat) (ps : List Str) (f : Fun) (n : Nat) : Prop where
  ex : ∃ (fa : Addr) (fd : FuncData), L2.FnOk P w K mg base L2.CX0 k fa fd ps (SpF K cm f n) ∧ mg x = some (.ref fa) ∧ PySem.W.keepIn K (.ref fa) = true ∧ L2.Binds K fd ps []
  len : ∀ vs A v A', f vs A = .ok v A' → vs.length = n
section
variable {X : L2.Cx} {cm : Nat → Addr}
theorem r_callD {f : Fun} {n k k' : Nat} {ps : List Str} {x : Str} {e : Expr} {es : List Expr} {ds : AD} {p pos : Pos} (D : Def X.prog X.w X.K X.mg X.base cm x k ps f n) (hk : k ≤ k') (hr : L2.Room k' X.A) (hg : L2.Gl X x)
    (ha : L2.PA X (e :: es) (EvA X.K cm ds)) (hdb : (x == ("__debug__" : Str)) = false := by decide) (he : starEach (e :: es) X.env = (false, eval e X.env) :: starEach es X.env := by exact star_c rfl) (hpl : (backTo pos (starEach es X.env)).any (·.1) = false := by rfl) :
    L2.PE X (.Call (.Name x p) (e :: es) [] pos) (EvE X.K cm (eCall f ds)) := by
  obtain ⟨fa, fd, F, hm, hkp, hb⟩ := D.ex
  exact r_call F D.len (hr.mono hk) hg hm hkp hb ha hdb he hpl
theorem r_glob {x : Str} {i : Int} {pos : Pos} (hg : L2.Gl X x) (hm : ∃ t, X.mg x = some (.int i t)) (hd : (x == ("__debug__" : Str)) = false := by decide) : L2.PE X (.Name x pos) (EvE X.K cm (eK (.int i))) := by
  obtain ⟨t, hm⟩ := hm
  exact r_k (L2.pe_glob hg hm (show L2.RelV (.int i) (.int i t) from ⟨t, rfl⟩) hd) fun _ _ => .int i
end
end Ws
namespace Ws
open PySem
section
variable {prog : Program} {w : World} {A : Around} {R : Result → Shared → Prop} {s : Shared}
noncomputable abbrev testsOf (ifs : List Expr) (env : Env) : Sem Bool := forIn ifs true fun c r => if r = true then do let ok ← isTrue c env (eval c env); pure (ForInStep.yield ok) else pure (ForInStep.yield r)
theorem comp_loop {elt target iter : Expr} {ifs : List Expr} {scope : Scope} {pos : Pos} {it acc : Value} {env : Env} (I : Nat → Shared → Prop)
    (turn : ∀ n s, I n s → wpAny (model prog w) A (pyNext it) (fun r s₁ => match r with
      | none => R (.ok .next) s₁
      | some v => wpAny (model prog w) A (letOwnedTupleGo target it v) (fun _ s₀ => wpAny (model prog w) A (assign target env v) (fun _ s₂ =>
          wpAny (model prog w) A (testsOf ifs env) (fun ok s₃ =>
            if ok = true then wpAny (model prog w) A (eval elt env) (fun x s₄ =>
              wpAny (model prog w) A (call (.builtin "list.append") [acc, x]) (fun _ s₅ => ∃ m, m < n ∧ I m s₅) (fun _ _ => False) s₄) (fun _ _ => False) s₃
            else ∃ m, m < n ∧ I m s₃) (fun _ _ => False) s₂) (fun _ _ => False) s₀) (fun _ _ => False) s₁) (fun _ _ => False) s)
    (n : Nat) (h : I n s) : codeAny (model prog w) A (.compLoop (.ListComp elt [⟨target, iter, ifs, 0⟩] scope pos) 0 it acc env) R s := by
  have fe : ∀ {E' : Value → Shared → Prop} {e : Value} {s' : Shared}, False → E' e s' := fun h => h.elim
  refine codeAny_loop rfl I (fun n s hI => ?_) n h
  show wpAny _ A ((compTurn (.ListComp elt [⟨target, iter, ifs, 0⟩] scope pos) 0 it acc env).onRaise (fun x => do noteFrame x env; theTreesLotGoes x)) _ _ s
  refine wpAny_noted ?_
  rw [compTurn_list]
  refine wpAny_bind (wpAny_standAt (wpAny_bind (wpAny_mono (turn n s hI) (fun r s₁ h₁ => ?_) fun _ _ h' => h'.elim)))
  cases r with
  | none => exact wpAny_pure h₁
  | some v =>
    refine wpAny_bind (wpAny_mono h₁ (fun _ s₀ h₀ => ?_) fun _ _ h' => h'.elim)
    refine wpAny_bind (wpAny_mono h₀ (fun _ s₂ h₂ => wpAny_bind (wpAny_mono h₂ (fun ok s₃ h₃ => ?_) fun _ _ h' => h'.elim)) fun _ _ h' => h'.elim)
    cases ok with
    | false => exact wpAny_pure ⟨rfl, h₃⟩
    | true =>
      exact wpAny_bind (wpAny_bind (wpAny_mono h₃ (fun x s₄ h₄ => wpAny_bind (wpAny_mono h₄ (fun _ s₅ h₅ => wpAny_pure (wpAny_pure ⟨rfl, h₅⟩)) fun _ _ h' => h'.elim)) fun _ _ h' => h'.elim))
end
noncomputable def blk (X : L2.Cx) (N : List Str) (scope : Scope) (cl : List (Str × Addr)) (C : Addr) (s₀ : Shared) (H₀ : L2.Hp) (fp : List Addr) : L2.Cx where
  prog := X.prog
  w := X.w
  K := X.K
  mg := X.mg
  base := X.base
  A := X.A
  N := N
  s₀ := s₀
  H₀ := H₀
  env := compEnvC scope cl C X.env
  outer := X.stack
  stack := X.stack
  ex := fp
  fn := fun _ => false
  calm := X.calm
  pn := []
  xe := fun _ _ => False
inductive FreeOk (X : L2.Cx) (scope : Scope) (cl : List (Str × Addr)) : List Str → List (Option Nat) → Prop where
  | nil : FreeOk X scope cl [] []
  | own {x : Str} {N : List Str} {js : List (Option Nat)} (h : FreeOk X scope cl N js) : FreeOk X scope cl (x :: N) (none :: js)
  | free {x : Str} {j : Nat} {N : List Str} {js : List (Option Nat)} (h1 : X.N[j]? = some x) (h2 : X.env.kindOf x = some .cell ∨ X.env.kindOf x = some .free) (h3 : L2.Vis X.env.scope x) (h4 : cl.lookup x = X.env.cells.lookup x) (h5 : (relabel scope X.env).names.lookup x = some .cell ∨ (relabel scope X.env).names.lookup x = some .free) (h : FreeOk X scope cl N js) : FreeOk X scope cl (x :: N) (some j :: js)
theorem FreeOk.len {X : L2.Cx} {scope : Scope} {cl : List (Str × Addr)} : ∀ {N : List Str} {js : List (Option Nat)}, FreeOk X scope cl N js → js.length = N.length
  | _, _, .nil => rfl
  | _, _, .own h => by simp [h.len]
  | _, _, .free _ _ _ _ _ h => by simp [h.len]
theorem FreeOk.get {X : L2.Cx} {scope : Scope} {cl : List (Str × Addr)} : ∀ {N : List Str} {js : List (Option Nat)} {i j : Nat} {x : Str}, FreeOk X scope cl N js → N[i]? = some x → js[i]? = some (some j) → X.N[j]? = some x ∧ (X.env.kindOf x = some .cell ∨ X.env.kindOf x = some .free) ∧ L2.Vis X.env.scope x ∧ cl.lookup x = X.env.cells.lookup x ∧ ((relabel scope X.env).names.lookup x = some .cell ∨ (relabel scope X.env).names.lookup x = some .free)
  | _, _, _, _, _, .nil, h, _ => by simp at h
  | _, _, 0, _, _, .own _, _, h => by simp at h
  | _, _, i + 1, _, _, .own h, h1, h2 => FreeOk.get (i := i) h (by simpa using h1) (by simpa using h2)
  | _, _, 0, _, _, .free a b c d e _, h1, h2 => by simp at h1 h2; subst h1; subst h2; exact ⟨a, b, c, d, e⟩
  | _, _, i + 1, _, _, .free _ _ _ _ _ h, h1, h2 => FreeOk.get (i := i) h (by simpa using h1) (by simpa using h2)
theorem bst_get {α : Type} {js : List (Option Nat)} {σ : List (Option α)} {i : Nat} {v : α} (h : (bst js σ)[i]? = some (some v)) : ∃ j, js[i]? = some (some j) ∧ σ[j]? = some (some v) := by
  unfold bst at h
  rw [List.getElem?_map] at h
  rcases e : js[i]? with _ | (_ | j)
  · rw [e] at h; cases h
  · rw [e] at h; cases h
  · rw [e] at h
    refine ⟨j, rfl, ?_⟩
    have h' : σ.getD j none = some v := Option.some.inj h
    rw [List.getD_eq_getElem?_getD] at h'
    rcases e2 : σ[j]? with _ | o
    · rw [e2] at h'; cases h'
    · rw [e2] at h'; exact congrArg some h'
theorem RSt.bst {ρ : List Addr} {H : L2.Hp} {σp : PSt} {σ : L2.St} (h : RSt ρ H σp σ) (js : List (Option Nat)) : RSt ρ H (Ws.bst js σp) (Ws.bst js σ) := by
  refine ⟨by simp [Ws.bst], fun i p hp => ?_⟩
  obtain ⟨j, h1, h2⟩ := bst_get hp
  obtain ⟨v, h3, h4⟩ := h.get j p h2
  refine ⟨v, ?_, h4⟩
  unfold Ws.bst
  rw [List.getElem?_map, h1]
  show some (σ.getD j none) = _
  rw [List.getD_eq_getElem?_getD, h3]; rfl
structure ScOk (X : L2.Cx) (scope : Scope) (cl : List (Str × Addr)) : Prop where
  kind : scope.kind = .function
  clos : closureFor scope X.env = pure cl
  nocell : ∀ y ∈ scope.names, y.2 ≠ .cell
  names : ∀ y ∈ scope.names, y.2 = .local → scope.names.lookup y.1 = some .local
  sub : ∀ p ∈ cl, X.env.cells.lookup p.1 = some p.2
  has : ∀ y ∈ scope.names, y.2 = .free → (cl.lookup y.1).isSome = true
theorem relabel_has {X : L2.Cx} {scope : Scope} {cl : List (Str × Addr)} (S : ScOk X scope cl) {x : Str} (h : (relabel scope X.env).names.lookup x = some .cell ∨ (relabel scope X.env).names.lookup x = some .free) : ∃ c, cl.lookup x = some c := by
  have key : ∀ k, (x, k) ∈ (relabel scope X.env).names → k = .cell ∨ k = .free → ∃ c, cl.lookup x = some c := fun k hm hk => by
    unfold relabel at hm
    obtain ⟨⟨n, k'⟩, hy, e⟩ := List.mem_map.mp hm
    dsimp only at e
    have hfree : n = x ∧ k' = .free := by
      split at e
      · rename_i hc
        cases e
        simp only [Bool.and_eq_true, beq_iff_eq] at hc
        exact ⟨rfl, hc.1.1⟩
      · cases e
        rcases hk with rfl | rfl
        · exact absurd rfl (S.nocell _ hy)
        · exact ⟨rfl, rfl⟩
    obtain ⟨rfl, rfl⟩ := hfree
    exact Option.isSome_iff_exists.mp (S.has _ hy rfl)
  rcases h with h | h
  · exact key _ (PySem.mem_of_lookup h) (.inl rfl)
  · exact key _ (PySem.mem_of_lookup h) (.inr rfl)
section
variable {X : L2.Cx} {cm : Nat → Addr} {pins : List (Addr × Obj)} {σ : L2.St} {H : L2.Hp} {s : Shared}
theorem blk_start {N : List Str} {js : List (Option Nat)} {scope : Scope} {cl : List (Str × Addr)} {C : Addr} {fp : List Addr} {h' : Heap} {t' : Nat} {m : Str → Option Value} (S : ScOk X scope cl) (Fr : FreeOk X scope cl N js) (I : L2.Inv X pins σ H s) (hf : ∀ b ∈ fp, L2.FpOk X pins H b) (hfl : ∀ b ∈ fp, b < s.heap.objs.size)
    (hC : s.heap.objs.size ≤ C) (kp : ∀ b u, s.heap.get? b = some u → h'.get? b = some u) (hns : h'.Ns C m) : L2.Inv (blk X N scope cl C s H fp) [] (Ws.bst js σ) H { s with heap := h', toks := t' } := by
  have I1 : L2.Inv X pins σ H { s with heap := h', toks := t' } := I.kept kp
  have sub : ∀ x c, cl.lookup x = some c → X.env.cells.lookup x = some c := fun x c e => S.sub (x, c) (PySem.mem_of_lookup e)
  refine ⟨⟨I.ok.mod, S.kind, I.ok.glob, I.ok.blt, hC, fun x y c h1 h2 => I.ok.inj x y c (sub x c h1) (sub y c h2), fun x hx => relabel_has S hx, fun x c h => (nomatch h), I.ok.hd, I.ok.frames, .inl rfl, fun b hb => ⟨Nat.ne_of_lt (Nat.lt_of_lt_of_le (hfl b hb) hC), fun x c e => (hf b hb).2.2.2.2.1 x c (sub x c e)⟩,
    I.bs, Nat.le_trans I.ok.bsz I.sz, fun b o e hb => ?_, fun b hb hz => ?_, I.stack, I.stkFree⟩, rfl, I.bare, L2.Un.kept kp, ⟨m, hns, fun i x v h1 h2 h3 => ?_⟩, fun x c e => I1.cell x c (sub x c e), I.hok.fresh hC, fun x c e => I.freeC x c (sub x c e), fun p hp => absurd (show p ∈ ([] : List (Addr × Obj)) from hp) (by simp), I1.hok, by simp [Ws.bst, Fr.len, blk]⟩
  · rcases (hf b hb).2.2.2.1 with z | z
    · exact I.ok.noex b o e z
    · exact absurd (Nat.lt_of_lt_of_le (Heap.lt_size e) (Nat.le_trans I.ok.bsz z)) (Nat.lt_irrefl _)
  · rcases List.mem_cons.mp (I.stkSub b hz) with z | z
    · exact (hf b hb).2.1 z
    · exact (hf b hb).2.2.1 z
  · obtain ⟨j, j1, j2⟩ := bst_get h2
    obtain ⟨a1, a2, a3, a4, a5⟩ := Fr.get h1 j1
    obtain ⟨m0, _, hl⟩ := I1.loc
    obtain ⟨u, ru, lk⟩ := hl j x v a1 j2 a3
    refine ⟨u, ru, ?_⟩
    rcases lk with ⟨q, _⟩ | ⟨_, c, e1, e2⟩
    · rcases a2 with a2 | a2 <;> (rw [a2] at q; cases q)
    · exact .inr ⟨a5, c, a4.trans e1, e2⟩
theorem adopt {D : Addr} {o : L2.HO} {fp : List Addr} (I : L2.Inv X pins σ H s) (hD : L2.FpOk X pins H D) (new : L2.ObjOk X.prog X.w (L2.upd H D o) s.heap D o) : L2.Inv X pins σ (L2.upd H D o) s := by
  have hn := hD.1
  have ne : ∀ b u, H b = some u → b ≠ D := fun b u e z => by rw [z, hn] at e; cases e
  obtain ⟨hp, g, d, tk, os⟩ := s
  refine I.step (g' := g) (d' := d) (t' := tk) (h' := hp) (ch := [D]) (fun b hb => ?_) (fun b u _ _ _ e _ => e) (fun b u _ _ _ e _ => ⟨u.slots, e⟩) (fun b u hc e n => by rw [L2.upd_ne (fun z => hc (by simp [z]))]; exact n) (fun b u _ e => ⟨u, e⟩)
    (fun b xs e => by rw [L2.upd_ne (ne b _ e)]; exact e) (fun b u xs e => by rw [L2.upd_ne (ne b _ e)]; exact e) (fun b ps e => ⟨#[], by rw [L2.upd_ne (ne b _ e), e]; simp⟩) (fun m hm => hm) (fun b u e => ?_) I.bare
  · have e : b = D := by simpa using hb
    subst e
    exact ⟨hD.2.2.2.1, hD.2.1, hD.2.2.2.2.1, hD.2.2.2.2.2⟩
  · by_cases hb : b = D
    · subst hb; rw [L2.upd_same] at e; cases e; exact new
    · rw [L2.upd_ne hb] at e
      exact (I.hok b u e).stay (fun c v _ q => q) (fun c q => by rw [L2.upd_ne (ne c _ q)]; exact q) fun c xs q => by rw [L2.upd_ne (ne c _ q)]; exact q
end
end Ws
namespace Ws
open PySem
section
variable {X : L2.Cx} {cm : Nat → Addr}
noncomputable def PTs (X : L2.Cx) (ifs : List Expr) (t : L2.TT) : Prop :=
  ∀ (pins : List (Addr × Obj)) (s : Shared) (σ : L2.St) (H : L2.Hp) (Q : Bool → L2.Hp → Prop), L2.Inv X pins σ H s → t σ H Q → wpAny (model X.prog X.w) X.A (testsOf ifs X.env) (L2.TP X pins σ Q) X.xe s
theorem ts_nil : PTs X [] (EvT X.K cm tTrue) := fun pins s σ H Q I ⟨ρ, A, σp, b, A', rl, rs, ev, k⟩ => by
  cases ev
  exact wpAny_tests_nil ⟨H, I, k ρ H (Ext.refl _ _) rl⟩
theorem comp_core {elt tg iter : Expr} {ifs : List Expr} {scope : Scope} {pos : Pos} {cl : List (Str × Addr)} {N : List Str} {js : List (Option Nat)} {g : GD} {t : TD} {e : ED} {pins : List (Addr × Obj)} {σ : L2.St} {H : L2.Hp} {s : Shared}
    {it : Addr} {fp : List Addr} {tn : Nat → Heap → Prop} {j : L2.It} {J : It} {ρ : List Addr} {A A' : PHp} {σp : PSt} {n : Nat} {ys : List PV} {RR : Value → Addr → Result → Shared → Prop} {E : Value → Shared → Prop}
    (hc : X.calm = true) (S : ScOk X scope cl) (Fr : FreeOk X scope cl N js)
    (hg : ∀ C s0 H0 fp, L2.PG (blk X N scope cl C s0 H0 fp) tg (EvG X.K cm g)) (ht : ∀ C s0 H0 fp, PTs (blk X N scope cl C s0 H0 fp) ifs (EvT X.K cm t)) (he : ∀ C s0 H0 fp, L2.PE (blk X N scope cl C s0 H0 fp) elt (EvE X.K cm e))
    (I : L2.Inv X pins σ H s) (T : L2.Turn X.prog X.w X.K tg j fp it tn) (st : tn 0 s.heap) (hf : ∀ b ∈ fp, L2.FpOk X pins H b) (rj : RIt X.K ρ H J j) (rl : Rel X.K cm ρ A H) (rs : RSt ρ H σp σ)
    (ev : cturns J g t e (n + 1) 0 (Ws.bst js σp) A = .ok ys A') (hy : ys.length ≤ LIM)
    (hRR : ∀ D C s' m, s'.heap.Ns C m → C ≠ X.env.locals → (∀ h'', Heap.SameBut C s'.heap h'' → ∃ ρ' H', Ext ρ H ρ' H' ∧ Rel X.K cm ρ' (A' ++ [.lst ys]) H' ∧ ρ'[A'.length]? = some D ∧ L2.Inv X pins σ H' { s' with heap := h'' } ∧ L2.FpOk X pins H' C) → RR (.ref D) C (.ok .next) s') :
    wpAny (model X.prog X.w) X.A (newList []) (fun acc s₃ => wpAny (model X.prog X.w) X.A (newFunctionEnv scope X.env.globals cl [] X.env.qual none .none (some X.env)) (fun cenv s₄ =>
      codeAny (model X.prog X.w) X.A (.compStart (.ListComp elt [⟨tg, iter, ifs, 0⟩] scope pos) 0 (.ref it) acc { cenv with scope := relabel scope X.env }) (RR acc cenv.locals) s₄) E s₃) E s := by
  refine wpAny_newObj_type (wpAny_newFunctionEnv S.nocell (by intro y hy; simp at hy) (fun h₁ hns₁ hsb₁ => ?_) S.kind)
  dsimp only at hns₁ hsb₁ ⊢
  generalize hH2 : s.heap.push { cls := .type "list", dict := none, data := .seq ([] : List Value).toArray } = H2 at hns₁ hsb₁ ⊢
  have hCz : H2.objs.size = s.heap.objs.size + 1 := by rw [← hH2, Heap.size_push]
  have hfl : ∀ b ∈ fp, b < s.heap.objs.size := fun b hb => by
    obtain ⟨o, ho, _⟩ := T.obj 0 _ st b hb
    exact Heap.lt_size ho
  have hDC : s.heap.objs.size ≠ H2.objs.size := by rw [hCz]; exact Nat.ne_of_lt (Nat.lt_succ_self _)
  have hCle : s.heap.objs.size ≤ H2.objs.size := by rw [hCz]; exact Nat.le_succ _
  have old : ∀ b o, s.heap.get? b = some o → h₁.get? b = some o := fun b o q => hsb₁.extBut b o (by rw [hCz]; exact Nat.ne_of_lt (Nat.lt_succ_of_lt (Heap.lt_size q))) (Heap.get?_push_of_some _ (hH2 ▸ Heap.get?_push_of_some _ q))
  have hacc : h₁.PlainList s.heap.objs.size #[] := ⟨_, hsb₁.extBut _ _ hDC (Heap.get?_push_of_some _ (hH2 ▸ Heap.get?_push_size _ rfl))⟩
  generalize hDe : s.heap.objs.size = D at *
  generalize hCe : H2.objs.size = C at *
  let Y := blk X N scope cl C s H fp
  have hDfp : ∀ b ∈ fp, b ≠ D := fun b hb => Nat.ne_of_lt (hfl b hb)
  have lt_of : ∀ b o, s.heap.get? b = some o → b < D := fun b o q => by rw [← hDe]; exact Heap.lt_size q
  have nD : D ∉ L2.frs X.stack := fun z => by
    obtain ⟨_, o, ho, _⟩ := I.stack.mem z
    exact Nat.lt_irrefl _ (lt_of _ _ ho)
  have cellD : ∀ x c, X.env.cells.lookup x = some c → c < D := fun x c q => by
    obtain ⟨v, o, ho, _⟩ := I.cell x c q
    exact lt_of _ _ ho
  have subc : ∀ x c, cl.lookup x = some c → X.env.cells.lookup x = some c := fun x c q => S.sub (x, c) (PySem.mem_of_lookup q)
  have fpY : ∀ (ps : List (Addr × Obj)) (H' : L2.Hp), (∀ p ∈ ps, ∀ b ∈ fp, p.1 ≠ b) → (∀ b ∈ fp, H' b = none) → ∀ b ∈ fp, L2.FpOk Y ps H' b := fun ps H' hps hn b hb =>
    ⟨hn b hb, Nat.ne_of_lt (Nat.lt_of_lt_of_le (hfl b hb) hCle), fun hz => (List.mem_cons.mp (I.stkSub b hz)).elim (hf b hb).2.1 (hf b hb).2.2.1, .inl hb, fun x c q => (hf b hb).2.2.2.2.1 x c (subc x c q), fun p hp => hps p (by simpa [Y, blk] using hp) b hb⟩
  have I0 : L2.Inv Y [] (Ws.bst js σ) H { s with heap := h₁, toks := s.toks + ([] : List (Str × Value)).length } := blk_start S Fr I hf (fun b hb => by rw [hDe]; exact hfl b hb) (by rw [hDe]; exact hCle) old hns₁
  have st1 : tn 0 h₁ := T.keep 0 _ _ st fun b hb o q => old b o q
  have loop : ∀ s₃ : Shared, s₃ = { s with heap := h₁, toks := s.toks + ([] : List (Str × Value)).length } →
      codeAny (model X.prog X.w) X.A (.compLoop (.ListComp elt [⟨tg, iter, ifs, 0⟩] scope pos) 0 (.ref it) (.ref D) (compEnvC scope cl C X.env)) (RR (.ref D) C) s₃ := by
    rintro s₃ rfl
    refine comp_loop (fun m s' => ∃ i σ' H' ρ' B σp' rest accp accv its, L2.Inv Y [] σ' H' s' ∧ tn i s'.heap ∧ (∀ b ∈ fp, H' b = none) ∧ Ext ρ H ρ' H' ∧ Rel X.K cm ρ' B H' ∧ RSt ρ' H' σp' σ' ∧ cturns J g t e (m + 1) i σp' B = .ok rest A' ∧
      s'.heap.PlainList D (List.toArray its) ∧ H' D = none ∧ L2.Vals accv its ∧ RVs ρ' H' accp accv ∧ accp ++ rest = ys) ?_ n ⟨0, _, H, ρ, A, Ws.bst js σp, ys, [], [], [], I0, st1, fun b hb => (hf b hb).1, Ext.refl _ _, rl, rs.bst js, ev, hacc, by rw [← hDe]; exact I.hok.fresh (Nat.le_refl _), .nil, .nil, rfl⟩
    rintro m s' ⟨i, σ', H', ρ', B, σp', rest, accp, accv, its, I1, st', fn', x1, rl1, rs1, ev1, pl, hDn, va, ra, hys⟩
    obtain ⟨nD0, hDo⟩ := id pl
    have dD : ∀ v, ({ cls := .type "list", data := .seq its.toArray nD0 } : Obj).data ≠ .cell v := fun v z => nomatch z
    have I2 : L2.Inv Y [(D, { cls := .type "list", data := .seq its.toArray nD0 })] σ' H' s' := I1.pins_of fun p hp => by
      have e : p = (D, { cls := .type "list", data := .seq its.toArray nD0 }) := by simpa using hp
      subst e
      exact ⟨hDo, hDn, hDC, nD, dD⟩
    have f2 := fpY [(D, { cls := .type "list", data := .seq its.toArray nD0 })] H' (fun p hp b hb => by
      have e : p = (D, { cls := .type "list", data := .seq its.toArray nD0 }) := by simpa using hp
      subst e
      exact (hDfp b hb).symm) fn'
    rw [cturns_succ] at ev1
    obtain ⟨x, B1, e1, ev2⟩ := bnd_inv ev1
    obtain ⟨rfl, hit⟩ := item_ok rl1 (rj.mono x1) e1
    cases x with
    | none =>
      cases ev2
      rw [List.append_nil] at hys
      subst hys
      refine L2.thn (T.done Y rfl rfl rfl hc i _ s' σ' H' (fun _ _ => False) I2 f2 st' hit) fun r s1 ⟨hr, I3⟩ => ?_
      subst hr
      have hD3 := I3.pin (D, { cls := .type "list", data := .seq its.toArray nD0 }) (by simp)
      obtain ⟨mC, hnC, _⟩ := id I3.loc
      refine hRR D C s1 mC hnC (fun z => ?_) fun h2 sb => ?_
      · have := I.lt
        rw [← z, hDe] at this
        exact absurd (Nat.lt_of_lt_of_le this hCle) (Nat.lt_irrefl _)
      · have ch : ∀ b ∈ fp, (b ∈ X.ex ∨ X.s₀.heap.objs.size ≤ b) ∧ b ≠ X.env.locals ∧ (∀ x c, X.env.cells.lookup x = some c → c ≠ b) ∧ ∀ p ∈ X.pn ++ pins, p.1 ≠ b := fun b hb => ⟨(hf b hb).2.2.2.1, (hf b hb).2.1, (hf b hb).2.2.2.2.1, (hf b hb).2.2.2.2.2⟩
        have IX : L2.Inv X pins σ H' s1 := I.call' I3.os I3.base I3.hok I3.bare ch
        have fpn : ∀ (H'' : L2.Hp) b, D ≤ b → H'' b = none → L2.FpOk X pins H'' b := fun H'' b hb hn => by
          rw [← hDe] at hb
          exact I.fpOk (H' := H'') hb hn
        have IX2 : L2.Inv X pins σ H' { s1 with heap := h2 } := IX.turned (t' := s1.toks) (fun b o hb q => (sb.2 b hb).trans q) I3.free (fpn H' C hCle I3.free).2.1 (fpn H' C hCle I3.free).2.2.2.1 (fpn H' C hCle I3.free).2.2.2.2.1 (fpn H' C hCle I3.free).2.2.2.2.2
        have hlen : accv.length ≤ sizeLine := by rw [← ra.length]; exact LIM_line hy
        have IX3 : L2.Inv X pins σ (L2.upd H' D (.lst accv)) { s1 with heap := h2 } := adopt (fp := fp) IX2 (fpn H' D (Nat.le_refl _) hDn) ⟨hlen, its, nD0, va, (sb.2 D hDC).trans hD3.1⟩
        have ex : Ext ρ' H' (ρ' ++ [D]) (L2.upd H' D (.lst accv)) := Ext.new hDn
        refine ⟨ρ' ++ [D], L2.upd H' D (.lst accv), x1.trans ex, rl1.alloc hDn ⟨accv, L2.upd_same, ra.mono ex⟩ rfl, by rw [← rl1.len]; simp, IX3, fpn _ C hCle ?_⟩
        rw [L2.upd_ne (Ne.symm hDC)]; exact I3.free
    | some v =>
      refine L2.thn (T.item Y rfl rfl rfl hc i _ s' σ' H' (fun _ _ => False) I2 f2 st' hit.1) fun r s1 ⟨u, hr, h4⟩ => ?_
      subst hr
      refine L2.thn h4 fun _ s2 ⟨xv, H3, I3, ru, hyl, st3, fn3⟩ => ?_
      obtain ⟨x2, rl3, rv3⟩ := hit.2 xv H3 hyl
      have f3 := fpY [(D, { cls := .type "list", data := .seq its.toArray nD0 })] H3 (fun p hp b hb => by
        have e : p = (D, { cls := .type "list", data := .seq its.toArray nD0 }) := by simpa using hp
        subst e
        exact (hDfp b hb).symm) fn3
      have I4 := I3.pinned f3 (T.obj _ _ st3)
      obtain ⟨σ4, B4, e4, ev3⟩ := bnd_inv ev2
      obtain ⟨b5, B5, e5, ev4⟩ := bnd_inv ev3
      refine L2.thn (hg C s H fp _ s2 σ' H3 xv u (fun σ5 H5 => ∃ ρ5, Ext ρ' H3 ρ5 H5 ∧ Rel X.K cm ρ5 B4 H5 ∧ RSt ρ5 H5 σ4 σ5) I4 ru ⟨ρ', B1, σp', v, σ4, B4, rl3, rs1.mono x2, rv3, e4, fun ρ5 H5 σ5 x5 rl5 rs5 => ⟨ρ5, x5, rl5, rs5⟩⟩) fun _ s5 ⟨σ5, H5, I5, ρ5, x5, rl5, rs5⟩ => ?_
      refine L2.thn (ht C s H fp _ s5 σ5 H5 (fun b H6 => b = b5 ∧ ∃ ρ6, Ext ρ5 H5 ρ6 H6 ∧ Rel X.K cm ρ6 B5 H6) I5 ⟨ρ5, B4, σ4, b5, B5, rl5, rs5, e5, fun ρ6 H6 x6 rl6 => ⟨rfl, ρ6, x6, rl6⟩⟩) fun ok s6 ⟨H6, I6, hok, ρ6, x6, rl6⟩ => ?_
      subst hok
      have x16 : Ext ρ' H' ρ6 H6 := (x2.trans x5).trans x6
      have unpin : ∀ {σ7 : L2.St} {H7 : L2.Hp} {s7 : Shared}, L2.Inv Y ([(D, { cls := .type "list", data := .seq its.toArray nD0 })] ++ L2.pinsAt fp s2.heap) σ7 H7 s7 → (s7.heap.get? D = some { cls := .type "list", data := .seq its.toArray nD0 } ∧ H7 D = none) ∧ (∀ b ∈ fp, H7 b = none) ∧ (∀ b ∈ fp, ∀ o, s2.heap.get? b = some o → s7.heap.get? b = some o) := fun {σ7 H7 s7} I7 => by
        have p1 := I7.pin (D, { cls := .type "list", data := .seq its.toArray nD0 }) (List.mem_append_right _ (List.mem_append_left _ (by simp)))
        refine ⟨⟨p1.1, p1.2.1⟩, fun b hb => ?_, fun b hb o q => ?_⟩
        · obtain ⟨o, q, _⟩ := T.obj _ _ st3 b hb
          exact (I7.pin (b, o) (List.mem_append_right _ (List.mem_append_right _ (L2.mem_pinsAt hb q)))).2.1
        · exact (I7.pin (b, o) (List.mem_append_right _ (List.mem_append_right _ (L2.mem_pinsAt hb q)))).1
      have bare0 : ∀ {ps : List (Addr × Obj)} {σ7 : L2.St} {H7 : L2.Hp} {s7 : Shared}, L2.Inv Y ps σ7 H7 s7 → L2.Inv Y [] σ7 H7 s7 := fun I7 => I7.pins_of fun p hp => absurd hp (by simp)
      cases ok with
      | false =>
        rw [if_neg (by simp)]
        rw [if_neg (by simp)] at ev4
        cases m with
        | zero => rw [cturns_zero] at ev4; cases ev4
        | succ m =>
          obtain ⟨⟨u1, u2⟩, u3, u4⟩ := unpin I6
          exact ⟨m, Nat.lt_succ_self _, i + 1, σ5, H6, ρ6, B5, σ4, rest, accp, accv, its, bare0 I6, T.keep _ _ _ st3 u4, u3, x1.trans x16, rl6, rs5.mono x6, ev4, ⟨nD0, u1⟩, u2, va, ra.mono x16, hys⟩
      | true =>
        rw [if_pos rfl]
        rw [if_pos rfl] at ev4
        obtain ⟨y, B7, e7, ev5⟩ := bnd_inv ev4
        obtain ⟨more, B8, e8, ev6⟩ := bnd_inv ev5
        cases ev6
        refine L2.thn (he C s H fp _ s6 σ5 H6 (fun yv H7 => ∃ ρ7, Ext ρ6 H6 ρ7 H7 ∧ Rel X.K cm ρ7 B7 H7 ∧ RV ρ7 H7 y yv) I6 ⟨ρ6, B5, σ4, y, B7, rl6, rs5.mono x6, e7, fun ρ7 H7 yv x7 rl7 rv7 => ⟨ρ7, x7, rl7, rv7⟩⟩) fun yu s7 ⟨yv, H7, I7, ry, ρ7, x7, rl7, rv7⟩ => ?_
        obtain ⟨⟨u1, u2⟩, u3, u4⟩ := unpin I7
        have hlen : its.length ≤ sizeLine := by
          rw [← va.length, ← ra.length]
          refine LIM_line (Nat.le_trans ?_ hy)
          rw [← hys, List.length_append]; exact Nat.le_add_right _ _
        refine wpAny_list_append_plain (items := its.toArray) ⟨nD0, u1⟩ (fun h8 pl8 sb8 => ?_) (by rw [List.size_toArray]; exact hlen)
        have I8 : L2.Inv Y [] σ5 H7 { s7 with heap := h8 } := (bare0 I7).turned (t' := s7.toks) (fun b o hb q => (sb8.2 b hb).trans q) u2 hDC (.inr (by show s.heap.objs.size ≤ D; rw [hDe]; exact Nat.le_refl _)) (fun x c q => Nat.ne_of_lt (cellD x c (subc x c q))) (fun p hp => absurd (show p ∈ ([] : List (Addr × Obj)) from hp) (by simp))
        cases m with
        | zero => rw [cturns_zero] at e8; cases e8
        | succ m =>
          have x17 := x16.trans x7
          refine ⟨m, Nat.lt_succ_self _, i + 1, σ5, H7, ρ7, B7, σ4, more, accp ++ [y], accv ++ [yv], its ++ [yu], I8, T.keep _ _ _ st3 fun b hb o q => (sb8.2 b (hDfp b hb)).trans (u4 b hb o q), u3, x1.trans x17, rl7, (rs5.mono x6).mono x7, e8, by simpa using pl8, u2, va.append (.cons ry .nil), (ra.mono x17).append (.cons rv7 .nil), by rw [← hys]; simp⟩
  exact codeAny_compStart_list (loop _ rfl) (T.self X.A 0 _ _ _ st1 (loop _ rfl))
end
end Ws
namespace Ws
open PySem
section
variable {X : L2.Cx} {cm : Nat → Addr}
theorem r_comp {elt tg iter : Expr} {ifs : List Expr} {scope : Scope} {pos : Pos} {cl : List (Str × Addr)} {N : List Str} (js : List (Option Nat)) {it : ID} {g : GD} {t : TD} {e : ED} (hc : X.calm = true) (S : ScOk X scope cl) (Fr : FreeOk X scope cl N js) (hi : L2.PI X tg iter (EvI X.K cm it))
    (hg : ∀ C s0 H0 fp, L2.PG (blk X N scope cl C s0 H0 fp) tg (EvG X.K cm g)) (ht : ∀ C s0 H0 fp, PTs (blk X N scope cl C s0 H0 fp) ifs (EvT X.K cm t)) (he : ∀ C s0 H0 fp, L2.PE (blk X N scope cl C s0 H0 fp) elt (EvE X.K cm e))
    (hs : ∀ x, foldedSetIterable iter X.env x = pure x := by intro _; rfl) : L2.PE X (.ListComp elt [⟨tg, iter, ifs, 0⟩] scope pos) (EvE X.K cm (eComp it (Ws.bst js) g t e)) := by
  intro pins s σ H Q I ⟨ρ, A, σp, v, A', rl, rs, ev, k⟩
  obtain ⟨J, A1, e1, ev1⟩ := bnd_inv ev
  obtain ⟨n, A2, e2, ev2⟩ := bnd_inv ev1
  obtain rfl := fuel_same e2
  obtain ⟨ys, A3, e3, ev3⟩ := bnd_inv ev2
  obtain ⟨c, ev4⟩ := guard_inv ev3
  cases ev4
  rw [eval_ListComp]
  refine wpAny_comprehension_free (use := none) rfl hs S.clos S.kind S.names (wpAny_mono (hi pins s σ H (fun j H1 => ∃ ρ1, Ext ρ H ρ1 H1 ∧ Rel X.K cm ρ1 A2 H1 ∧ RIt X.K ρ1 H1 J j) I ⟨ρ, A, σp, J, A2, rl, rs, e1, fun ρ1 H1 j x1 rl1 rj => ⟨ρ1, x1, rl1, rj⟩⟩) (fun xv s1 h1 => wpAny_mono h1 (fun itv s2 h2 => ?_) fun _ _ z => z) fun _ _ z => z)
  obtain ⟨itA, fp, tn, j, H1, rfl, I1, T, st, hf, ρ1, x1, rl1, rj⟩ := h2
  refine comp_core (RR := fun acc C => compPost (model X.prog X.w) X.A X.xe none (L2.EP X pins σ Q) acc C) hc S Fr hg ht he I1 T st hf rj rl1 (rs.mono x1) e3 c fun D C s' m hn hCL hfin => ⟨m, hn, fun h'' sb => ?_⟩
  obtain ⟨ρ2, H2, x2, rl2, hD, I2, _⟩ := hfin h'' sb
  exact ⟨.ref D, H2, I2, rfl, k ρ2 H2 _ (x1.trans x2) rl2 (.ref hD)⟩
end
theorem fa_nil {α : Type} {P : α → Prop} : ∀ x ∈ ([] : List α), P x := fun _ h => nomatch h
theorem fa_cons {α : Type} {P : α → Prop} {a : α} {l : List α} (h : P a) (r : ∀ x ∈ l, P x) : ∀ x ∈ a :: l, P x := fun x hx => (List.mem_cons.mp hx).elim (fun e => e ▸ h) (r x)
end Ws
namespace Ws
open PySem PySem.W PyProof.Rows
end Ws
namespace Ws
open PySem PySem.W PyProof.Rows
end Ws
namespace Ws
open PySem
theorem kit_all (K : PySem.W.Frag) : Kit K := ⟨fun a b ha hb => by
  simp only [List.mem_cons, List.not_mem_nil, or_false] at ha hb
  rcases ha with rfl | rfl | rfl | rfl | rfl | rfl <;> rcases hb with rfl | rfl | rfl | rfl <;> with_unfolding_all rfl⟩
noncomputable def SpLaw (K : PySem.W.Frag) : L2.Sp := fun vs H Q _ => ∃ (a : Addr) (ns : List Int), vs = [.ref a] ∧ L2.SqL K H a (ns.map L2.V.int) ∧ ns.length ≤ 63 ∧ L2.Only H ∧ ∀ H', Q (.bl true) H'
theorem law_sp {K : PySem.W.Frag} {cm : Nat → Addr} {f : Fun} (h : ∀ ns : List Int, ∃ A', f [.ref 0] [.ro (ns.map .int)] = .ok (.bl true) A') (vs : List L2.V) (H : L2.Hp) (Q : L2.VK) (E : L2.XK) (q : SpLaw K vs H Q E) : SpF K cm f 1 vs H Q E := by
  obtain ⟨a, ns, rfl, hS, _, hO, k⟩ := q
  obtain ⟨A', e⟩ := h ns
  have fz : Fz K H a (ns.map L2.V.int) := by
    rcases hS with (hS | hS) | hS
    · rcases hO a with z | ⟨o, xs, z⟩ <;> (rw [hS] at z; cases z)
    · exact .inl hS
    · exact .inr hS
  refine ⟨[a], [.ro (ns.map .int)], [.ref 0], .bl true, A', ⟨rfl, fun n o b h1 h2 => ?_, fun m n b o p h1 h2 h3 h4 m1 m2 => ?_⟩, .cons (.ref rfl) .nil, rfl, e, fun ρ' H' v' _ _ rv => by cases rv; exact k H'⟩
  · cases n with
    | zero => simp at h1 h2; subst h1; subst h2; exact ⟨_, fz, RVs.ints ns⟩
    | succ n => simp at h1
  · cases m with
    | zero => cases n with
      | zero => rfl
      | succ n => simp at h4
    | succ m => simp at h3
theorem law_walk {l : PySem.W.OpenLaw} {q : Program} {loose : List Str} {XP : (Str → Option Value) → Heap → Prop} {YP : World → Heap → Prop} {d : DefRec} {K : Params → PySem.W.Frag} {k : Nat} {x : Str} (hn : l.most = some 63) (hdf : d.params.defaults = []) (hr : L2.Room k PySem.callerA)
    (hY : ∀ (w : World) (h : Heap), YP w h → (K w.params).In h)
    (F : ∀ (w : World) (mg : Str → Option Value) (fa : Addr) (h : Heap), (K w.params).In h → h.Ns mainGlobals mg → mg d.name = some (.ref fa) →
      ∃ fd : FuncData, (∀ (s : Shared) (u : Value), BindsTo s fd ⟨[u], []⟩ [(x, u)]) ∧ ∀ base : Heap, (K w.params).In base → base.Ns mainGlobals mg → L2.FnOk l.prog w (K w.params) mg base L2.CX0 k fa fd [x] (SpLaw (K w.params))) :
    PySem.W.WalkO q loose XP YP l.row.toRowW d [] (fun f vs => PySem.call f vs) :=
  L2.walk_of (n := 63) (k := k) (x := x) (CX := fun _ => L2.CX0) (sp := fun w => SpLaw (K w.params)) hn (by decide) hdf hr hY F (fun _ H a ns hl hO hS => ⟨a, ns, rfl, hS, hl, hO, fun _ => rfl⟩) fun _ _ _ _ _ z => z
end Ws
open PySem PySem.Spec PyProof.Rows
namespace Ws
section
variable {X : L2.Cx} {cm : Nat → Addr}
theorem r_clear {o : Expr} {d : ED} {apos cpos : Pos} (ho : L2.PE X o (EvE X.K cm d)) (hb : attributeBase o "clear" X.env (eval o X.env) = eval o X.env := by rfl)
    (hline : (apos.endLine == cpos.line) = true := by rfl) : L2.PE X (.Call (.Attribute o "clear" apos) [] [] cpos) (EvE X.K cm (eClear d)) :=
  PE_imp (L2.pe_bm0 PySem.F.plainAttrs_list PySem.F.slot_list_clear PySem.F.type_list_clear L2.mt_clear ho (hbase := hb) (hline := hline)) fun σ H Q ⟨ρ, A, σp, v, A', rl, rs, ev, k⟩ => by
    obtain ⟨x, A1, e1, ev1⟩ := bnd_inv ev
    refine ⟨ρ, A, σp, x, A1, rl, rs, e1, fun ρ1 H1 v1 x1 rl1 rv1 => ?_⟩
    cases x with
    | ref n =>
      obtain ⟨l0, A2, e2, ev2⟩ := bnd_inv ev1
      obtain ⟨rfl, hA, a, xs, rfl, hn, hH, r0⟩ := mut_read rl1 rv1 e2
      refine ⟨.inl ⟨rfl, xs, L2.SqL.of hH⟩, ?_⟩
      cases ev2
      have ex : Ext ρ1 H1 ρ1 (L2.upd H1 a (.lst [])) := Ext.put rl1 hn hA rfl
      exact ⟨a, xs, rfl, rfl, hH, k ρ1 _ _ (x1.trans ex) (rl1.put hn hA rfl rfl ⟨_, L2.upd_same, .nil⟩) .non⟩
    | _ => cases ev1
end
end Ws
namespace Ws
open PySem
end Ws
namespace Ws
open PySem
end Ws
namespace Ws
open PySem
end Ws
namespace Ws
open PySem PySem.W PyProof.Rows
end Ws
namespace Ws
open PySem PySem.W PyProof.Rows
end Ws
namespace Ws
open PySem PySem.W PyProof.Rows
end Ws
namespace Ws
open PySem PySem.W PyProof.Rows
end Ws
namespace Ws
open PySem PySem.W PyProof.Rows
section
variable {X : L2.Cx} {cm : Nat → Addr}
theorem bls_get : ∀ {bs : List Bool} {us : List Value}, L2.Vals (bs.map L2.V.bl) us → ∀ (i : Nat) (v : Value), us[i]? = some v → ∃ b, bs[i]? = some b ∧ v = .bool b
  | [], _, .nil, i, v, h => by simp at h
  | b :: bs, _, .cons r t, 0, v, h => by
    cases r
    simp at h; subst h
    exact ⟨b, rfl, rfl⟩
  | b :: bs, _, .cons r t, i + 1, v, h => bls_get t i v (by simpa using h)
theorem all_range (bs : List Bool) : ((List.range bs.length).all fun i => (bs[i]?).getD true) = bs.all id := by
  induction bs with
  | nil => rfl
  | cons b r ih =>
    rw [List.length_cons, List.range_succ_eq_map, List.all_cons, List.all_map, List.all_cons, ← ih]
    rfl
noncomputable def rAll (K : PySem.W.Frag) : List L2.V → L2.Hp → L2.VK → Prop := fun vs H Q => ∃ (a : Addr) (bs : List Bool), vs = [.ref a] ∧ L2.SqL K H a (bs.map L2.V.bl) ∧ Q (.bl (bs.all id)) H
theorem call_allB (hcalm : X.calm = true) : L2.CallR X (.builtin "all") (rAll X.K) := by
  intro pins s σ H xs us Q I r h
  obtain ⟨a, bs, rfl, hq, q⟩ := h
  obtain ⟨u, rfl, rx⟩ := L2.vals1 r
  cases rx
  obtain ⟨its, ri, pl, hz⟩ := I.list hq
  have hil := pl.isList
  have hal : a < s.heap.objs.size := by
    obtain ⟨_, e, _⟩ := hil
    exact Heap.lt_size e
  have hlen : its.length = bs.length := by
    have := ri.length
    simpa using this.symm
  refine call_all_walk (wpAny_pyIter_list hil ⟨s.heap.objs.size, [s.heap.objs.size, a], [s.heap.objs.size], its.toArray.size, _, _, fun i => (bs[i]?).getD true, rfl,
    Walks.list (A := X.A.in1) (I.ok.hd hcalm) _ a (Nat.ne_of_lt hal) its.toArray, ⟨⟨_, Heap.get?_push_size _ rfl, rfl, rfl⟩, hil.push _⟩, ?_, ?_⟩)
  · intro i v s2 Q2 E2 hP hQ2
    obtain ⟨b, e1, rfl⟩ := bls_get ri i v (by simpa using hP)
    have hQ3 : Q2 ((bs[i]?).getD true) s2 := hQ2
    rw [e1] at hQ3
    exact wpAny_truthy_bool hQ3
  · intro h2 tk hk
    have e1 : its.toArray.size = bs.length := by rw [List.size_toArray]; exact hlen
    rw [e1, all_range]
    exact ⟨.bl _, H, I.kept (t' := tk) (fun b o e => hk b o (fun hm => by rw [List.mem_singleton.mp hm] at e; exact absurd (Heap.lt_size e) (Nat.lt_irrefl _)) (Heap.get?_push_of_some _ e)), rfl, q⟩
theorem blsOf_inv : ∀ {l : List PV} {bs : List Bool}, blsOf l = some bs → l = bs.map .bl
  | [], bs, h => by simp [blsOf] at h; subst h; rfl
  | x :: r, bs, h => by
    cases x with
    | bl b =>
      simp only [blsOf, Option.map_eq_some_iff] at h
      obtain ⟨m, h1, rfl⟩ := h
      rw [blsOf_inv h1]; rfl
    | _ => simp [blsOf] at h
theorem rvs_bls : ∀ {ρ : List Addr} {H : L2.Hp} {bs : List Bool} {xs : List L2.V}, RVs ρ H (bs.map PV.bl) xs → xs = bs.map L2.V.bl
  | _, _, [], _, .nil => rfl
  | _, _, b :: bs, _, .cons h t => by cases h; rw [rvs_bls t]; rfl
theorem r_all {e : Expr} {d : ED} {p pos : Pos} (hcalm : X.calm = true) (he : L2.PE X e (EvE X.K cm d)) (hg : L2.Gl X "all") (hm : X.mg "all" = none) (hs : starEach [e] X.env = (false, eval e X.env) :: starEach [] X.env := by exact star_c rfl) : L2.PE X (.Call (.Name "all" p) [e] [] pos) (EvE X.K cm (eAll d)) :=
  PE_imp (L2.pe_callB (call_allB hcalm) hg hm (by rfl) (r_cons he r_nil hs) (he := hs)) fun σ H Q h => ev_one (f := fun x => match x with | .ref n => bnd (lstAt n) fun l => (match blsOf l with | some bs => ret (.bl (bs.all id)) | none => stuck) | _ => stuck) (fun _ => rfl) (fun ρ A H x z A' v Q rl rx ev k => by
    cases x with
    | ref n =>
      obtain ⟨l, A1, e1, ev1⟩ := bnd_inv ev
      obtain ⟨rfl, a, xs, rfl, hq, hv⟩ := lst_read rl rx e1
      cases hb : blsOf l with
      | none => rw [hb] at ev1; cases ev1
      | some bs =>
        rw [hb] at ev1
        cases ev1
        rw [blsOf_inv hb] at hv
        exact ⟨a, bs, rfl, by rw [← rvs_bls hv]; exact hq, k ρ H _ (Ext.refl _ _) rl (.bl _)⟩
    | _ => cases ev) h
end
end Ws
namespace Ws
open PySem PySem.W PyProof.Rows
end Ws
namespace Ws
open PySem PySem.W PyProof.Rows
end Ws
namespace Ws
open PySem PySem.W PyProof.Rows
end Ws
namespace Ws
open PySem PySem.W PyProof.Rows
end Ws
namespace Ws
open PySem
end Ws
namespace Ws
open PySem PySem.W PyProof.Rows
end Ws
namespace Ws
open PySem PySem.W PyProof.Rows
section
variable {X : L2.Cx} {cm : Nat → Addr}
noncomputable def rTupleL (K : PySem.W.Frag) : List L2.V → L2.Hp → L2.VK → Prop := fun vs H Q => ∃ (a : Addr) (xs : List L2.V), vs = [.ref a] ∧ L2.SqL K H a xs ∧ ∀ p, H p = none → Q (.ref p) (L2.upd H p (.tup xs))
theorem call_tupleL : L2.CallR X (.type "tuple") (rTupleL X.K) := by
  intro pins s σ H xs us Q I r h
  obtain ⟨a, ys, rfl, hq, q⟩ := h
  obtain ⟨u, rfl, rx⟩ := L2.vals1 r
  cases rx
  obtain ⟨its, ri, pl, hz⟩ := I.list hq
  have hl : ys.length = its.length := ri.length
  refine call_tuple_list pl.isList (fun h' hk => ?_) (by rw [List.size_toArray, ← hl]; exact hz)
  have I1 := I.kept (t' := s.toks) hk
  exact ⟨.ref h'.objs.size, _, I1.laid (t' := s.toks) (a := h'.objs.size) (o := .tup ys) (fun b o e => Heap.get?_push_of_some _ e) (Nat.le_refl _) ⟨hz, its, ri, _, Heap.get?_push_size _ rfl, rfl, _, rfl⟩, rfl, q _ (I1.hok.fresh (Nat.le_refl _))⟩
theorem r_tupleOf {e : Expr} {d : ED} {p pos : Pos} (he : L2.PE X e (EvE X.K cm d)) (hg : L2.Gl X "tuple") (hm : X.mg "tuple" = none) (hv : bootBuiltins "tuple" = some (.type "tuple")) (hs : starEach [e] X.env = (false, eval e X.env) :: starEach [] X.env := by exact star_c rfl) : L2.PE X (.Call (.Name "tuple" p) [e] [] pos) (EvE X.K cm (eTupleOf d)) :=
  PE_imp (L2.pe_callTy call_tupleL hg hm hv (r_cons he r_nil hs) (he := hs)) fun σ H Q h => ev_one (f := fun x => match x with | .ref n => bnd (lstAt n) fun l => guard (l.length ≤ LIM) (ret (.tup l)) | _ => stuck) (fun _ => rfl) (fun ρ A H x z A' v Q rl rx ev k => by
    cases x with
    | ref n =>
      obtain ⟨l, A1, e1, ev1⟩ := bnd_inv ev
      obtain ⟨rfl, a, xs, rfl, hq, hv⟩ := lst_read rl rx e1
      obtain ⟨c, ev2⟩ := guard_inv ev1
      cases ev2
      refine ⟨a, xs, rfl, hq, fun p hp => ?_⟩
      have ex : Ext ρ H ρ (L2.upd H p (.tup xs)) := Ext.same hp
      exact k ρ _ _ ex (rl.tup hp) (.tup L2.upd_same (hv.mono ex))
    | _ => cases ev) h
end
end Ws
namespace Ws
open PySem PySem.W PyProof.Rows
end Ws
namespace Ws
open PySem PySem.W PyProof.Rows
end Ws
namespace Ws
open PySem PySem.W PyProof.Rows
end Ws
namespace Ws
open PySem PySem.W PyProof.Rows
end Ws
namespace Ws
open PySem PySem.W PyProof.Rows
end Ws
namespace Ws
open PySem PySem.W PyProof.Rows
end Ws
namespace Ws
open PySem PySem.W PyProof.Rows
end Ws
namespace Ws
open PySem PySem.W PyProof.Rows PySem.Calls
end Ws
namespace Ws
open PySem PySem.W PyProof.Rows PySem.Calls
end Ws
namespace Ws
open PySem PySem.W PyProof.Rows PySem.Calls Builtin Builtin.ObjectAttr
end Ws
namespace Ws
open PySem PySem.W PyProof.Rows PySem.Calls
end Ws
namespace Ws
open PySem PySem.W PyProof.Rows PySem.Calls
end Ws
namespace Ws
open PySem PySem.W PyProof.Rows PySem.Calls
end Ws
namespace Ws
open PySem PySem.W PyProof.Rows PySem.Calls
end Ws
namespace Ws
open PySem PySem.W PyProof.Rows PySem.Calls
end Ws
namespace Ws
open PySem PySem.W PyProof.Rows PySem.Calls
end Ws
namespace Ws
open PySem PySem.W PyProof.Rows PySem.Calls
end Ws
namespace Ws
open PySem PySem.W PyProof.Rows PySem.Calls
end Ws
namespace Ws
open PySem PySem.W PyProof.Rows PySem.Calls
end Ws
namespace Ws
open PySem PySem.W PyProof.Rows PySem.Calls
end Ws
namespace Ws
open PySem PySem.W PyProof.Rows PySem.Calls
end Ws
namespace Ws
open PySem
section
variable {X : L2.Cx} {cm : Nat → Addr}
theorem ok_pow : OkOp X.K cm oPow (L2.rI L2.CPow fun i j => .int (i ^ j.toNat)) := okI (g := fun i j => .int (i ^ j.toNat)) (fun x y A z A' h => by
  cases x <;> cases y <;> first | (obtain ⟨c, h⟩ := guard_inv h; cases h; exact ⟨_, _, rfl, rfl, ⟨c.1, by omega, by have := c.2.2; omega⟩, rfl, rfl⟩) | cases h) (fun _ _ _ _ => .int _) _ _
end
end Ws
namespace Ws
open PySem
open PySem.SeqAt
end Ws
namespace Ws
end Ws
namespace Ws
open PySem PySem.Spec PySem.Calls PyProof.Rows
end Ws
namespace Ws
open PySem
end Ws
namespace Ws
open PySem PySem.W PyProof.Rows
end Ws
namespace Ws
open PySem PySem.W PyProof.Rows
end Ws
namespace Ws
open PySem PySem.W PyProof.Rows PySem.SeqAt
open MeetsSeq MeetsSeq2 MeetsSeq3 SeqRoads2
end Ws
namespace Ws
open PySem PySem.W PyProof.Rows
end Ws
namespace Ws
open PySem PySem.W PyProof.Rows
end Ws
namespace Ws
open PySem PySem.W PyProof.Rows
end Ws
namespace Ws
open PySem PySem.W PyProof.Rows
end Ws
namespace Ws
open PySem PySem.W PyProof.Rows
end Ws
namespace Ws
open PySem PySem.W PyProof.Rows
end Ws
namespace Ws
open PySem PySem.W PyProof.Rows
end Ws
namespace Ws
open PySem PySem.W PyProof.Rows
end Ws
namespace Ws
open PySem PySem.W PyProof.Rows
end Ws
namespace Ws
open PySem PySem.W PyProof.Rows PySem.SeqAt
end Ws
namespace Ws
open PySem PySem.W PyProof.Rows PySem.SeqAt
end Ws
namespace Ws
open PySem PySem.W PyProof.Rows PySem.SeqAt
end Ws
namespace Ws
open PySem PySem.W PyProof.Rows
end Ws
namespace Ws
open PySem PySem.W PyProof.Rows PySem.SeqAt
end Ws
namespace Ws
open PySem PySem.W PyProof.Rows
section
variable {X : L2.Cx} {cm : Nat → Addr}
theorem r_str {x : Str} {j pos} : L2.PE X (.Constant (.str x) j pos) (EvE X.K cm (eK (.str x))) := r_k L2.pe_str fun _ _ => .str x
theorem kit_str (K : PySem.W.Frag) (a : String) (ha : a ∈ ["NoneType", "bool", "int", "str", "list", "tuple"]) : PySem.W.kitOne K (.type a) (.type "str") = some (a == "str") := by
  simp only [List.mem_cons, List.not_mem_nil, or_false] at ha
  rcases ha with rfl | rfl | rfl | rfl | rfl | rfl <;> with_unfolding_all rfl
theorem call_isStr : L2.CallR X (.builtin "isinstance") (fun vs H Q => ∃ v ty, vs = [v, .ty "str"] ∧ ty ∈ ["NoneType", "bool", "int", "str", "list", "tuple"] ∧ L2.TyOf X.K H v (.type ty) ∧ Q (.bl (ty == "str")) H) := by
  intro pins s σ H xs us Q I r h
  obtain ⟨v, ty, rfl, hm, hty, q⟩ := h
  obtain ⟨u, w, rfl, ru, rw'⟩ := L2.vals2 r
  cases rw'
  exact L2.isinst_ok I ru hty (kit_str X.K ty hm) fun tk => ⟨.bl _, H, I.tok tk, rfl, q⟩
theorem r_isStr {e : Expr} {d : ED} {p p2 pos : Pos} (he : L2.PE X e (EvE X.K cm d)) (hg : L2.Gl X "isinstance") (hm : X.mg "isinstance" = none) (hgt : L2.Gl X "str") (hmt : X.mg "str" = none)
    (hs : starEach [e, .Name "str" p2] X.env = (false, eval e X.env) :: starEach [.Name "str" p2] X.env := by exact star_c rfl) (hs2 : starEach [Expr.Name "str" p2] X.env = (false, eval (.Name "str" p2) X.env) :: starEach [] X.env := by exact star_c rfl) (hpl : (backTo pos (starEach [Expr.Name "str" p2] X.env)).any (·.1) = false := by rfl) :
    L2.PE X (.Call (.Name "isinstance" p) [e, .Name "str" p2] [] pos) (EvE X.K cm (eIsStr d)) :=
  PE_imp (L2.pe_callB call_isStr hg hm PyProof.Rows.boot_isinstance (L2.pa_cons he (L2.pa_cons (L2.pe_bltn (v := .ty "str") hgt hmt (show bootBuiltins "str" = some (.type "str") from by rfl) rfl (by decide) (by decide)) L2.pa_nil hs2) hs) (he := hs) (hpl := hpl)) fun σ H Q ⟨ρ, A, σp, v, A', rl, rs, ev, k⟩ => by
    obtain ⟨x, A1, e1, ev1⟩ := bnd_inv ev
    obtain ⟨b, A2, e2, ev2⟩ := bnd_inv ev1
    cases ev2
    refine ⟨ρ, A, σp, x, A1, rl, rs, e1, fun ρ1 H1 v1 x1 rl1 rv1 => ?_⟩
    cases x with
    | non => cases rv1; cases e2; exact ⟨_, "NoneType", rfl, by simp, .non, k ρ1 H1 _ x1 rl1 (.bl _)⟩
    | bl c => cases rv1; cases e2; exact ⟨_, "bool", rfl, by simp, .bl c, k ρ1 H1 _ x1 rl1 (.bl _)⟩
    | int i => cases rv1; cases e2; exact ⟨_, "int", rfl, by simp, .int i, k ρ1 H1 _ x1 rl1 (.bl _)⟩
    | str z => cases rv1; cases e2; exact ⟨_, "str", rfl, by simp, .str z, k ρ1 H1 _ x1 rl1 (.bl _)⟩
    | tup l =>
      cases rv1 with
      | tup ha r => cases e2; exact ⟨_, "tuple", rfl, by simp, .tup ha, k ρ1 H1 _ x1 rl1 (.bl _)⟩
    | ref n =>
      obtain ⟨l, A3, e3, e4⟩ := bnd_inv e2
      obtain ⟨rfl, hA, a, xs, rfl, hn, hH, r⟩ := mut_read rl1 rv1 e3
      cases e4
      exact ⟨_, "list", rfl, by simp, .lst hH, k ρ1 H1 _ x1 rl1 (.bl _)⟩
end
end Ws
namespace Ws
open PySem PySem.W PyProof.Rows
end Ws
namespace Ws
open PySem PySem.W PyProof.Rows
end Ws
namespace Ws
open PySem PySem.W PyProof.Rows
end Ws
namespace Ws
open PySem PySem.W PyProof.Rows
end Ws
namespace Ws
open PySem PySem.W PyProof.Rows
end Ws
namespace Ws
open PySem PySem.W PyProof.Rows
end Ws
namespace Ws
open PySem PySem.W PyProof.Rows PySem.Builtin PySem.Builtin.Str
section
variable {X : L2.Cx} {cm : Nat → Addr}
theorem lim_size {n : Nat} (h : n ≤ LIM) : n ≤ sizeLine := by unfold LIM at h; rw [sizeLine_eq]; omega
theorem r_globS {x z : Str} {pos : Pos} (hg : L2.Gl X x) (hm : ∃ t, X.mg x = some (.str z t)) (hd : (x == ("__debug__" : Str)) = false := by decide) : L2.PE X (.Name x pos) (EvE X.K cm (eK (.str z))) := by
  obtain ⟨t, hm⟩ := hm
  exact r_k (L2.pe_glob hg hm (show L2.RelV (.str z) (.str z t) from ⟨t, rfl⟩) hd) fun _ _ => .str z
theorem ok_addS : OkOp X.K cm oAddS (fun x y H Q => ∃ i j, x = .str i ∧ y = .str j ∧ i.length + j.length ≤ sizeLine ∧ Q (.str (i ++ j)) H) := fun ρ B H x y z B' vx vy Q rl rx ry ev k => by
  cases x with
  | str i =>
    cases y with
    | str j =>
      obtain ⟨c, ev⟩ := guard_inv ev
      cases ev; cases rx; cases ry
      exact ⟨i, j, rfl, rfl, lim_size c, k ρ H _ (Ext.refl _ _) rl (.str _)⟩
    | _ => cases ev
  | _ => cases ev
theorem ok_inS : OkOp X.K cm oInS (fun x y H Q => ∃ i j, x = .str i ∧ y = .str j ∧ Q (.bl (!(Builtin.Str.occurrences j i 0 j.length 1).isEmpty)) H) := fun ρ B H x y z B' vx vy Q rl rx ry ev k => by
  cases x with
  | str i =>
    cases y with
    | str j => cases ev; cases rx; cases ry; exact ⟨i, j, rfl, rfl, k ρ H _ (Ext.refl _ _) rl (.bl _)⟩
    | _ => cases ev
  | _ => cases ev
theorem ok_ixS : OkOp X.K cm oIxS L2.rIxS := fun ρ B H x y z B' vx vy Q rl rx ry ev k => by
  cases x with
  | str i =>
    cases y with
    | int j =>
      cases rx; cases ry
      cases hc : atI i.cps.toList j with
      | none => rw [show oIxS (.str i) (.int j) = stuck by show (match atI i.cps.toList j with | some c => guard (i.length ≤ LIM) (ret (PV.str ⟨#[c]⟩)) | none => stuck) = _; rw [hc]] at ev; cases ev
      | some c =>
        rw [show oIxS (.str i) (.int j) = guard (i.length ≤ LIM) (ret (.str ⟨#[c]⟩)) by show (match atI i.cps.toList j with | some c => guard (i.length ≤ LIM) (ret (PV.str ⟨#[c]⟩)) | none => stuck) = _; rw [hc]] at ev
        obtain ⟨c1, ev⟩ := guard_inv ev
        cases ev
        exact ⟨i, j, c, rfl, rfl, lim_size c1, hc, k ρ H _ (Ext.refl _ _) rl (.str _)⟩
    | _ => cases ev
  | _ => cases ev
theorem r_ixS {a b : Expr} {da db : ED} {pos : Pos} (ha : L2.PE X a (EvE X.K cm da)) (hb : L2.PE X b (EvE X.K cm db)) (hs : L2.PlainIx b) : L2.PE X (.Subscript a b pos) (EvE X.K cm (eBin oIxS da db)) :=
  PE_imp (L2.pe_ix L2.ix_str ha hb hs) fun σ H Q h => ev_bin ok_ixS h
theorem r_lenS {e : Expr} {d : ED} {p pos : Pos} (he : L2.PE X e (EvE X.K cm d)) (hg : L2.Gl X "len") (hm : X.mg "len" = none) (hs : starEach [e] X.env = (false, eval e X.env) :: starEach [] X.env := by exact star_c rfl) : L2.PE X (.Call (.Name "len" p) [e] [] pos) (EvE X.K cm (eLenS d)) :=
  PE_imp (L2.pe_callB L2.call_len_str hg hm PySem.boot_len (r_cons he r_nil hs) (he := hs)) fun σ H Q h => ev_one (f := fun x => match x with | .str z => guard (z.length ≤ LIM) (ret (.int z.length)) | _ => stuck) (fun _ => rfl) (fun ρ A H x z A' v Q rl rx ev k => by
    cases x with
    | str i =>
      obtain ⟨c, ev⟩ := guard_inv ev
      cases ev; cases rx
      exact ⟨i, rfl, lim_size c, k ρ H _ (Ext.refl _ _) rl (.int _)⟩
    | _ => cases ev) h
theorem log_small {n : Nat} (h : n < 10000000000) : n.log2 < 1920 := by
  by_cases h0 : n = 0
  · subst h0; decide
  · exact Nat.lt_trans ((Nat.log2_lt h0).mpr (Nat.lt_trans h (by decide : 10000000000 < 2 ^ 40))) (by decide)
theorem r_strI {e : Expr} {d : ED} {p pos : Pos} (he : L2.PE X e (EvE X.K cm d)) (hg : L2.Gl X "str") (hm : X.mg "str" = none) (hs : starEach [e] X.env = (false, eval e X.env) :: starEach [] X.env := by exact star_c rfl) : L2.PE X (.Call (.Name "str" p) [e] [] pos) (EvE X.K cm (eStr d)) :=
  PE_imp (L2.pe_callTy L2.call_str_int hg hm PyProof.Rows.boot_str (r_cons he r_nil hs) (he := hs)) fun σ H Q h => ev_one (f := fun x => match x with | .int i => guard (i.natAbs < 10000000000) (ret (.str (PySem.Str.ofString (toString i)))) | _ => stuck) (fun _ => rfl) (fun ρ A H x z A' v Q rl rx ev k => by
    cases x with
    | int i =>
      obtain ⟨c, ev⟩ := guard_inv ev
      cases ev; cases rx
      exact ⟨i, rfl, log_small c, k ρ H _ (Ext.refl _ _) rl (.str _)⟩
    | _ => cases ev) h
theorem call_intT : L2.CallR X (.type "int") (fun xs H Q => ∃ z n, xs = [.str z] ∧ PySem.intText? z = some n ∧ z.length ≤ 640 ∧ Q (.int n) H) := by
  intro pins s σ H xs us Q I r h
  obtain ⟨z, n, rfl, hn, hl, q⟩ := h
  obtain ⟨u, rfl, rx⟩ := L2.vals1 r
  obtain ⟨t, rfl⟩ := rx
  exact KIN.call_text hn hl ⟨.int n, H, I.tok _, ⟨_, rfl⟩, q⟩
theorem r_intT {e : Expr} {d : ED} {p pos : Pos} (he : L2.PE X e (EvE X.K cm d)) (hg : L2.Gl X "int") (hm : X.mg "int" = none) (hs : starEach [e] X.env = (false, eval e X.env) :: starEach [] X.env := by exact star_c rfl) : L2.PE X (.Call (.Name "int" p) [e] [] pos) (EvE X.K cm (eIntT d)) :=
  PE_imp (L2.pe_callTy call_intT hg hm PyProof.Rows.boot_int (r_cons he r_nil hs) (he := hs)) fun σ H Q h => ev_one (f := fun x => match x with | .str z => (match PySem.intText? z with | some n => guard (z.length ≤ 640) (ret (.int n)) | none => stuck) | _ => stuck) (fun _ => rfl) (fun ρ A H x z A' v Q rl rx ev k => by
    cases x with
    | str i =>
      cases hn : PySem.intText? i with
      | none => dsimp only at ev; rw [hn] at ev; cases ev
      | some n =>
        dsimp only at ev; rw [hn] at ev
        obtain ⟨c, ev⟩ := guard_inv ev
        cases ev; cases rx
        exact ⟨i, n, rfl, hn, c, k ρ H _ (Ext.refl _ _) rl (.int _)⟩
    | _ => cases ev) h
theorem strsOf_inv : ∀ {l : List PV} {ys : List Str}, strsOf l = some ys → l = ys.map .str
  | [], ys, h => by simp [strsOf] at h; subst h; rfl
  | x :: l, ys, h => by
    cases x with
    | str z =>
      unfold strsOf at h
      cases e : strsOf l with
      | none => rw [e] at h; cases h
      | some zs => rw [e] at h; cases h; rw [strsOf_inv e]; rfl
    | _ => cases h
theorem rvs_strs {ρ : List Addr} {H : L2.Hp} : ∀ {ys : List Str} {xs : List L2.V}, RVs ρ H (ys.map .str) xs → xs = ys.map L2.V.str
  | [], _, .nil => rfl
  | y :: ys, _, .cons h r => by cases h; rw [rvs_strs r]; rfl
theorem strs_are : ∀ {ys : List Str} {us : List Value}, L2.Vals (ys.map L2.V.str) us → StrsAre us ys
  | [], _, h => by cases h; exact .nil
  | y :: ys, _, h => by
    cases h with
    | cons h r =>
      obtain ⟨t, rfl⟩ := h
      exact .cons y t (strs_are r)
theorem mt_join : L2.MtR X "str.join" (fun x xs H Q => ∃ z a ys, x = .str z ∧ xs = [.ref a] ∧ L2.SqL X.K H a (ys.map L2.V.str) ∧ z.length ≤ 16 ∧ (ys.map (·.length)).sum + ys.length ≤ 1048576 ∧ Q (.str (Txt.join z ys)) H) := by
  intro pins s σ H x xs v us Q I rx rv h
  obtain ⟨z, a, ys, rfl, rfl, hq, h1, h2, q⟩ := h
  obtain ⟨t, rfl⟩ := rx
  obtain ⟨u, rfl, ru⟩ := L2.vals1 rv
  cases ru
  obtain ⟨its, ri, pl, hz⟩ := I.list hq
  exact join_listW pl.isList (by simpa using strs_are ri) h1 h2 fun t' k => ⟨.str _, H, I.tok k, ⟨t', rfl⟩, q⟩
theorem r_join {o e : Expr} {d d' : ED} {apos cpos : Pos} (ho : L2.PE X o (EvE X.K cm d)) (he : L2.PE X e (EvE X.K cm d'))
    (hb : attributeBase o "join" X.env (eval o X.env) = eval o X.env := by rfl) (hs : starEach [e] X.env = (false, eval e X.env) :: starEach [] X.env := by exact star_c rfl)
    (hfew : ((backTo cpos (starEach [e] X.env)).all (fun x => !x.1) && (backToKw cpos (keywordEach [] X.env)).all (fun x => x.1.isSome) && decide ([e].length + ([] : List Keyword).length + (if ([] : List Keyword).isEmpty then 0 else 1) < 30)) = true := by rfl)
    (hline : (apos.endLine == cpos.line) = true := by rfl) : L2.PE X (.Call (.Attribute o "join" apos) [e] [] cpos) (EvE X.K cm (eJoin d d')) :=
  PE_imp (L2.pe_bm PySem.F.plainAttrs_str PySem.F.slot_str_join PySem.F.type_str_join mt_join ho (r_cons he r_nil hs) (hbase := hb) (hfew := hfew) (hline := hline) (hs := hs)) fun σ H Q ⟨ρ, A, σp, v, A', rl, rs, ev, k⟩ => by
    obtain ⟨x, A1, e1, ev1⟩ := bnd_inv ev
    refine ⟨ρ, A, σp, x, A1, rl, rs, e1, fun ρ1 H1 v1 x1 rl1 rv1 => ?_⟩
    cases x with
    | str z =>
      obtain ⟨y, A2, e2, ev2⟩ := bnd_inv ev1
      cases rv1
      refine ⟨rfl, ρ1, _, σp, [y], A2, rl1, rs.mono x1, by show bnd (d' σp) _ A1 = _; rw [bnd_ok e2]; rfl, fun ρ2 H2 vs2 x2 rl2 rv2 => ?_⟩
      cases rv2 with
      | cons hv hr =>
        cases hr
        cases y with
        | ref n =>
          obtain ⟨l, A3, e3, ev3⟩ := bnd_inv ev2
          obtain ⟨rfl, a, xs, rfl, hq, hvs⟩ := lst_read rl2 hv e3
          cases hy : strsOf l with
          | none => rw [hy] at ev3; cases ev3
          | some ys =>
            rw [hy] at ev3
            obtain ⟨c, ev4⟩ := guard_inv ev3
            cases ev4
            rw [strsOf_inv hy] at hvs
            exact ⟨z, a, ys, rfl, rfl, by rw [← rvs_strs hvs]; exact hq, c.1, c.2, k ρ2 H2 _ (x1.trans x2) rl2 (.str _)⟩
        | _ => cases ev2
    | _ => cases ev1
theorem vals_strsFrom : ∀ (l : List Str) (t : Nat), L2.Vals (l.map L2.V.str) (strsFrom t l)
  | [], _ => .nil
  | x :: l, t => .cons ⟨_, rfl⟩ (vals_strsFrom l _)
theorem rvs_str {ρ : List Addr} {H : L2.Hp} : ∀ ys : List Str, RVs ρ H (ys.map .str) (ys.map L2.V.str)
  | [] => .nil
  | y :: ys => .cons (.str y) (rvs_str ys)
noncomputable def rSplit : L2.V → List L2.V → L2.Hp → L2.VK → Prop := fun x xs H Q => ∃ z u, x = .str z ∧ xs = [.str u] ∧ (u.length == 0) = false ∧ z.length ≤ LIM ∧ (Txt.split z u).length ≤ LIM ∧ (partsBetween z (occurrences z u 0 z.length (z.length + 1)) u.length).length ≤ LIM ∧ ∀ l, H l = none → Q (.ref l) (L2.upd H l (.lst ((Txt.split z u).map L2.V.str)))
theorem mt_split : L2.MtR X "str.split" rSplit := by
  intro pins s σ H x xs v us Q I rx rv h
  obtain ⟨z, u, rfl, rfl, hu, h1, h2, h3, q⟩ := h
  obtain ⟨t, rfl⟩ := rx
  obtain ⟨w, rfl, ru⟩ := L2.vals1 rv
  obtain ⟨t', rfl⟩ := ru
  have fin : ∀ (its : List Value) (tk : Nat), L2.Vals ((Txt.split z u).map L2.V.str) its → L2.EP X pins σ Q (.ref s.heap.objs.size) { s with heap := s.heap.push { cls := .type "list", data := .seq its.toArray }, toks := tk } := fun its tk hv =>
    ⟨.ref s.heap.objs.size, _, I.laid (t' := tk) (a := s.heap.objs.size) (o := .lst ((Txt.split z u).map L2.V.str)) (fun b o e => Heap.get?_push_of_some _ e) (Nat.le_refl _) ⟨by rw [List.length_map]; exact lim_size h2, its, _, hv, Heap.get?_push_size _ rfl⟩, rfl, q _ (I.hok.fresh (Nat.le_refl _))⟩
  by_cases c1 : (decide (z.length < u.length) || decide (strKind z < strKind u)) = true
  · have e : Txt.split z u = [z] := if_pos c1
    exact call_meets F.slot_str_split (typeIs_str _ _ _) F.entry_str_split (F.args_str_split_2 _ _) (meets_str_split_cannot_occur z u t t' c1) (fin [.str z t] _ (by rw [e]; exact .cons ⟨t, rfl⟩ .nil))
  · have c1' := Bool.eq_false_iff.mpr c1
    by_cases c2 : (occurrences z u 0 z.length (z.length + 1)).isEmpty = true
    · have e : Txt.split z u = [z] := (if_neg c1).trans (if_pos c2)
      exact call_meets F.slot_str_split (typeIs_str _ _ _) F.entry_str_split (F.args_str_split_2 _ _) (meets_str_split_not_found z u t t' c1' hu c2) (fin [.str z t] _ (by rw [e]; exact .cons ⟨t, rfl⟩ .nil))
    · have e : Txt.split z u = partsBetween z (occurrences z u 0 z.length (z.length + 1)) u.length := (if_neg c1).trans (if_neg c2)
      exact call_meets F.slot_str_split (typeIs_str _ _ _) F.entry_str_split (F.args_str_split_2 _ _) (meets_str_split_sep z u t t' c1' hu (Bool.eq_false_iff.mpr c2) (lim_size h1) (lim_size h3)) (fin _ _ (by rw [e]; exact vals_strsFrom _ _))
theorem r_split {o e : Expr} {d d' : ED} {apos cpos : Pos} (ho : L2.PE X o (EvE X.K cm d)) (he : L2.PE X e (EvE X.K cm d'))
    (hb : attributeBase o "split" X.env (eval o X.env) = eval o X.env := by rfl) (hs : starEach [e] X.env = (false, eval e X.env) :: starEach [] X.env := by exact star_c rfl)
    (hfew : ((backTo cpos (starEach [e] X.env)).all (fun x => !x.1) && (backToKw cpos (keywordEach [] X.env)).all (fun x => x.1.isSome) && decide ([e].length + ([] : List Keyword).length + (if ([] : List Keyword).isEmpty then 0 else 1) < 30)) = true := by rfl)
    (hline : (apos.endLine == cpos.line) = true := by rfl) : L2.PE X (.Call (.Attribute o "split" apos) [e] [] cpos) (EvE X.K cm (eSplit d d')) :=
  PE_imp (L2.pe_bm PySem.F.plainAttrs_str PySem.F.slot_str_split PySem.F.type_str_split mt_split ho (r_cons he r_nil hs) (hbase := hb) (hfew := hfew) (hline := hline) (hs := hs)) fun σ H Q ⟨ρ, A, σp, v, A', rl, rs, ev, k⟩ => by
    obtain ⟨x, A1, e1, ev1⟩ := bnd_inv ev
    refine ⟨ρ, A, σp, x, A1, rl, rs, e1, fun ρ1 H1 v1 x1 rl1 rv1 => ?_⟩
    cases x with
    | str z =>
      obtain ⟨y, A2, e2, ev2⟩ := bnd_inv ev1
      cases rv1
      refine ⟨rfl, ρ1, _, σp, [y], A2, rl1, rs.mono x1, by show bnd (d' σp) _ A1 = _; rw [bnd_ok e2]; rfl, fun ρ2 H2 vs2 x2 rl2 rv2 => ?_⟩
      cases rv2 with
      | cons hv hr =>
        cases hr
        cases y with
        | str u =>
          obtain ⟨c, ev3⟩ := guard_inv ev2
          cases ev3; cases hv
          refine ⟨z, u, rfl, rfl, c.1, c.2.1, c.2.2.1, c.2.2.2, fun D hD => ?_⟩
          have ex : Ext ρ2 H2 (ρ2 ++ [D]) (L2.upd H2 D (.lst ((Txt.split z u).map L2.V.str))) := Ext.new hD
          exact k (ρ2 ++ [D]) _ _ ((x1.trans x2).trans ex) (rl2.alloc hD ⟨_, L2.upd_same, rvs_str _⟩ rfl) (.ref (by rw [← rl2.len]; simp))
        | _ => cases ev2
    | _ => cases ev1
end
end Ws
namespace Ws
open PySem PySem.W PyProof.Rows
noncomputable def sgs (x : Str) : List L2.V := x.cps.toList.map fun c => .str ⟨#[c]⟩
theorem turn_str {P : Program} {w : World} {K : PySem.W.Frag} {tg : Expr} (it : Addr) (x : Str) (t : Tok) :
    L2.Turn P w K tg (Itf (sgs x)) [it] it (fun i h => h.IsStrIter it "str_ascii_iterator" x t i) where
  mem := by simp
  obj := fun i h st b hb => by
    obtain ⟨o, e, c, d⟩ := st
    have e2 : b = it := by simpa using hb
    subst e2
    exact ⟨o, e, fun v z => by rw [d] at z; cases z⟩
  keep := fun i h h' st k => by
    obtain ⟨o, e, r⟩ := st
    exact ⟨o, k it (by simp) o e, r⟩
  item := by
    intro X hP hw hK hc i pins s σ H E I hf st hg
    subst hP hw hK
    have hi : i < x.cps.size := by
      have : i < (sgs x).length := hg
      simpa [sgs] using this
    refine wpAny_pyNext_ascii_item st (c := x.cps[i]) (by simp [hi]) fun h' hit' sb => ?_
    have kp : ∀ b o, b ≠ it → s.heap.get? b = some o → h'.get? b = some o := fun b o hb q => (sb.2 b hb).trans q
    have I1 : L2.Inv X pins σ H { s with heap := h', toks := s.toks + 1 } := turned_fp (t' := s.toks + 1) I hf fun b o hb q => kp b o (fun z => hb (by simp [z])) q
    obtain ⟨o, e5, c, d⟩ := id hit'
    exact ⟨_, rfl, L2.go_of (s := { s with heap := h', toks := s.toks + 1 }) e5 c d (by decide) ⟨.str ⟨#[x.cps[i]]⟩, H, I1, ⟨_, rfl⟩, ⟨rfl, by simp [sgs, hi]⟩, hit', fun b hb => (hf b hb).1⟩⟩
  done := by
    intro X hP hw hK hc i pins s σ H E I hf st hg
    subst hP hw hK
    have hi : x.cps.size ≤ i := by
      have : (sgs x).length ≤ i := hg
      simpa [sgs] using this
    exact wpAny_pyNext_ascii_end (I.ok.hd hc) st (by simp [hi]) fun h' eb => ⟨rfl, turned_fp (t' := s.toks) I hf fun b u hb q => eb b u (fun z => hb (by simp [z])) q⟩
  self := fun _ _ _ _ _ st h => wpAny_pyIter_striter_ascii st h
section
variable {X : L2.Cx} {cm : Nat → Addr}
theorem rvs_sgs {ρ : List Addr} {H : L2.Hp} : ∀ l : List Nat, RVs ρ H (l.map fun c => PV.str ⟨#[c]⟩) (l.map fun c => L2.V.str ⟨#[c]⟩)
  | [] => .nil
  | c :: l => .cons (.str _) (rvs_sgs l)
theorem i_str {tg a : Expr} {d : ED} (ha : L2.PE X a (EvE X.K cm d)) : L2.PI X tg a (EvI X.K cm (iStr d)) := by
  intro pins s σ H R I h
  obtain ⟨ρ, A, σp, J, A', rl, rs, ev, k⟩ := h
  obtain ⟨x, A1, e1, ev1⟩ := bnd_inv ev
  refine L2.thn (ha pins s σ H (fun v H1 => ∃ z : Str, v = .str z ∧ z.cps.all (· < 128) = true ∧ R (Itf (sgs z)) H1) I ⟨ρ, A, σp, x, A1, rl, rs, e1, fun ρ1 H1 v1 x1 rl1 rv1 => ?_⟩) fun u s1 ⟨v, H1, I1, r1, z, ej, hz, q⟩ => ?_
  · cases x with
    | str z =>
      obtain ⟨c, ev2⟩ := guard_inv ev1
      cases ev2
      cases rv1
      exact ⟨z, rfl, c, k ρ1 H1 _ x1 rl1 ⟨_, rvs_sgs _, rfl⟩⟩
    | _ => cases ev1
  · subst ej
    obtain ⟨t, rfl⟩ := (show ∃ t, u = Value.str z t from r1)
    refine wpAny_pyIter_ascii hz ?_
    refine ⟨_, [_], _, _, H1, rfl, I1.kept (t' := s1.toks) fun b o e => Heap.get?_push_of_some _ e, turn_str _ z t, ⟨_, Heap.get?_push_size _ rfl, rfl, rfl⟩, fun b hb => ?_, q⟩
    have e : b = s1.heap.objs.size := by simpa using hb
    subst e
    exact I1.fpOk (Nat.le_refl _) (I1.hok.fresh (Nat.le_refl _))
end
end Ws
namespace Ws
open PySem PySem.W PyProof.Rows

theorem typeCall_enum2 (a b : Value) : checkTypeCall "enumerate" ⟨[a], [("start", b)]⟩ = pure () := by kernel_rfl
theorem newCall_enum2 (a b : Value) : checkBuiltinCall "enumerate.__new__" ⟨[.type "enumerate", a], [("start", b)]⟩ = pure () := by kernel_rfl
theorem args_init_enum2 (a b c : Value) : argsOk "object.__init__" ⟨[a, b], [("start", c)]⟩ := by kernel_rfl
set_option maxHeartbeats 1000000 in
theorem meets_enum2 (l : Addr) (items : Array Value) (n : Nat) (dct : Option Addr) (sl : Array (Option Value)) (k : Int) (t : Tok) (hk : Builtin.SmallTypes.fitsIndex k = true) :
    Meets (Builtin.«enumerate.__new__» ⟨[.type "enumerate", .ref l], [("start", .int k t)]⟩) (fun _ R s => s.heap.get? l = some { cls := .type "list", dict := dct, data := .seq items n, slots := sl } ∧
      R (.ok (.ret (.ref (s.heap.push { cls := .type "list_iterator", data := .fields #[.ref l, .int 0 0] }).objs.size)))
        { s with heap := (s.heap.push { cls := .type "list_iterator", data := .fields #[.ref l, .int 0 0] }).push { cls := .type "enumerate", data := .fields #[.none, .bool false, .ref s.heap.objs.size, rawInt k, .none, .none] } }) :=
  .of_wp fun prog w A R s h => by
    obtain ⟨hp, g, d, tk, os⟩ := s; obtain ⟨hl, h⟩ := h
    have hsub := sub_enumerate
    have hL : Heap.IsList (Shared.heap ⟨hp, g, d, tk, os⟩) l items := ⟨_, hl, rfl, n, rfl⟩
    wp_walk using AutoSeq1.wpAny_loadPart' hl
    refine wpAny_stack_any fun st => wpAny_pure ?_
    split
    · rename_i c _ _ _ _ _
      cases (c == Value.type "enumerate")
      · wp_walk using AutoSeq1.wpAny_loadPart' hl, wpAny_pyIter_list hL
        exact ⟨_, rfl, h⟩
      · wp_walk using AutoSeq1.wpAny_loadPart' hl, wpAny_pyIter_list hL
        exact ⟨_, rfl, h⟩
    · wp_walk using AutoSeq1.wpAny_loadPart' hl, wpAny_pyIter_list hL
      exact ⟨_, rfl, h⟩
theorem init_enum2 {self : Value} {rest : List Value} {kw : List (Str × Value)} : Meets (Builtin.«object.__init__» ⟨self :: rest, kw⟩) (fun _ R s => s.TypeIs self "enumerate" ∧ R (.ok (.ret .none)) s) := by
  refine Meets.of_wp fun prog w A R s hs => ?_
  obtain ⟨hT, hq⟩ := hs
  have hl := F.called_enumerate.init.lookup
  have hm := F.called_enumerate.made
  have hne : (some "enumerate.__new__" != some "object.__new__") = true := by decide
  cases rest with
  | nil =>
    cases kw with
    | nil => exact wpAny_pure ⟨_, rfl, hq⟩
    | cons a kw =>
      repeat (any_goals (first | assumption | wp_step))
      exact ⟨_, rfl, hq⟩
  | cons a rest =>
    repeat (any_goals (first | assumption | wp_step))
    exact ⟨_, rfl, hq⟩
section
variable {prog : Program} {w : World} {A : Around} {E : Value → Shared → Prop} {s : Shared}
theorem call_enum2 {l : Addr} {items : Array Value} {k : Int} {t : Tok} {Q : Value → Shared → Prop} (hk : Builtin.SmallTypes.fitsIndex k = true) (hL : s.heap.IsList l items)
    (h : ∀ h', IsEnum h' (s.heap.objs.size + 1) s.heap.objs.size k .none → h'.IsListIter s.heap.objs.size l 0 → h'.objs.size = s.heap.objs.size + 2 →
      (∀ b o, s.heap.get? b = some o → h'.get? b = some o) → Q (.ref (s.heap.objs.size + 1)) { s with heap := h' }) :
    wpAny (model prog w) A (call (.type "enumerate") [.ref l] [("start", .int k t)]) Q E s := by
  obtain ⟨⟨c, dct, dt, sl⟩, hl, hc, n, hd⟩ := hL
  replace hc : c = .type "list" := hc
  replace hd : dt = .seq items n := hd
  subst hc hd
  have ft := F.called_enumerate
  obtain ⟨c, tl, hmro⟩ := ft.mro
  have hmade := ft.made
  have hsub := ft.sub
  have hct := typeCall_enum2 (.ref l) (.int k t)
  refine wpAny_call (codeAny_of_tree ?_)
  show wpAny _ _ (callAny (.type "enumerate") _) _ _ _
  refine wpAny_pure ⟨Code.quiet_builtin _ (by decide +kernel), codeAny_builtin F.entry_type_call ?_⟩
  rw [Around.under_plain (weight_type_call_type "enumerate" _ _) (units_type_call_type "enumerate" _ _)]
  have h1 := ft.notType
  have h2 := ft.canCreate
  repeat (any_goals (first | assumption | wp_step))
  have hz : (s.heap.push { cls := .type "list_iterator", data := .fields #[.ref l, .int 0 0] }).objs.size = s.heap.objs.size + 1 := Heap.size_push ..
  have he : IsEnum ((s.heap.push { cls := .type "list_iterator", data := .fields #[.ref l, .int 0 0] }).push
      { cls := .type "enumerate", data := .fields #[.none, .bool false, .ref s.heap.objs.size, rawInt k, .none, .none] }) (s.heap.objs.size + 1) s.heap.objs.size k .none := by
    have := Heap.get?_push_size (s.heap.push { cls := .type "list_iterator", data := .fields #[.ref l, .int 0 0] })
      (o := { cls := .type "enumerate", data := .fields #[.none, .bool false, .ref s.heap.objs.size, rawInt k, .none, .none] }) rfl
    rw [hz] at this; exact this
  refine codeAny_mono (codeAny_call_builtin ft.plain F.entry_enumerate_new (wpAny_of_eq (newCall_enum2 _ _) (meets_enum2 l items n dct sl k t hk prog w A.in1 (wants (fun v s1 => v = .ref (s.heap.objs.size + 1) ∧ s1 = { s with heap := (s.heap.push { cls := .type "list_iterator", data := .fields #[.ref l, .int 0 0] }).push { cls := .type "enumerate", data := .fields #[.none, .bool false, .ref s.heap.objs.size, rawInt k, .none, .none] } }) E) s ⟨hl, ⟨congrArg Value.ref hz, rfl⟩⟩))) fun r s₁ hr => ?_
  cases r with
  | error e => exact hr
  | ok fl =>
    cases fl with
    | ret obj =>
      obtain ⟨rfl, rfl⟩ := hr
      have hT : Shared.TypeIs { s with heap := (s.heap.push { cls := .type "list_iterator", data := .fields #[.ref l, .int 0 0] }).push { cls := .type "enumerate", data := .fields #[.none, .bool false, .ref s.heap.objs.size, rawInt k, .none, .none] } } (.ref (s.heap.objs.size + 1)) "enumerate" := ⟨_, he, rfl⟩
      have hli := ft.init.lookup
      have hbi := ft.init.bind (.ref (s.heap.objs.size + 1))
      repeat (any_goals (first | assumption | wp_step))
      refine codeAny_mono (codeAny_call_builtin ft.init.plain F.entry_object_init (ft.init.check _ _ _ _ _ _ _ _ hT (args_init_enum2 _ _ _) (init_enum2 prog w A.in1 (wants (fun r s₂ => r = .none ∧ s₂ = _) E) _ ⟨hT, rfl, rfl⟩))) fun r₂ s₂ hr₂ => ?_
      cases r₂ with
      | error e => exact hr₂
      | ok fl₂ =>
        cases fl₂ with
        | ret r =>
          obtain ⟨rfl, rfl⟩ := hr₂
          have hq := h _ he ⟨_, Heap.get?_push_of_some _ (Heap.get?_push_size _ rfl), rfl, rfl⟩ (by rw [Heap.size_push, hz]) fun b o x => Heap.get?_push_of_some _ (Heap.get?_push_of_some _ x)
          repeat (any_goals (first | assumption | wp_step))
        | _ => exact hr₂.elim
    | _ => exact hr.elim
end
structure BaseN (K : PySem.W.Frag) (mg : Str → Option Value) (cm : Nat → Addr) : Prop where
  kit : Kit K
  b_len : mg "len" = none
  b_range : mg "range" = none
  b_list : mg "list" = none
  b_sorted : mg "sorted" = none
  b_isinstance : mg "isinstance" = none
  b_int : mg "int" = none
  b_bool : mg "bool" = none
  b_tuple : mg "tuple" = none
  b_enumerate : mg "enumerate" = none
  b_reversed : mg "reversed" = none
  b_max : mg "max" = none
  b_min : mg "min" = none
  b_all : mg "all" = none
  b_any : mg "any" = none
  b_set : mg "set" = none
  b_zip : mg "zip" = none
  b_dict : mg "dict" = none
end Ws
namespace Ws
open PySem PySem.W PyProof.Rows
theorem draws_from {prog : Program} {w : World} {A : Around} (hh : A.handled = none) (it l : Addr) (hne : l ≠ it) (items : Array Value) (k : Nat) :
    Draws prog w A it [it, l] (k + items.size) (fun j v => items[j - k]? = some v) (fun j h => k ≤ j ∧ h.IsListIter it l (j - k) ∧ h.IsList l items) where
  live := fun _ _ st => let ⟨o, ho, _⟩ := st.2.1; ⟨o, ho⟩
  frame := fun _ _ _ st hk => ⟨st.1, st.2.1.at fun o e => hk it (by simp) o e, st.2.2.at fun o e => hk l (by simp) o e⟩
  item := fun j s Q E hj st hQ => by
    have hi : j - k < items.size := by have := st.1; omega
    refine wpAny_nextOf_list_item st.2.1 st.2.2 (x := items[j - k]) (by simp [hi]) fun h' hit' hs' => ?_
    exact hQ _ h' s.toks (by simp [hi]) ⟨by have := st.1; omega, by rw [show j + 1 - k = j - k + 1 by have := st.1; omega]; exact hit', st.2.2.extBut hs'.extBut hne⟩ hs'
  done := fun s Q E st hE => wpAny_nextOf_list_end hh st.2.1 st.2.2 (by simp) hE
theorem draws_end {prog : Program} {w : World} {A : Around} (hh : A.handled = none) (it l : Addr) (items : Array Value) (i : Nat) (hi : items.size ≤ i) :
    Draws prog w A it [it, l] 0 (fun _ _ => True) (fun _ h => h.IsListIter it l i ∧ h.IsList l items) where
  live := fun _ _ st => let ⟨o, ho, _⟩ := st.1; ⟨o, ho⟩
  frame := fun _ _ _ st hk => ⟨st.1.at fun o e => hk it (by simp) o e, st.2.at fun o e => hk l (by simp) o e⟩
  item := fun j s Q E hj st hQ => absurd hj (Nat.not_lt_zero _)
  done := fun s Q E st hE => wpAny_nextOf_list_end hh st.1 st.2 (by rw [Array.getElem?_eq_none]; exact hi) hE
theorem turn_enk {P : Program} {w : World} {K : PySem.W.Frag} {elts : List Expr} {x1 : Nat} {pos : Pos} (k : Nat) (a e it : Addr) (hei : e ≠ it) : L2.Turn P w K (.Tuple elts x1 pos) (Itk K k a) [e, it] e (fun i h => (∃ old, IsEnum h e it ((k + i : Nat) : Int) old) ∧ h.IsListIter it a i) where
  mem := by simp
  obj := fun i h st b hb => by
    obtain ⟨⟨old, he⟩, o, e1, c, d⟩ := st
    rcases List.mem_cons.mp hb with rfl | hb
    · exact ⟨_, he, fun v z => by cases z⟩
    · have e2 : b = it := by simpa using hb
      subst e2
      exact ⟨o, e1, fun v z => by rw [d] at z; cases z⟩
  keep := fun i h h' st k => by
    obtain ⟨⟨old, he⟩, hit⟩ := st
    exact ⟨⟨old, k e (by simp) _ he⟩, hit.at fun o x => k it (by simp) o x⟩
  item := by
    intro X hP hw hK hc i pins s σ H E I hf st hg
    subst hP hw hK
    obtain ⟨xs, x, hq, hx⟩ := hg
    obtain ⟨its, rv, p, hz⟩ := I.list hq
    obtain ⟨u, hu, ru⟩ := rv.get hx
    obtain ⟨⟨old, he⟩, hit⟩ := st
    have el := Heap.lt_size he
    have hl := p.isList
    have ne_of : ∀ b, (∃ o : Obj, s.heap.get? b = some o ∧ o.cls ≠ .type "list") → a ≠ b := fun b ⟨o, ho, hc⟩ z => by
      obtain ⟨o', ho', hc', _⟩ := hl
      rw [z, ho] at ho'; cases ho'; exact hc hc'
    have hae : a ≠ e := ne_of e ⟨_, he, by simp⟩
    have hai : a ≠ it := by
      obtain ⟨o, ho, hc, _⟩ := id hit
      exact ne_of it ⟨o, ho, by rw [hc]; simp⟩
    have hi : i < its.length := (List.getElem?_eq_some_iff.mp hu).1
    refine wpAny_pyNext_enum_itemD (draws_from (A := X.A.in1) (I.ok.hd hc) it a hai its.toArray k) he ⟨Nat.le_add_right _ _, by rw [Nat.add_sub_cancel_left]; exact hit, hl⟩ (by simp; omega) hei (by simp [hei, hae.symm]) fun u' h' tk hu' ho hst hT hsz hk => ?_
    have e0 : u' = u := by
      rw [Nat.add_sub_cancel_left] at hu'
      have : its[i]? = some u' := by simpa using hu'
      rw [hu] at this; cases this; rfl
    subst e0
    have hit' : h'.IsListIter it a (i + 1) := by
      have := hst.2.1
      rw [show k + i + 1 - k = i + 1 by omega] at this; exact this
    refine ⟨.ref s.heap.objs.size, rfl, wpAny_letOwnedTupleGo_enum (s := { s with heap := h', toks := tk + 1 }) ho fun h2 he2 hs2 => ?_⟩
    have sb : ∀ b u, b ≠ e → h'.get? b = some u → h2.get? b = some u := fun b u hb q => (hs2.2 b hb).trans q
    have hTe : s.heap.objs.size ≠ e := Nat.ne_of_gt el
    have I2 : L2.Inv X pins σ (L2.upd H s.heap.objs.size (.tup [.int ((k + i : Nat) : Int), x])) { s with heap := h2, toks := tk + 1 } := by
      refine turned_new (s := s) (t' := tk + 1) I hf (fun b u hb q => ?_) (Nat.le_refl _) ?_
      · have h1 : b ≠ e := fun z => hb (by simp [z])
        have h2 : b ≠ it := fun z => hb (by simp [z])
        exact sb b u h1 (hk b u h1 h2 q)
      · exact ⟨by show 2 ≤ sizeLine; decide, [.int ((k + i : Nat) : Int) tk, u'], .cons ⟨_, rfl⟩ (.cons ru .nil), _, sb _ _ hTe hT, rfl, _, rfl⟩
    refine ⟨.ref s.heap.objs.size, L2.upd H s.heap.objs.size (.tup [.int ((k + i : Nat) : Int), x]), I2, rfl, ⟨x, s.heap.objs.size, fun ys hy => by rw [I.list_inj hy hq]; exact hx, I.hok.fresh (Nat.le_refl _), rfl, rfl⟩, ⟨⟨u', by exact_mod_cast he2⟩, hit'.at fun o y => sb it o hei.symm y⟩, fun b hb => ?_⟩
    · rw [L2.upd_ne]
      · exact (hf b hb).1
      · rcases List.mem_cons.mp hb with rfl | hb
        · exact hTe.symm
        · have e2 : b = it := by simpa using hb
          subst e2
          obtain ⟨_, y, _⟩ := hit
          exact Nat.ne_of_lt (Heap.lt_size y)
  done := by
    intro X hP hw hK hc i pins s σ H E I hf st hg
    subst hP hw hK
    obtain ⟨xs, hq, hx⟩ := hg
    obtain ⟨its, rv, p, hz⟩ := I.list hq
    obtain ⟨⟨old, he⟩, hit⟩ := st
    have hl := rv.length
    exact wpAny_pyNext_enum_endD (draws_end (A := X.A.in1) (I.ok.hd hc) it a its.toArray i (by simp; omega)) he ⟨hit, p.isList⟩ fun h' eb => ⟨rfl, turned_fp (t' := s.toks) I hf fun b u hb q => eb b u (fun z => hb (by simp [z])) q⟩
  self := fun _ _ _ _ _ st h => by
    obtain ⟨⟨old, he⟩, _⟩ := st
    exact wpAny_pyIter_enum he h
theorem callWith_tkw {M : Model} {A : Around} {E : Value → Shared → Prop} {s : Shared} {env : Env} {pos : Pos} {T : String} {e : Expr} {rest : List Expr} {kws : List Keyword} {Q : Value → Shared → Prop}
    (h : wpAny M A (spliced (backTo pos (starEach (e :: rest) env))) (fun vs s₁ => wpAny M A (evalAll ((backToKw pos (keywordEach kws env)).map (·.2)))
      (fun kvs s₂ => wpAny M A (call (.type T) vs (((backToKw pos (keywordEach kws env)).filterMap (·.1)).zip kvs)) Q E s₂) E s₁) E s)
    (he : backTo pos (starEach (e :: rest) env) = (false, eval e env) :: backTo pos (starEach rest env))
    (hplain : (backTo pos (starEach (e :: rest) env)).any (·.1) = false)
    (hall : (backToKw pos (keywordEach kws env)).all (·.1.isSome) = true)
    (hkw : (backToKw pos (keywordEach kws env)).any (·.1.isNone) = false) :
    wpAny M A (callWith pos (.type T) [] (backTo pos (starEach (e :: rest) env)) (backToKw pos (keywordEach kws env))) Q E s := by
  have h2 : wpAny M A (evalArgs (.type T) true (backTo pos (starEach (e :: rest) env)) (backToKw pos (keywordEach kws env))) (fun a s₁ => wpAny M A (call (.type T) ([] ++ a.pos) a.kw) Q E s₁) E s := by
    rw [he] at h ⊢
    exact evalArgs_kwB hall h
  unfold callWith
  refine wpAny_bind (wpAny_holding (wpAny_mono h2 (fun a s₁ h₁ => wpAny_bind (wpAny_standAt ?_)) fun _ _ x => x))
  simp only [hplain, hkw, Bool.or_false]
  refine wpAny_bind (wpAny_pure ?_)
  exact wpAny_bind (wpAny_mono h₁ (fun r s₂ hr => wpAny_bind (wpAny_holding (wpAny_point (wpAny_pure hr)))) fun _ _ x => x)
section
variable {X : L2.Cx} {cm : Nat → Addr}
theorem i_enk {l f : Expr} {d : ED} {k : Nat} (hk : Builtin.SmallTypes.fitsIndex (k : Int) = true) {elts : List Expr} {x1 : Nat} {tpos p kpos pos : Pos} (hg : L2.Gl X "enumerate") (hm : X.mg "enumerate" = none) (hl : L2.PE X l (EvE X.K cm d)) (hf : L2.PE X f (EvE X.K cm (eK (.int (k : Int))))) (hs : starEach [l] X.env = (false, eval l X.env) :: starEach [] X.env := by exact star_c rfl)
    (h1 : backTo pos (starEach [l] X.env) = (false, eval l X.env) :: backTo pos (starEach [] X.env) := by rfl)
    (h2 : (backTo pos (starEach [l] X.env)).any (·.1) = false := by rfl) (h3 : (backToKw pos (keywordEach [⟨some "start", f, kpos⟩] X.env)).all (·.1.isSome) = true := by rfl)
    (h4 : (backToKw pos (keywordEach [⟨some "start", f, kpos⟩] X.env)).any (·.1.isNone) = false := by rfl)
    (h5 : (backToKw pos (keywordEach [⟨some "start", f, kpos⟩] X.env)).filterMap (·.1) = [("start" : Str)] := by rfl) : L2.PI X (.Tuple elts x1 tpos) (.Call (.Name "enumerate" p) [l] [⟨some "start", f, kpos⟩] pos) (EvI X.K cm (iEnk k d)) := by
  intro pins s σ H R I h
  obtain ⟨ρ, A, σp, J, A', rl, rs, ev, kk⟩ := h
  obtain ⟨x, A1, e1, ev1⟩ := bnd_inv ev
  refine wpAny_Call_Name_kw (L2.ld_blt I hg hm PyProof.Rows.boot_enumerate ?_ (by decide) (by decide))
  refine callWith_tkw (L2.thn ((r_cons hl r_nil hs) pos pins s σ H (fun vs H1 => ∃ ρ1, Ext ρ H ρ1 H1 ∧ Rel X.K cm ρ1 A1 H1 ∧ RVs ρ1 H1 [x] vs) I ⟨ρ, A, σp, [x], A1, rl, rs, by show bnd (d σp) _ A = _; rw [bnd_ok e1]; rfl, fun ρ1 H1 vs1 x1 rl1 rv1 => ⟨ρ1, x1, rl1, rv1⟩⟩) fun us s1 ⟨vs, H1, I1, r1, ρ1, x1, rl1, rv1⟩ => L2.thn ((L2.pk_cons hf L2.pk_nil) pos pins s1 σ H1 (fun zs H2 => ∃ a xs, vs = [.ref a] ∧ zs = [.int (k : Int)] ∧ L2.SqL X.K H2 a xs ∧ R (Itk X.K k a) H2) I1 ⟨ρ1, A1, σp, .int k, A1, rl1, rs.mono x1, rfl, fun ρ2 H2 v2 x2 rl2 rv2 => ?_⟩) fun ws s2 ⟨zs, H2, I2, r2, q2⟩ => ?_) h1 h2 h3 h4
  · cases rv2
    cases x with
    | ref n =>
      obtain ⟨m, A2, e2, ev2⟩ := bnd_inv ev1
      cases rv1 with
      | cons hv hr =>
        cases hr
        obtain ⟨rfl, a, xs, rfl, hq, r⟩ := lst_read rl2 (hv.mono x2) e2
        cases ev2
        cases hv.mono x2 with
        | ref hn => exact ⟨a, xs, rfl, rfl, hq, kk ρ2 H2 _ (x1.trans x2) rl2 ⟨a, hn, rfl⟩⟩
    | _ => cases ev1
  · rw [h5]
    obtain ⟨a, xs, rfl, rfl, hq, q⟩ := q2
    obtain ⟨u, rfl, rx⟩ := L2.vals1 r1
    obtain ⟨z, rfl, rz⟩ := L2.vals1 r2
    cases rx
    obtain ⟨t, rfl⟩ := (show ∃ t, z = Value.int (k : Int) t from rz)
    obtain ⟨its, rv, pl, hz⟩ := I2.list hq
    refine call_enum2 hk pl.isList fun h' he hit hsz kp => ?_
    refine wpAny_pyIter_enum he ?_
    have I3 : L2.Inv X pins σ H2 { s2 with heap := h' } := I2.kept (t' := s2.toks) kp
    refine ⟨s2.heap.objs.size + 1, [s2.heap.objs.size + 1, s2.heap.objs.size], _, _, H2, rfl, I3, turn_enk k a _ _ (Nat.succ_ne_self _), ⟨⟨_, he⟩, hit⟩, fun b hb => ?_, q⟩
    have hb2 : s2.heap.objs.size ≤ b := by
      rcases List.mem_cons.mp hb with rfl | hb
      · exact Nat.le_succ _
      · have : b = s2.heap.objs.size := by simpa using hb
        exact Nat.le_of_eq this.symm
    exact I2.fpOk hb2 (I2.hok.fresh hb2)
end
end Ws
namespace Ws
noncomputable abbrev XP := Nat → PV → PHp → Prop
noncomputable def Wp {α : Type} (m : M α) (A : PHp) (Q : α → PHp → Prop) (E : XP) : Prop := match m A with
  | .ok a A' => Q a A'
  | .ex c v A' => E c v A'
  | .no => False
noncomputable abbrev NoX : XP := fun _ _ _ => False
section
variable {α β : Type} {m : M α} {f : α → M β} {A A' A1 B : PHp} {a : α} {E E' : XP} {σ σ' : PSt}
theorem w_eq {Q : α → PHp → Prop} (h : m A = .ok a A') (q : Q a A') : Wp m A Q E := by unfold Wp; rw [h]; exact q
theorem w_inv {Q : α → PHp → Prop} (h : Wp m A Q NoX) : ∃ a A', m A = .ok a A' ∧ Q a A' := by
  unfold Wp at h
  cases e : m A with
  | ok a A' => rw [e] at h; exact ⟨a, A', rfl, h⟩
  | ex c v A' => rw [e] at h; exact h.elim
  | no => rw [e] at h; exact h.elim
theorem w_mono2 {Q Q' : α → PHp → Prop} (h : Wp m A Q E) (hq : ∀ a A', Q a A' → Q' a A') (he : ∀ c v A', E c v A' → E' c v A') : Wp m A Q' E' := by
  unfold Wp at h ⊢
  cases e : m A with
  | ok a A' => rw [e] at h; exact hq _ _ h
  | ex c v A' => rw [e] at h; exact he _ _ _ h
  | no => rw [e] at h; exact h.elim
theorem w_mono {Q Q' : α → PHp → Prop} (h : Wp m A Q E) (hq : ∀ a A', Q a A' → Q' a A') : Wp m A Q' E := w_mono2 h hq fun _ _ _ z => z
theorem w_ret {Q : α → PHp → Prop} (q : Q a A) : Wp (ret a) A Q E := q
theorem w_bnd {Q : β → PHp → Prop} (h : Wp m A (fun a A1 => Wp (f a) A1 Q E) E) : Wp (bnd m f) A Q E := by
  unfold Wp at h ⊢
  unfold bnd
  cases e : m A with
  | ok a A' => rw [e] at h; exact h
  | ex c v A' => rw [e] at h; exact h
  | no => rw [e] at h; exact h
theorem w_guard {P : Prop} {Q : α → PHp → Prop} (p : P) (h : Wp m A Q E) : Wp (guard P m) A Q E := by rw [guard_pos p]; exact h
variable {Q : PV → PHp → Prop} {e e1 e2 e3 : ED} {es : AD} {v x y : PV} {i j : Int} {k n : Nat} {l : List PV}
theorem w_var (h : σ[k]? = some (some v)) (q : Q v A) : Wp (eVar k σ) A Q E := w_eq (a := v) (by show (eVar k σ) A = _; unfold eVar; rw [h]; rfl) q
theorem w_k (q : Q v A) : Wp (eK v σ) A Q E := q
theorem w_nil {Q : List PV → PHp → Prop} (q : Q [] A) : Wp (aNil σ) A Q E := q
theorem w_cons {Q : List PV → PHp → Prop} (h : Wp (e σ) A (fun x A1 => Wp (es σ) A1 (fun xs A2 => Q (x :: xs) A2) E) E) : Wp (aCons e es σ) A Q E :=
  w_bnd (w_mono h fun _ _ h1 => w_bnd (w_mono h1 fun _ _ h2 => h2))
theorem w_tup (h : Wp (es σ) A (fun xs A1 => xs.length ≤ LIM ∧ Q (.tup xs) A1) E) : Wp (eTup es σ) A Q E := w_bnd (w_mono h fun _ _ ⟨h1, h2⟩ => w_guard h1 h2)
theorem w_lst (h : Wp (es σ) A (fun xs A1 => xs.length ≤ LIM ∧ Q (.ref A1.length) (A1 ++ [.lst xs])) E) : Wp (eLst es σ) A Q E := w_bnd (w_mono h fun _ _ ⟨h1, h2⟩ => w_guard h1 h2)
theorem w_bin {f : OD} (h : Wp (e1 σ) A (fun x A1 => Wp (e2 σ) A1 (fun y A2 => Wp (f x y) A2 Q E) E) E) : Wp (eBin f e1 e2 σ) A Q E := w_bnd (w_mono h fun _ _ h1 => w_bnd h1)
theorem w_add (q : Q (.int (i + j)) A) : Wp (oAdd (.int i) (.int j)) A Q E := q
theorem w_addT {l m : List PV} (h : l ≠ [] ∧ l.length + m.length ≤ LIM) (q : Q (.tup (l ++ m)) A) : Wp (oAdd (.tup l) (.tup m)) A Q E := w_guard h q
theorem w_mut {Q : List PV → PHp → Prop} (h : A[n]? = some (.lst l)) (q : Q l A) : Wp (mutAt n) A Q E := w_eq (mutAt_lst h) q
theorem w_addL {n k : Nat} {l m : List PV} (hn : A[n]? = some (.lst l)) (hk : A[k]? = some (.lst m)) (hl : l.length + m.length ≤ LIM) (q : Q (.ref A.length) (A ++ [.lst (l ++ m)])) : Wp (oAdd (.ref n) (.ref k)) A Q E :=
  w_bnd (w_mut hn (w_bnd (w_mut hk (w_guard hl q))))
theorem w_mod (h : 0 < j) (q : Q (.int (i % j)) A) : Wp (oMod (.int i) (.int j)) A Q E := w_guard h q
theorem w_fdiv (h : 0 < j ∧ j < 1073741824) (q : Q (.int (i / j)) A) : Wp (oFdiv (.int i) (.int j)) A Q E := w_guard h q
theorem w_lt (q : Q (.bl (decide (i < j))) A) : Wp (oLt (.int i) (.int j)) A Q E := q
theorem w_le (q : Q (.bl (decide (i ≤ j))) A) : Wp (oLe (.int i) (.int j)) A Q E := q
theorem w_eqI (q : Q (.bl (decide (i = j))) A) : Wp (oEq (.int i) (.int j)) A Q E := w_bnd (w_guard (.inr ⟨rfl, rfl⟩) q)
theorem w_eqT {l m : List PV} (h : plain (.tup l) = true ∧ plain (.tup m) = true) (q : Q (.bl (eqvs l m)) A) : Wp (oEq (.tup l) (.tup m)) A Q E := w_bnd (w_guard (.inr h) q)
theorem w_neT {l m : List PV} (h : plain (.tup l) = true ∧ plain (.tup m) = true) (q : Q (.bl (!eqvs l m)) A) : Wp (oNe (.tup l) (.tup m)) A Q E := w_bnd (w_guard (.inr h) q)
theorem w_eqP (hx : plain x = true) (hy : plain y = true) (q : Q (.bl (eqv x y)) A) : Wp (oEq x y) A Q E := by
  cases x with
  | ref n => cases hx
  | _ => exact w_bnd (w_guard (.inr ⟨hx, hy⟩) q)
theorem w_neP (hx : plain x = true) (hy : plain y = true) (q : Q (.bl (!eqv x y)) A) : Wp (oNe x y) A Q E := by
  cases x with
  | ref n => cases hx
  | _ => exact w_bnd (w_guard (.inr ⟨hx, hy⟩) q)
theorem w_lstAt {Q : List PV → PHp → Prop} (h : A[n]? = some (.lst l)) (q : Q l A) : Wp (lstAt n) A Q E := w_eq (lstAt_lst h) q
theorem w_eqL {n k : Nat} {l m : List PV} (hn : A[n]? = some (.lst l)) (hk : A[k]? = some (.lst m)) (hp : plains l = true ∧ plains m = true) (q : Q (.bl (eqvs l m)) A) : Wp (oEq (.ref n) (.ref k)) A Q E :=
  w_bnd (w_bnd (w_lstAt hn (w_bnd (w_lstAt hk (w_guard hp q)))))
theorem w_neL {n k : Nat} {l m : List PV} (hn : A[n]? = some (.lst l)) (hk : A[k]? = some (.lst m)) (hp : plains l = true ∧ plains m = true) (q : Q (.bl (!eqvs l m)) A) : Wp (oNe (.ref n) (.ref k)) A Q E :=
  w_bnd (w_bnd (w_lstAt hn (w_bnd (w_lstAt hk (w_guard hp q)))))
theorem w_isN (h : Wp (e σ) A (fun x A1 => Q (.bl (isNon x)) A1) E) : Wp (eIsN e σ) A Q E := w_bnd h
theorem w_chain {f g : OD} (h : Wp (e1 σ) A (fun x A1 => Wp (e2 σ) A1 (fun y A2 => Wp (f x y) A2 (fun z A3 => ∃ b, z = .bl b ∧ ((b = true → Wp (e3 σ) A3 (fun u A4 => Wp (g y u) A4 Q E) E) ∧ (b = false → Q (.bl false) A3))) E) E) E) : Wp (eChain f g e1 e2 e3 σ) A Q E :=
  w_bnd (w_mono h fun _ _ h1 => w_bnd (w_mono h1 fun _ _ h2 => w_bnd (w_mono h2 fun z A3 ⟨b, hz, h3, h4⟩ => by
    subst hz
    cases b with
    | true => exact w_bnd (h3 rfl)
    | false => exact h4 rfl)))
variable {QB : Bool → PHp → Prop} {t t1 t2 : TD} {b : Bool}
theorem w_true (q : QB true A) : Wp (tTrue σ) A QB E := q
theorem w_tval (h : Wp (e σ) A (fun x A1 => ∃ b, x = .bl b ∧ QB b A1) E) : Wp (tVal e σ) A QB E := w_bnd (w_mono h fun x A1 ⟨b, hx, q⟩ => by subst hx; exact q)
theorem w_tand (h : Wp (t1 σ) A (fun b A1 => (b = true → Wp (t2 σ) A1 QB E) ∧ (b = false → QB false A1)) E) : Wp (tAnd t1 t2 σ) A QB E := w_bnd (w_mono h fun b A1 ⟨h1, h2⟩ => by
  cases b with
  | true => exact h1 rfl
  | false => exact h2 rfl)
theorem w_tor (h : Wp (t1 σ) A (fun b A1 => (b = true → QB true A1) ∧ (b = false → Wp (t2 σ) A1 QB E)) E) : Wp (tOr t1 t2 σ) A QB E := w_bnd (w_mono h fun b A1 ⟨h1, h2⟩ => by
  cases b with
  | true => exact h1 rfl
  | false => exact h2 rfl)
theorem w_tnot (h : Wp (t σ) A (fun b A1 => QB (!b) A1) E) : Wp (tNot t σ) A QB E := w_bnd h
theorem w_and (h : Wp (e1 σ) A (fun x A1 => ∃ b, x = .bl b ∧ ((b = true → Wp (e2 σ) A1 Q E) ∧ (b = false → Q (.bl false) A1))) E) : Wp (eAnd e1 e2 σ) A Q E := w_bnd (w_bnd (w_mono h fun x A1 ⟨b, hx, h1, h2⟩ => by
  subst hx
  cases b with
  | true => exact h1 rfl
  | false => exact h2 rfl))
theorem w_or (h : Wp (e1 σ) A (fun x A1 => ∃ b, x = .bl b ∧ ((b = true → Q (.bl true) A1) ∧ (b = false → Wp (e2 σ) A1 Q E))) E) : Wp (eOr e1 e2 σ) A Q E := w_bnd (w_bnd (w_mono h fun x A1 ⟨b, hx, h1, h2⟩ => by
  subst hx
  cases b with
  | true => exact h1 rfl
  | false => exact h2 rfl))
theorem w_ifE (h : Wp (t σ) A (fun b A1 => (b = true → Wp (e1 σ) A1 Q E) ∧ (b = false → Wp (e2 σ) A1 Q E)) E) : Wp (eIf t e1 e2 σ) A Q E := w_bnd (w_mono h fun b A1 ⟨h1, h2⟩ => by
  cases b with
  | true => exact h1 rfl
  | false => exact h2 rfl)
theorem w_ixL (hn : A[n]? = some (.lst l)) (hi : atI l i = some v) (q : Q v A) : Wp (oIx (.ref n) (.int i)) A Q E := w_bnd (w_lstAt hn (by rw [hi]; exact q))
theorem w_ixT (hi : atI l i = some v) (q : Q v A) : Wp (oIx (.tup l) (.int i)) A Q E := by
  refine w_eq (a := v) (A' := A) ?_ q
  simp [hi]
theorem w_len (h : Wp (e σ) A (fun x A1 => Wp (seqOf x) A1 (fun l A2 => Q (.int l.length) A2) E) E) : Wp (eLen e σ) A Q E := w_bnd (w_mono h fun _ _ h1 => w_bnd h1)
theorem w_seqL {Q : List PV → PHp → Prop} (h : A[n]? = some (.lst l)) (q : Q l A) : Wp (seqOf (.ref n)) A Q E := w_lstAt h q
theorem w_listOf (h : Wp (e σ) A (fun x A1 => Wp (seqOf x) A1 (fun l A2 => Q (.ref A2.length) (A2 ++ [.lst l])) E) E) : Wp (eListOf e σ) A Q E := w_bnd (w_mono h fun _ _ h1 => w_bnd h1)
theorem w_tupleOf (h : Wp (e σ) A (fun x A1 => ∃ n l, x = .ref n ∧ A1[n]? = some (.lst l) ∧ l.length ≤ LIM ∧ Q (.tup l) A1) E) : Wp (eTupleOf e σ) A Q E := w_bnd (w_mono h fun x A1 ⟨n, l, hx, h1, h2, q⟩ => by
  subst hx
  exact w_bnd (w_lstAt h1 (w_guard h2 q)))
variable {QO : Option Int → PHp → Prop} {lo hi : LD}
theorem w_lno (q : QO none A) : Wp (lNo σ) A QO E := q
theorem w_lat (h : Wp (e σ) A (fun x A1 => ∃ i, x = .int i ∧ QO (some i) A1) E) : Wp (lAt e σ) A QO E := w_bnd (w_mono h fun x A1 ⟨i, hx, q⟩ => by subst hx; exact q)
theorem w_cut (h : Wp (e σ) A (fun x A1 => Wp (lo σ) A1 (fun l A2 => Wp (hi σ) A2 (fun h A3 => (∃ n xs, x = .ref n ∧ lstAt n A3 = .ok xs A3 ∧ Q (.ref A3.length) (A3 ++ [.lst (cut xs l h)])) ∨
    ∃ xs, x = .tup xs ∧ ¬ (cutIx xs.length 0 l = 0 ∧ cutIx xs.length xs.length h = xs.length) ∧ Q (.tup (cut xs l h)) A3) E) E) E) : Wp (eCut e lo hi σ) A Q E :=
  w_bnd (w_mono h fun _ _ h1 => w_bnd (w_mono h1 fun _ _ h2 => w_bnd (w_mono h2 fun _ _ h3 => by
    rcases h3 with ⟨n, xs, rfl, hn, q⟩ | ⟨xs, rfl, hn, q⟩
    · exact w_bnd (w_eq hn q)
    · exact w_guard hn q)))
theorem blsOf_map : ∀ bs : List Bool, blsOf (bs.map PV.bl) = some bs
  | [] => rfl
  | b :: r => by rw [List.map_cons]; show (blsOf (r.map PV.bl)).map (b :: ·) = _; rw [blsOf_map r]; rfl
theorem w_all (h : Wp (e σ) A (fun x A1 => ∃ (n : Nat) (bs : List Bool), x = .ref n ∧ A1[n]? = some (.lst (bs.map PV.bl)) ∧ Q (.bl (bs.all id)) A1) E) : Wp (eAll e σ) A Q E := w_bnd (w_mono h fun x A1 ⟨n, bs, hx, h1, q⟩ => by
  subst hx
  refine w_bnd (w_lstAt h1 ?_)
  rw [blsOf_map]; exact q)
theorem w_append {e1 e2 : ED} (h : Wp (e1 σ) A (fun x A1 => ∃ n l, x = .ref n ∧ A1[n]? = some (.lst l) ∧ Wp (e2 σ) A1 (fun v A2 => ∃ l2, A2[n]? = some (.lst l2) ∧ l2.length < LIM ∧ Q .non (A2.set n (.lst (l2 ++ [v])))) E) E) : Wp (eAppend e1 e2 σ) A Q E :=
  w_bnd (w_mono h fun x A1 ⟨n, l, hx, h1, h2⟩ => by
    subst hx
    exact w_bnd (w_mut h1 (w_bnd (w_mono h2 fun v A2 ⟨l2, h3, h4, q⟩ => w_bnd (w_mut h3 (w_guard h4 q))))))
theorem w_call {f : Fun} (h : Wp (es σ) A (fun vs A1 => Wp (f vs) A1 Q E) E) : Wp (eCall f es σ) A Q E := w_bnd h
variable {QF : Fl → PHp → Prop} {s s1 s2 : SD} {g : GD} {QS : PSt → PHp → Prop}
theorem w_pass (q : QF (.nx σ) A) : Wp (sPass σ) A QF E := q
theorem w_seq (h : Wp (s1 σ) A (fun o A1 => match o with | .nx σ' => Wp (s2 σ') A1 QF E | o => QF o A1) E) : Wp (sSeq s1 s2 σ) A QF E := w_bnd (w_mono h fun o A1 h1 => by
  cases o with
  | nx σ' => exact h1
  | _ => exact h1)
theorem w_exp (h : Wp (e σ) A (fun _ A1 => QF (.nx σ) A1) E) : Wp (sExpr e σ) A QF E := w_bnd h
theorem w_retS (h : Wp (e σ) A (fun v A1 => QF (.rt v) A1) E) : Wp (sRet e σ) A QF E := w_bnd h
theorem w_if (h : Wp (t σ) A (fun b A1 => (b = true → Wp (s1 σ) A1 QF E) ∧ (b = false → Wp (s2 σ) A1 QF E)) E) : Wp (sIf t s1 s2 σ) A QF E := w_bnd (w_mono h fun b A1 ⟨h1, h2⟩ => by
  cases b with
  | true => exact h1 rfl
  | false => exact h2 rfl)
theorem w_asg (h : Wp (e σ) A (fun v A1 => Wp (g v σ) A1 (fun σ' A2 => QF (.nx σ') A2) E) E) : Wp (sAsg e g σ) A QF E := w_bnd (w_mono h fun _ _ h1 => w_bnd h1)
theorem w_gname (q : QS (σ.set k (some v)) A) : Wp (gName k v σ) A QS E := q
theorem w_gnil (q : QS σ A) : Wp (gNil [] σ) A QS E := q
theorem w_gcons {r : GDs} {vs : List PV} (h : Wp (g v σ) A (fun σ' A1 => Wp (r vs σ') A1 QS E) E) : Wp (gCons g r (v :: vs) σ) A QS E := w_bnd h
theorem w_gtup {r : GDs} (hl : l.length = n) (h : Wp (r l σ) A QS E) : Wp (gTup n r (.tup l) σ) A QS E := w_guard hl h
theorem w_fn {n p : Nat} {vs : List PV} (hl : vs.length = p) (h : Wp (s (start n vs)) A (fun o A1 => match o with | .rt v => Q v A1 | .nx _ => Q .non A1 | _ => False) E) : Wp (fn n p s vs) A Q E :=
  w_guard hl (w_bnd (w_mono h fun o A1 h1 => by
    cases o with
    | rt v => exact h1
    | nx σ' => exact h1
    | bk σ' => exact h1.elim
    | ct σ' => exact h1.elim))
noncomputable abbrev TurnQ (P : PSt → PHp → Prop) (QF : Fl → PHp → Prop) : Fl → PHp → Prop := fun o A => match o with
  | .nx σ => P σ A
  | .ct σ => P σ A
  | .bk σ => QF (.nx σ) A
  | .rt v => QF (.rt v) A
theorem w_turns {J : It} {n : Nat} (P : Nat → PSt → PHp → Prop) (hend : ∀ σ A, P n σ A → item J n A = .ok none A ∧ QF (.nx σ) A)
    (hs : ∀ i σ A, i < n → P i σ A → ∃ v, item J i A = .ok (some v) A ∧ Wp (g v σ) A (fun σ1 A1 => Wp (s σ1) A1 (TurnQ (P (i + 1)) QF) E) E) :
    ∀ k i σ A, i + k = n → P i σ A → ∀ m, k < m → Wp (turns J g s m i σ) A QF E
  | _, _, _, _, _, _, 0, hm => absurd hm (Nat.not_lt_zero _)
  | 0, i, σ, A, e, h, m + 1, hm => by
    obtain rfl : i = n := by omega
    obtain ⟨h1, h2⟩ := hend σ A h
    rw [turns_succ]
    exact w_bnd (w_eq h1 h2)
  | k + 1, i, σ, A, e, h, m + 1, hm => by
    obtain ⟨v, hv, t⟩ := hs i σ A (by omega) h
    rw [turns_succ]
    refine w_bnd (w_eq hv ?_)
    refine w_bnd (w_mono t fun σ1 A1 h1 => w_bnd (w_mono h1 fun o A2 h2 => ?_))
    cases o with
    | nx σ2 => exact w_turns P hend hs k (i + 1) σ2 A2 (by omega) h2 m (by omega)
    | ct σ2 => exact w_turns P hend hs k (i + 1) σ2 A2 (by omega) h2 m (by omega)
    | bk σ2 => exact h2
    | rt v => exact h2
theorem w_forL {it : ID} (P : Nat → PSt → PHp → Prop) (h : Wp (it σ) A (fun J A1 => ∃ a l, J = .lst a ∧ P 0 σ A1 ∧ (∀ i σ B, P i σ B → lstAt a B = .ok l B) ∧ (∀ (i : Nat) v σ B, l[i]? = some v → P i σ B → Wp (g v σ) B (fun σ1 B1 => Wp (s σ1) B1 (TurnQ (P (i + 1)) QF) E) E) ∧ ∀ σ B, P l.length σ B → QF (.nx σ) B) E) :
    Wp (sFor it g s σ) A QF E := w_bnd (w_mono h fun J A1 ⟨a, l, hJ, h0, hl, hs, he⟩ => by
  subst hJ
  refine w_bnd (w_bnd (w_eq (hl 0 σ A1 h0) (w_ret ?_)))
  refine w_turns P (fun σ B hP => ⟨by show bnd (lstAt a) _ B = _; rw [bnd_ok (hl _ σ B hP)]; simp, he σ B hP⟩) (fun i σ B hi hP => ?_) l.length 0 σ A1 (by omega) h0 (l.length + 1) (Nat.lt_succ_self _)
  exact ⟨l[i], by show bnd (lstAt a) _ B = _; rw [bnd_ok (hl _ σ B hP), List.getElem?_eq_getElem hi]; rfl, hs i l[i] σ B (List.getElem?_eq_getElem hi) hP⟩)
theorem w_cturns {J : It} {g : GD} {t : TD} {e : ED} {l : List PV} {QL : List PV → PHp → Prop} (P : Nat → List PV → PSt → PHp → Prop) (hit : ∀ i acc σ B, P i acc σ B → item J i B = .ok l[i]? B)
    (hs : ∀ i v acc σ B, l[i]? = some v → P i acc σ B → Wp (g v σ) B (fun σ1 B1 => Wp (t σ1) B1 (fun c B2 => (c = true → Wp (e σ1) B2 (fun y B3 => P (i + 1) (acc ++ [y]) σ1 B3) E) ∧ (c = false → P (i + 1) acc σ1 B2)) E) E)
    (he : ∀ acc σ B, P l.length acc σ B → QL acc B) : ∀ k i acc σ B, i ≤ l.length → l.length < i + k → P i acc σ B → Wp (cturns J g t e k i σ) B (fun ys B' => QL (acc ++ ys) B') E
  | 0, i, acc, σ, B, h1, h2, _ => absurd h2 (by omega)
  | k + 1, i, acc, σ, B, h1, h2, h => by
    rw [cturns_succ]
    refine w_bnd (w_eq (hit i acc σ B h) ?_)
    cases hv : l[i]? with
    | none =>
      have : l.length = i := by have := List.getElem?_eq_none_iff.mp hv; omega
      subst this
      show QL (acc ++ []) B
      rw [List.append_nil]; exact he acc σ B h
    | some v =>
      have hi := (List.getElem?_eq_some_iff.mp hv).1
      refine w_bnd (w_mono (hs i v acc σ B hv h) fun σ1 B1 h3 => w_bnd (w_mono h3 fun c B2 ⟨h4, h5⟩ => ?_))
      cases c with
      | true =>
        refine w_bnd (w_mono (h4 rfl) fun y B3 h6 => w_bnd (w_mono (w_cturns P hit hs he k (i + 1) (acc ++ [y]) σ1 B3 hi (by omega) h6) fun ys B4 h7 => ?_))
        show QL (acc ++ (y :: ys)) B4
        rw [show acc ++ (y :: ys) = acc ++ [y] ++ ys by simp]; exact h7
      | false => exact w_cturns P hit hs he k (i + 1) acc σ1 B2 hi (by omega) (h5 rfl)
theorem w_comp {it : ID} {mk : PSt → PSt} {g : GD} {t : TD} {e : ED} (h : Wp (it σ) A (fun J A1 => ∃ (l : List PV) (n : Nat) (P : Nat → List PV → PSt → PHp → Prop), fuelOf J A1 = .ok n A1 ∧ l.length ≤ n ∧ P 0 [] (mk σ) A1 ∧ (∀ i acc σ B, P i acc σ B → item J i B = .ok l[i]? B) ∧
    (∀ i v acc σ B, l[i]? = some v → P i acc σ B → Wp (g v σ) B (fun σ1 B1 => Wp (t σ1) B1 (fun c B2 => (c = true → Wp (e σ1) B2 (fun y B3 => P (i + 1) (acc ++ [y]) σ1 B3) E) ∧ (c = false → P (i + 1) acc σ1 B2)) E) E) ∧
    ∀ acc σ B, P l.length acc σ B → acc.length ≤ LIM ∧ Q (.ref B.length) (B ++ [.lst acc])) E) : Wp (eComp it mk g t e σ) A Q E :=
  w_bnd (w_mono h fun J A1 ⟨l, n, P, hf, hn, h0, hit, hs, he⟩ => w_bnd (w_eq hf (w_bnd (w_mono (w_cturns P hit hs (QL := fun acc B => acc.length ≤ LIM ∧ Q (.ref B.length) (B ++ [.lst acc])) he (n + 1) 0 [] (mk σ) A1 (Nat.zero_le _) (by omega) h0) fun ys B h12 => by
    obtain ⟨h1, h2⟩ := h12
    rw [List.nil_append] at h1 h2
    exact w_guard h1 h2))))
theorem fuel_lst {n : Nat} {l : List PV} (h : A[n]? = some (.lst l)) : fuelOf (.lst n) A = .ok l.length A := by show bnd (lstAt n) _ A = _; rw [bnd_ok (lstAt_lst h)]; rfl
theorem item_lst {n : Nat} {l : List PV} (h : A[n]? = some (.lst l)) (i : Nat) : item (.lst n) i A = .ok l[i]? A := by show bnd (lstAt n) _ A = _; rw [bnd_ok (lstAt_lst h)]; rfl
theorem item_rng (n i : Nat) : item (.rng 0 n) i A = .ok ((List.range n).map fun (k : Nat) => PV.int (k : Int))[i]? A := by
  by_cases hi : i < n <;> simp [hi]
theorem atn {α : Type} {xs : List α} {j : Nat} (h : j < xs.length) : atI xs (j : Int) = some xs[j] := by
  unfold atI ixN
  rw [if_pos (by omega), if_pos (by omega)]
  simp [h]
theorem atm {xs : List Int} {j : Nat} (h : j < xs.length) : atI (xs.map PV.int) (j : Int) = some (.int xs[j]) := by
  rw [atn (by simpa using h)]; simp
theorem atl {xs : List Int} {i : Int} (h : 0 ≤ i ∧ i < xs.length) : atI (xs.map PV.int) i = some (.int (xs.getD i.toNat 0)) := by
  obtain ⟨j, rfl⟩ : ∃ j : Nat, i = j := ⟨i.toNat, by omega⟩
  have hj : j < xs.length := by omega
  rw [atm hj]; simp [hj]
end
section
variable {A : PHp} {Q : PV → PHp → Prop} {E : XP} {n : Nat} {x a b : Int} {M : List Int} {ps : List (Int × Int)}
theorem w_isA {QB : PV → PHp → Prop} {e : ED} {σ : PSt} {t : Ty} (h : Wp (e σ) A (fun x A1 => Wp (isTy t x) A1 (fun b A2 => QB (.bl b) A2) E) E) : Wp (eIsA e t σ) A QB E := w_bnd (w_mono h fun _ _ h1 => w_bnd h1)
theorem w_isTyV {QB : Bool → PHp → Prop} {t : Ty} {x : PV} {b : Bool} (h : isTy t x A = .ok b A) (q : QB b A) : Wp (isTy t x) A QB E := w_eq h q
theorem w_isTyL {QB : Bool → PHp → Prop} {l : List PV} (h : A[n]? = some (.lst l)) (q : QB true A) : Wp (isTy .list (.ref n)) A QB E := w_bnd (w_mut h q)
end
section
variable {A : PHp} {E : XP} {σ : PSt} {e e1 e2 : ED}
theorem brT {P R : Prop} (h : P) : (true = true → P) ∧ (true = false → R) := ⟨fun _ => h, fun z => nomatch z⟩
theorem brNT {P R : Prop} (h : R) : ((!true) = true → P) ∧ ((!true) = false → R) := ⟨fun z => (nomatch z), fun _ => h⟩
theorem brNF {P R : Prop} (h : P) : ((!false) = true → P) ∧ ((!false) = false → R) := ⟨fun _ => h, fun z => nomatch z⟩
theorem brF {P R : Prop} (h : R) : (false = true → P) ∧ (false = false → R) := ⟨fun z => (nomatch z), fun _ => h⟩
theorem exL {A : PHp} {n : Nat} {l : List PV} {R : Nat → List PV → Prop} (h : A[n]? = some (.lst l)) (q : R n l) : ∃ n' l', PV.ref n = .ref n' ∧ A[n']? = some (.lst l') ∧ R n' l' := ⟨n, l, rfl, h, q⟩
theorem exL1 {A : PHp} {n : Nat} {l : List PV} {R : List PV → Prop} (h : A[n]? = some (.lst l)) (q : R l) : ∃ l', A[n]? = some (.lst l') ∧ R l' := ⟨l, h, q⟩
theorem exLA {A : PHp} {n : Nat} {l : List PV} {R : Nat → Prop} {R' : Prop} (h : A[n]? = some (.lst l)) (q : R n) : (∃ n' l', PV.ref n = .ref n' ∧ lstAt n' A = .ok l' A ∧ R n') ∨ R' := .inl ⟨n, l, rfl, lstAt_lst h, q⟩
theorem exTA {l : List PV} {R : List PV → Prop} {R' : Prop} (q : R l) : R' ∨ ∃ l', PV.tup l = .tup l' ∧ R l' := .inr ⟨l, rfl, q⟩
theorem lstAt_ro {A : PHp} {n : Nat} {l : List PV} (h : A[n]? = some (.ro l)) : lstAt n A = .ok l A := by unfold lstAt; rw [h]
theorem exLC {A : PHp} {n : Nat} {l : List PV} {R : Nat → List PV → Prop} {R' : Prop} (h : A[n]? = some (.lst l)) (q : R n l) : (∃ n' l', PV.ref n = .ref n' ∧ lstAt n' A = .ok l' A ∧ R n' l') ∨ R' := .inl ⟨n, l, rfl, lstAt_lst h, q⟩
theorem exRC {A : PHp} {n : Nat} {l : List PV} {R : Nat → List PV → Prop} {R' : Prop} (h : A[n]? = some (.ro l)) (q : R n l) : (∃ n' l', PV.ref n = .ref n' ∧ lstAt n' A = .ok l' A ∧ R n' l') ∨ R' := .inl ⟨n, l, rfl, lstAt_ro h, q⟩
variable {QI : It → PHp → Prop}
theorem w_iseq (h : Wp (e σ) A (fun x A1 => (∃ n l, x = .ref n ∧ lstAt n A1 = .ok l A1 ∧ QI (.lst n) A1) ∨ ∃ l, x = .tup l ∧ QI (.tup l) A1) E) : Wp (iSeq e σ) A QI E := w_bnd (w_mono h fun x A1 h1 => by
  rcases h1 with ⟨n, l, rfl, h2, q⟩ | ⟨l, rfl, q⟩
  · exact w_bnd (w_eq h2 q)
  · exact q)
theorem w_irng1 (h : Wp (e σ) A (fun x A1 => ∃ n : Nat, x = .int n ∧ n ≤ 1000000 ∧ QI (.rng 0 n) A1) E) : Wp (iRng1 e σ) A QI E := w_bnd (w_mono h fun x A1 ⟨n, hx, hn, q⟩ => by
  subst hx
  have l1 : (n : Int) ≤ 1000000 := Int.ofNat_le.mpr hn
  refine w_guard ⟨Int.le_trans (by decide) (Int.natCast_nonneg n), Int.lt_of_le_of_lt l1 (by decide)⟩ (w_ret ?_)
  rw [Int.toNat_natCast]; exact q)
end
end Ws
local macro_rules | `(tactic| walk_at "st") => `(tactic| first
  | assumption
  | exact Ws.get_app
  | (refine Ws.get_app_of ?_; walk_at "st")
  | (refine Ws.pre_get (by assumption) ?_; walk_at "st"))
local macro_rules | `(tactic| walk_at "lim") => `(tactic| first
  | (refine Ws.lim_le ?_; (try simp only [List.length_map, List.length_append, List.length_cons, List.length_nil]); omega)
  | (refine Ws.lim_lt ?_; (try simp only [List.length_map, List.length_append, List.length_cons, List.length_nil]); omega))
local macro_rules | `(tactic| walk_at "s1") => `(tactic| first
  | with_reducible refine Ws.w_seq ?_
  | with_reducible refine Ws.w_asg ?_
  | with_reducible refine Ws.w_if ?_
  | with_reducible refine Ws.w_exp ?_
  | with_reducible refine Ws.w_retS ?_
  | with_reducible refine Ws.w_pass ?_
  | with_reducible refine Ws.w_tval ?_
  | with_reducible refine Ws.w_tand ?_
  | with_reducible refine Ws.w_tor ?_
  | with_reducible refine Ws.w_tnot ?_
  | with_reducible refine Ws.w_bin ?_
  | with_reducible refine Ws.w_chain ?_
  | with_reducible refine Ws.w_and ?_
  | with_reducible refine Ws.w_or ?_
  | with_reducible refine Ws.w_ifE ?_
  | with_reducible refine Ws.w_isN ?_
  | with_reducible refine Ws.w_cons ?_
  | with_reducible refine Ws.w_tup ?_
  | with_reducible refine Ws.w_lst ?_
  | with_reducible refine Ws.w_call ?_
  | with_reducible refine Ws.w_len ?_
  | with_reducible refine Ws.w_listOf ?_
  | with_reducible refine Ws.w_tupleOf ?_
  | with_reducible refine Ws.w_cut ?_
  | with_reducible refine Ws.w_lat ?_
  | with_reducible refine Ws.w_append ?_
  | with_reducible refine Ws.w_isA ?_
  | with_reducible refine Ws.w_all ?_
  | with_reducible refine Ws.w_iseq ?_
  | with_reducible refine Ws.w_irng1 ?_
  | with_reducible refine Ws.w_ienm ?_)
local macro_rules | `(tactic| walk_at "s2") => `(tactic| first
  | ((with_reducible apply Ws.w_var); (· rfl))
  | with_reducible refine Ws.w_k ?_
  | with_reducible refine Ws.w_true ?_
  | with_reducible refine Ws.w_nil ?_
  | with_reducible refine Ws.w_gname ?_
  | with_reducible refine Ws.w_gnil ?_
  | with_reducible refine Ws.w_gcons ?_
  | ((with_reducible apply Ws.w_gtup); (· rfl))
  | with_reducible refine Ws.w_add ?_
  | ((with_reducible apply Ws.w_mod); (· omega))
  | ((with_reducible apply Ws.w_fdiv); (· omega))
  | with_reducible refine Ws.w_lt ?_
  | with_reducible refine Ws.w_le ?_
  | with_reducible refine Ws.w_eqI ?_
  | with_reducible refine Ws.w_lno ?_
  | ((with_reducible apply Ws.w_isTyL); (· walk_at "st"))
  | ((with_reducible apply Ws.w_isTyV); (· rfl))
  | ((with_reducible apply Ws.w_seqL); (· walk_at "st"); (try dsimp only); (try rw [List.length_map]))
  | ((with_reducible apply Ws.w_ixL); (· walk_at "st"); (· walk_at "ix"))
  | ((with_reducible apply Ws.w_ixT); (· walk_at "ix")))
local macro_rules | `(tactic| walk_at "ix") => `(tactic| first
  | assumption
  | rfl
  | exact Ws.atl (by omega))
local macro_rules | `(tactic| walk_at "s3") => `(tactic| first
  | with_reducible refine Ws.brT ?_
  | with_reducible refine Ws.brF ?_
  | with_reducible refine Ws.brNT ?_
  | with_reducible refine Ws.brNF ?_
  | with_reducible refine ⟨_, rfl, ?_⟩
  | ((with_reducible apply Ws.exL); (· walk_at "st"))
  | ((with_reducible apply Ws.exL1); (· walk_at "st"))
  | ((with_reducible apply Ws.exLA); (· walk_at "st"))
  | ((with_reducible apply Ws.exLC); (· walk_at "st"))
  | ((with_reducible apply Ws.exRC); (· walk_at "st"))
  | with_reducible apply Ws.exTA
  | ((with_reducible refine And.intro ?h1 ?_); (case h1 => first | walk_at "lim" | omega)))
local macro_rules | `(tactic| walk_at "s") => `(tactic| (first | walk_at "s1" | walk_at "s2" | walk_at "s3"); (try dsimp only [List.set, Ws.TurnQ]))
local macro_rules | `(tactic| walk_at "fn") => `(tactic| (refine Ws.w_fn (by rfl) ?_; simp only [Ws.start, List.map_cons, List.map_nil, List.length_cons, List.length_nil, Nat.reduceAdd, Nat.reduceSub, List.replicate, List.cons_append, List.nil_append]))
local macro_rules | `(tactic| walk_at "go") => `(tactic| repeat walk_at "s")
namespace Ws
noncomputable def f_in_words_c1 : ED := eComp (iSeq (eVar 1)) (bst [none]) (gName 0) tTrue (eStr (eVar 0))
noncomputable def f_in_words : Fun := fn 2 2
 (sRet (eJoin (eK (.str " ")) (eBin oAdd (eLst (aCons (eVar 0) aNil)) f_in_words_c1)))
noncomputable def f_written_deed : Fun := fn 3 2
 (sSeq (sAsg (eIf (tVal (eBin oEq (eBin oIx (eVar 1) (eK (.int 0))) (eK (.str "say")))) (eBin oIx (eVar 1) (eK (.int 2))) (eTup aNil)) (gName 2))
 (sRet (eBin oAddS (eBin oAddS (eStr (eVar 0)) (eK (.str " "))) (eCall f_in_words (aCons (eBin oIx (eVar 1) (eK (.int 0))) (aCons (eBin oAdd (eBin oIx (eVar 1) (eK (.int 1))) (eVar 2)) aNil))))))
noncomputable def f_written_deeds_c1 : ED := eComp (iSeq (eVar 0)) (bst [none, none]) (gTup 2 (gCons (gName 0) (gCons (gName 1) gNil))) tTrue (eCall f_written_deed (aCons (eVar 0) (aCons (eVar 1) aNil)))
noncomputable def f_written_deeds : Fun := fn 1 1
 (sRet (eJoin (eK (.str "\n")) f_written_deeds_c1))
noncomputable def f_is_number_c1 : ED := eComp (iStr (eVar 0)) (bst [none]) (gName 0) tTrue (eBin oInS (eVar 0) (eK (.str "0123456789")))
noncomputable def f_is_number : Fun := fn 1 1
 (sSeq (sIf (tOr (tNot (tVal (eChain oLe oLe (eK (.int 1)) (eLenS (eVar 0)) (eK (.int 9))))) (tNot (tVal (eAll f_is_number_c1))))
 (sRet (eK (.bl false)))
 sPass)
 (sRet (eOr (eBin oEq (eVar 0) (eK (.str "0"))) (eBin oNe (eBin oIxS (eVar 0) (eK (.int 0))) (eK (.str "0"))))))
noncomputable def f_read_numbers_c1 : ED := eComp (iSeq (eVar 0)) (bst [none]) (gName 0) tTrue (eCall f_is_number (aCons (eVar 0) aNil))
noncomputable def f_read_numbers_c2 : ED := eComp (iSeq (eVar 0)) (bst [none]) (gName 0) tTrue (eIntT (eVar 0))
noncomputable def f_read_numbers : Fun := fn 1 1
 (sSeq (sIf (tNot (tVal (eAll f_read_numbers_c1)))
 (sRet (eK .non))
 sPass)
 (sRet f_read_numbers_c2))
noncomputable def f_read_deed : Fun := fn 5 1
 (sSeq (sAsg (eSplit (eVar 0) (eK (.str " "))) (gName 1))
 (sSeq (sAsg (eCall f_read_numbers (aCons (eBin oAdd (eCut (eVar 1) lNo (lAt (eK (.int 1)))) (eCut (eVar 1) (lAt (eK (.int 2))) lNo)) aNil)) (gName 2))
 (sSeq (sIf (tOr (tVal (eIsN (eVar 2))) (tVal (eBin oLt (eLen (eVar 2)) (eK (.int 3)))))
 (sRet (eK .non))
 sPass)
 (sSeq (sAsg (eTup (aCons (eBin oIx (eVar 2) (eK (.int 1))) (aCons (eBin oIx (eVar 2) (eK (.int 2))) aNil))) (gName 3))
 (sSeq (sAsg (eTupleOf (eCut (eVar 2) (lAt (eK (.int 3))) lNo)) (gName 4))
 (sSeq (sIf (tAnd (tVal (eBin oEq (eBin oIx (eVar 1) (eK (.int 1))) (eK (.str "lay")))) (tVal (eBin oEq (eVar 4) (eTup aNil))))
 (sRet (eTup (aCons (eBin oIx (eVar 2) (eK (.int 0))) (aCons (eTup (aCons (eK (.str "lay")) (aCons (eVar 3) aNil))) aNil))))
 sPass)
 (sSeq (sIf (tAnd (tVal (eBin oEq (eBin oIx (eVar 1) (eK (.int 1))) (eK (.str "say")))) (tVal (eBin oNe (eVar 4) (eTup aNil))))
 (sRet (eTup (aCons (eBin oIx (eVar 2) (eK (.int 0))) (aCons (eTup (aCons (eK (.str "say")) (aCons (eVar 3) (aCons (eVar 4) aNil)))) aNil))))
 sPass)
 (sRet (eK .non)))))))))
noncomputable def f_read_deeds_b1 : SD :=
 (sSeq (sAsg (eCall f_read_deed (aCons (eVar 4) aNil)) (gName 5))
 (sSeq (sIf (tOr (tVal (eIsN (eVar 5))) (tVal (eBin oLt (eBin oIx (eVar 5) (eK (.int 0))) (eVar 2))))
 sNever
 sPass)
 (sSeq (sAsg (eBin oIx (eVar 5) (eK (.int 0))) (gName 2))
 (sExpr (eAppend (eVar 1) (eVar 5))))))
noncomputable def f_read_deeds_l1 : SD := sFor (iEnk 1 (eSplit (eVar 0) (eK (.str "\n")))) (gTup 2 (gCons (gName 3) (gCons (gName 4) gNil))) f_read_deeds_b1
noncomputable def f_read_deeds : Fun := fn 6 1
 (sSeq (sIf (tVal (eBin oEq (eVar 0) (eK (.str ""))))
 (sRet (eLst aNil))
 sPass)
 (sSeq (sAsg (eLst aNil) (gName 1))
 (sSeq (sAsg (eK (.int 1)) (gName 2))
 (sSeq f_read_deeds_l1
 (sRet (eVar 1))))))
noncomputable def f_law_stream_b1 : SD :=
 (sSeq (sExpr (eAppend (eVar 2) (eBin oMod (eVar 3) (eK (.int 5040)))))
 (sAsg (eBin oFdiv (eVar 3) (eK (.int 5040))) (gName 3)))
noncomputable def f_law_stream_l1 : SD := sFor (iRng1 (eVar 1)) (gName 4) f_law_stream_b1
noncomputable def f_law_stream_b2 : SD :=
 (sSeq (sAsg (eBin oMod (eBin oAdd (eBin oAdd (eBin oMul (eVar 5) (eBin oAdd (eBin oFdiv (eVar 5) (eK (.int 1009))) (eK (.int 69621)))) (eVar 4)) (eK (.int 1))) (eK (.int 2147483647))) (gName 5))
 (sExpr (eAppend (eVar 2) (eVar 5))))
noncomputable def f_law_stream_l2 : SD := sFor (iRng1 (eVar 1)) (gName 4) f_law_stream_b2
noncomputable def f_law_stream : Fun := fn 6 2
 (sSeq (sAsg (eLst aNil) (gName 2))
 (sSeq (sIf (tVal (eBin oEq (eBin oMod (eVar 0) (eK (.int 2))) (eK (.int 1))))
 (sSeq (sAsg (eBin oFdiv (eVar 0) (eK (.int 2))) (gName 3))
 (sSeq f_law_stream_l1
 (sRet (eVar 2))))
 sPass)
 (sSeq (sAsg (eBin oMod (eBin oAdd (eBin oMul (eVar 0) (eK (.int 48271))) (eK (.int 7919))) (eK (.int 2147483647))) (gName 5))
 (sSeq f_law_stream_l2
 (sRet (eVar 2))))))
noncomputable def f_law_rows_c1 : ED := eComp (iRng1 (eBin oAdd (eK (.int 1)) (eBin oMod (eBin oFdiv (eBin oIx (eVar 4) (eK (.int 4))) (eK (.int 3))) (eK (.int 6))))) (bst [none, some 4]) (gName 0) tTrue (eBin oMod (eBin oIx (eVar 1) (eBin oAdd (eK (.int 5)) (eVar 0))) (eK (.int 6)))
noncomputable def f_law_rows_b1 : SD :=
 (sSeq (sAsg (eCall f_law_stream (aCons (eVar 3) (aCons (eK (.int 11)) aNil))) (gName 4))
 (sSeq (sAsg (eBin oAdd (eVar 2) (eBin oMod (eBin oIx (eVar 4) (eK (.int 0))) (eK (.int 4)))) (gName 2))
 (sSeq (sAsg (eTup (aCons (eBin oMod (eBin oIx (eVar 4) (eK (.int 1))) (eK (.int 6))) (aCons (eBin oMod (eBin oIx (eVar 4) (eK (.int 2))) (eK (.int 6))) aNil))) (gName 5))
 (sSeq (sIf (tVal (eBin oEq (eBin oMod (eBin oIx (eVar 4) (eK (.int 3))) (eK (.int 9))) (eK (.int 0))))
 (sAsg (eTup (aCons (eBin oMod (eVar 3) (eBin oPow (eK (.int 10)) (eK (.int 9)))) (aCons (eBin oMod (eBin oIx (eVar 4) (eK (.int 2))) (eK (.int 6))) aNil))) (gName 5))
 sPass)
 (sIf (tVal (eBin oEq (eBin oMod (eBin oIx (eVar 4) (eK (.int 4))) (eK (.int 3))) (eK (.int 0))))
 (sExpr (eAppend (eVar 1) (eTup (aCons (eVar 2) (aCons (eTup (aCons (eK (.str "lay")) (aCons (eVar 5) aNil))) aNil)))))
 (sSeq (sAsg (eTupleOf f_law_rows_c1) (gName 6))
 (sExpr (eAppend (eVar 1) (eTup (aCons (eVar 2) (aCons (eTup (aCons (eK (.str "say")) (aCons (eVar 5) (aCons (eVar 6) aNil)))) aNil)))))))))))
noncomputable def f_law_rows_l1 : SD := sFor (iSeq (eCut (eVar 0) (lAt (eK (.int 1))) (lAt (eK (.int 51))))) (gName 3) f_law_rows_b1
noncomputable def f_law_rows : Fun := fn 7 1
 (sSeq (sAsg (eLst aNil) (gName 1))
 (sSeq (sAsg (eK (.int 1)) (gName 2))
 (sSeq f_law_rows_l1
 (sRet (eVar 1)))))
noncomputable def f_law_text_c1 : ED := eComp (iSeq (eBin oIx (eVar 3) (eK (.int 2)))) (bst [none]) (gName 0) tTrue (eStr (eVar 0))
noncomputable def f_law_text_b1 : SD :=
 (sSeq (sAsg (eLst (aCons (eStr (eVar 2)) (aCons (eBin oIx (eVar 3) (eK (.int 0))) (aCons (eStr (eBin oIx (eBin oIx (eVar 3) (eK (.int 1))) (eK (.int 0)))) (aCons (eStr (eBin oIx (eBin oIx (eVar 3) (eK (.int 1))) (eK (.int 1)))) aNil))))) (gName 4))
 (sSeq (sIf (tVal (eBin oEq (eBin oIx (eVar 3) (eK (.int 0))) (eK (.str "say"))))
 (sAsg (eBin oAdd (eVar 4) f_law_text_c1) (gName 4))
 sPass)
 (sExpr (eAppend (eVar 1) (eJoin (eK (.str " ")) (eVar 4))))))
noncomputable def f_law_text_l1 : SD := sFor (iSeq (eVar 0)) (gTup 2 (gCons (gName 2) (gCons (gName 3) gNil))) f_law_text_b1
noncomputable def f_law_text : Fun := fn 5 1
 (sSeq (sAsg (eLst aNil) (gName 1))
 (sSeq f_law_text_l1
 (sRet (eJoin (eK (.str "\n")) (eVar 1)))))
noncomputable def f_law_kinds_b1 : SD :=
 (sSeq (sIf (tOr (tNot (tVal (eIsA (eVar 1) .tuple))) (tOr (tNot (tVal (eIsA (eBin oIx (eVar 1) (eK (.int 1))) .tuple))) (tNot (tVal (eIsA (eBin oIx (eBin oIx (eVar 1) (eK (.int 1))) (eK (.int 1))) .tuple)))))
 (sRet (eK (.bl false)))
 sPass)
 (sIf (tAnd (tVal (eBin oEq (eBin oIx (eBin oIx (eVar 1) (eK (.int 1))) (eK (.int 0))) (eK (.str "say")))) (tNot (tVal (eIsA (eBin oIx (eBin oIx (eVar 1) (eK (.int 1))) (eK (.int 2))) .tuple))))
 (sRet (eK (.bl false)))
 sPass))
noncomputable def f_law_kinds_l1 : SD := sFor (iSeq (eVar 0)) (gName 1) f_law_kinds_b1
noncomputable def f_law_kinds : Fun := fn 2 1
 (sSeq f_law_kinds_l1
 (sRet (eK (.bl true))))
noncomputable def f_law : Fun := fn 5 1
 (sSeq (sAsg (eCall f_law_rows (aCons (eVar 0) aNil)) (gName 1))
 (sSeq (sAsg (eListOf (eVar 1)) (gName 2))
 (sSeq (sAsg (eCall f_written_deeds (aCons (eVar 2) aNil)) (gName 3))
 (sSeq (sIf (tOr (tNot (tVal (eIsStr (eVar 3)))) (tOr (tVal (eBin oNe (eVar 3) (eCall f_law_text (aCons (eVar 1) aNil)))) (tVal (eBin oNe (eVar 2) (eVar 1)))))
 (sRet (eK (.bl false)))
 sPass)
 (sSeq (sAsg (eCall f_read_deeds (aCons (eVar 3) aNil)) (gName 4))
 (sSeq (sIf (tOr (tNot (tVal (eIsA (eVar 4) .list))) (tOr (tVal (eBin oNe (eVar 4) (eVar 1))) (tNot (tVal (eCall f_law_kinds (aCons (eVar 4) aNil))))))
 (sRet (eK (.bl false)))
 sPass)
 (sSeq (sExpr (eClear (eVar 4)))
 (sRet (eAnd (eBin oEq (eCall f_read_deeds (aCons (eVar 3) aNil)) (eVar 1)) (eAnd (eBin oEq (eCall f_read_deeds (aCons (eK (.str "")) aNil)) (eLst aNil)) (eBin oEq (eCall f_written_deeds (aCons (eLst aNil) aNil)) (eK (.str "")))))))))))))
end Ws
namespace Ws
open PySem PySem.StrLaws PySem.Builtin PySem.Builtin.Str
noncomputable def one (c : Nat) : Str := ⟨#[c]⟩
theorem occ_loop (x : Str) (c limit : Nat) : ∀ (l : List Nat) (st : Array Nat × Nat), (∀ i ∈ l, st.2 ≤ i) → l.Pairwise (· < ·) → st.1.size + l.length ≤ limit →
    (forIn l st (occBody x (one c) x.length limit)).run.fst.toList = st.1.toList ++ l.filter (fun i => x.cps.toList[i]? == some c)
  | [], st, _, _, _ => by simp
  | a :: l, st, hf, hp, hl => by
    rw [List.forIn_cons]
    unfold occBody
    have hp2 := List.pairwise_cons.mp hp
    have key := subAt_one x c a
    by_cases h : x.cps.toList[a]? = some c
    · have k := key.mpr h
      rw [if_pos ⟨⟨⟨by simp only [List.length_cons] at hl; omega, hf a (List.mem_cons_self ..)⟩, k.1⟩, k.2⟩]
      have ih := occ_loop x c limit l (st.1.push a, a + (one c).length) (fun i hi => by have := hp2.1 i hi; show a + 1 ≤ i; omega) hp2.2 (by simp only [List.length_cons] at hl; simp; omega)
      refine ih.trans ?_
      have : (x.cps.toList[a]? == some c) = true := by rw [h]; simp
      rw [List.filter_cons, this]; simp
    · rw [if_neg fun k => h (key.mp ⟨k.1.2, k.2⟩)]
      have ih := occ_loop x c limit l (st.1, st.2) (fun i hi => hf i (List.mem_cons_of_mem _ hi)) hp2.2 (by simp only [List.length_cons] at hl; show st.1.size + l.length ≤ limit; omega)
      refine ih.trans ?_
      have : (x.cps.toList[a]? == some c) = false := by simpa using h
      rw [List.filter_cons, this]; simp
theorem occ_one (x : Str) (c : Nat) : occurrences x (one c) 0 x.length (x.length + 1) = (List.range' 0 x.length).filter fun i => x.cps.toList[i]? == some c := by
  rw [occ_eq, occ_loop x c (x.length + 1) _ _ (fun i _ => Nat.zero_le i) List.pairwise_lt_range' (by simp)]
  show [] ++ _ = _
  rw [List.nil_append, Nat.sub_zero, List.range'_concat, List.filter_append]
  have : (x.cps.toList[0 + 1 * x.length]? == some c) = false := by rw [List.getElem?_eq_none (by simp [Str.length])]; rfl
  rw [List.filter_cons, this]; simp
noncomputable def joinL (c : Nat) : List (List Nat) → List Nat
  | [] => []
  | [w] => w
  | w :: v :: r => w ++ c :: joinL c (v :: r)
theorem filt_no {c : Nat} {L : List Nat} {a : Nat} : ∀ {n : Nat}, (∀ i, a ≤ i → i < a + n → L[i]? ≠ some c) → (List.range' a n).filter (fun i => L[i]? == some c) = [] := fun h => by
  rw [List.filter_eq_nil_iff]
  intro i hi
  have := List.mem_range'_1.mp hi
  simpa using h i this.1 this.2
theorem parts_words (x : Str) (c : Nat) : ∀ (ws : List (List Nat)), ws ≠ [] → (∀ w ∈ ws, c ∉ w) → ∀ (P : List Nat), x.cps.toList = P ++ joinL c ws →
    (partsFrom x 1 P.length ((List.range' P.length (x.length - P.length)).filter fun i => x.cps.toList[i]? == some c)).map (fun y => y.cps.toList) = ws
  | [], h, _, _, _ => absurd rfl h
  | [w], _, hw, P, hx => by
    have hn : x.length = P.length + w.length := by
      have := congrArg List.length hx
      simpa [joinL, Str.length] using this
    rw [filt_no (c := c) fun i h1 h2 h3 => ?_]
    · simp only [partsFrom, List.map_cons, List.map_nil, strSub_toList, hx, hn]
      simp [joinL]
    · rw [hx, List.getElem?_append_right h1] at h3
      exact hw w (List.mem_cons_self ..) (List.mem_of_getElem? h3)
  | w :: v :: r, _, hw, P, hx => by
    have hx' : x.cps.toList = (P ++ w ++ [c]) ++ joinL c (v :: r) := by rw [hx]; simp [joinL]
    have hn : x.length = P.length + w.length + 1 + (joinL c (v :: r)).length := by
      have := congrArg List.length hx'
      simp only [Str.length, List.length_append, List.length_cons, List.length_nil, Array.length_toList] at this ⊢; omega
    have ih := parts_words x c (v :: r) (by simp) (fun u hu => hw u (List.mem_cons_of_mem _ hu)) (P ++ w ++ [c]) hx'
    have hl : (P ++ w ++ [c]).length = P.length + w.length + 1 := by simp; omega
    rw [hl] at ih
    have hs : x.length - P.length = w.length + (1 + (x.length - (P.length + w.length + 1))) := by omega
    rw [hs, ← List.range'_append_1, ← List.range'_append_1, List.filter_append, List.filter_append, filt_no (c := c) (n := w.length) fun i h1 h2 h3 => ?_]
    · have hc : x.cps.toList[P.length + w.length]? = some c := by
        rw [hx', List.getElem?_append_left (by simp), List.getElem?_append_right (by simp)]; simp
      have e1 : (List.range' (P.length + w.length) 1).filter (fun i => x.cps.toList[i]? == some c) = [P.length + w.length] := by
        have : (x.cps.toList[P.length + w.length]? == some c) = true := by rw [hc]; simp
        show List.filter _ [P.length + w.length] = _
        rw [List.filter_cons, this]; rfl
      rw [e1]
      simp only [List.nil_append, List.singleton_append, partsFrom, List.map_cons, ih, strSub_toList]
      congr 1
      rw [hx]
      simp [joinL]
    · rw [hx', List.append_assoc, List.append_assoc, List.getElem?_append_right h1, List.getElem?_append_left (by omega)] at h3
      exact hw w (List.mem_cons_self ..) (List.mem_of_getElem? h3)
theorem cps_inj {a b : Str} (h : a.cps.toList = b.cps.toList) : a = b := Str.ext' (Array.toList_inj.mp h)
theorem joinS_list (c : Nat) : ∀ ws : List Str, (Str.join (one c) ws).cps.toList = joinL c (ws.map fun w => w.cps.toList)
  | [] => rfl
  | [w] => rfl
  | w :: v :: r => by
    show (w ++ one c ++ Str.join (one c) (v :: r)).cps.toList = _
    rw [Str.cps_append, Str.cps_append, Array.toList_append, Array.toList_append, joinS_list c (v :: r)]
    simp [joinL, one]
theorem split_join (c : Nat) (hc : c < 256) (ws : List Str) (h0 : ws ≠ []) (hw : ∀ w ∈ ws, c ∉ w.cps.toList) :
    Txt.split (Txt.join (one c) ws) (one c) = ws ∧ partsBetween (Txt.join (one c) ws) (occurrences (Txt.join (one c) ws) (one c) 0 (Txt.join (one c) ws).length ((Txt.join (one c) ws).length + 1)) (one c).length = ws := by
  have hj : Txt.join (one c) ws = Str.join (one c) ws := glued_eq_join _ _
  generalize Txt.join (one c) ws = x at hj ⊢
  have hx : x.cps.toList = [] ++ joinL c (ws.map fun w => w.cps.toList) := by rw [hj, joinS_list]; rfl
  have key := parts_words x c (ws.map fun w => w.cps.toList) (by simpa using h0) (fun w hm => by
    obtain ⟨v, hv, rfl⟩ := List.mem_map.mp hm
    exact hw v hv) [] hx
  have e : partsBetween x (occurrences x (one c) 0 x.length (x.length + 1)) (one c).length = ws := by
    rw [partsBetween_eq, occ_one]
    have inj : ∀ {l m : List Str}, l.map (fun y => y.cps.toList) = m.map (fun y => y.cps.toList) → l = m := fun {l} => by
      induction l with
      | nil => intro m h; cases m with | nil => rfl | cons _ _ => cases h
      | cons a l ih =>
        intro m h
        cases m with
        | nil => cases h
        | cons b m =>
          have h := List.cons.inj h
          rw [cps_inj h.1, ih h.2]
    exact inj key
  have e1 : occurrences x (one c) 0 x.length (x.length + 1) = [] → [x] = ws := fun e0 => by
    rw [e0, partsBetween_eq] at e
    have : strSub x 0 x.length = x := sub_whole x
    simpa [partsFrom, this] using e
  refine ⟨?_, e⟩
  unfold Txt.split
  split
  · rename_i hb
    refine e1 ?_
    have k1 : Str.strKind (one c) = 1 := by simp [Str.strKind, one, hc]
    have k2 : 1 ≤ Str.strKind x := by unfold Str.strKind; split <;> (try split) <;> decide
    have hz : x.length = 0 := by
      have : x.length < (one c).length ∨ Str.strKind x < Str.strKind (one c) := by simpa using hb
      rcases this with h | h
      · have : (one c).length = 1 := rfl
        omega
      · omega
    rw [occ_one, hz]; rfl
  · split
    · rename_i hemp
      exact e1 (by simpa using hemp)
    · exact e
end Ws
namespace Ws
open PySem
noncomputable def num (n : Nat) : Str := Str.ofString (toString ((n : Nat) : Int))
theorem num_cps (n : Nat) : (num n).cps.toList = (Nat.toDigits 10 n).map Char.toNat := PySem.W.KIN.signs_num n
theorem num_dig {n c : Nat} (h : c ∈ (num n).cps.toList) : 48 ≤ c ∧ c ≤ 57 := by
  rw [num_cps] at h
  obtain ⟨ch, hch, e⟩ := List.mem_map.mp h
  have r := PyProof.Rows.digit_range (Nat.isDigit_of_mem_toDigits (by decide) (by decide) hch)
  rw [← e]; exact r
theorem num_len {n : Nat} (h : n < 1000000000) : 1 ≤ (num n).length ∧ (num n).length ≤ 9 := by
  have e : (num n).length = (Nat.toDigits 10 n).length := by
    rw [← List.length_map (f := Char.toNat), ← num_cps]; simp [Str.length]
  rw [e]
  exact ⟨PySem.toDigits_len_ge 10 n, PySem.toDigits_len_pow (by decide) (by decide) (Nat.lt_of_lt_of_le h (by decide))⟩
theorem num_lead (n : Nat) (h0 : n ≠ 0) : ∃ c cs, (num n).cps.toList = c :: cs ∧ c ≠ 48 := by
  induction n using Nat.strongRecOn with
  | _ m ih =>
    by_cases h : m < 10
    · refine ⟨(Nat.digitChar m).toNat, [], by rw [num_cps, Nat.toDigits_of_lt_base h]; rfl, ?_⟩
      have : ∀ d : Nat, d < 10 → d ≠ 0 → (Nat.digitChar d).toNat ≠ 48 := by decide
      exact this m h h0
    · have hm : m % 10 < 10 := Nat.mod_lt m (by decide)
      have t : Nat.toDigits 10 (m / 10) ++ Nat.toDigits 10 (m % 10) = Nat.toDigits 10 (10 * (m / 10) + m % 10) := Nat.toDigits_append_toDigits (by decide) (by omega) hm
      rw [Nat.div_add_mod] at t
      obtain ⟨c, cs, e, hc⟩ := ih (m / 10) (by omega) (by omega)
      rw [num_cps] at e
      refine ⟨c, cs ++ (Nat.toDigits 10 (m % 10)).map Char.toNat, ?_, hc⟩
      rw [num_cps, ← t, List.map_append, e]; rfl
theorem num_zero : num 0 = "0" := by decide +kernel
theorem num_int {n : Nat} (h : n < 1000000000) : intText? (num n) = some (n : Int) := PySem.W.KIN.num_reads (by omega) (by omega)
end Ws
namespace Ws
open PySem PySem.StrLaws
section
variable {A : PHp} {Q : PV → PHp → Prop} {QI : It → PHp → Prop} {E : XP} {σ : PSt} {e e1 e2 : ED}
theorem w_strE (h : Wp (e σ) A (fun x A1 => ∃ n : Nat, x = .int n ∧ n < 1000000000 ∧ Q (.str (num n)) A1) E) : Wp (eStr e σ) A Q E :=
  w_bnd (w_mono h fun x A1 ⟨n, hx, hn, q⟩ => by
    subst hx
    exact w_guard (by show ((n : Int)).natAbs < _; omega) q)
theorem w_intT (h : Wp (e σ) A (fun x A1 => ∃ n : Nat, x = .str (num n) ∧ n < 1000000000 ∧ Q (.int n) A1) E) : Wp (eIntT e σ) A Q E :=
  w_bnd (w_mono h fun x A1 ⟨n, hx, hn, q⟩ => by
    subst hx
    show Wp (match intText? (num n) with | some k => guard ((num n).length ≤ 640) (ret (.int k)) | none => stuck) A1 Q E
    rw [num_int hn]
    exact w_guard (Nat.le_trans (num_len hn).2 (by decide)) q)
theorem strsOf_map : ∀ ys : List Str, strsOf (ys.map .str) = some ys
  | [] => rfl
  | y :: ys => by show (strsOf (ys.map .str)).map _ = _; rw [strsOf_map ys]; rfl
theorem w_join (h : Wp (e1 σ) A (fun x A1 => ∃ z, x = .str z ∧ Wp (e2 σ) A1 (fun y A2 => ∃ n ys, y = .ref n ∧ A2[n]? = some (.lst (ys.map .str)) ∧ (z.length ≤ 16 ∧ (ys.map (·.length)).sum + ys.length ≤ 1048576) ∧ Q (.str (Txt.join z ys)) A2) E) E) : Wp (eJoin e1 e2 σ) A Q E :=
  w_bnd (w_mono h fun x A1 ⟨z, hx, h1⟩ => by
    subst hx
    exact w_bnd (w_mono h1 fun y A2 ⟨n, ys, hy, hn, hl, q⟩ => by
      subst hy
      refine w_bnd (w_lstAt hn ?_)
      rw [strsOf_map]
      exact w_guard hl q))
theorem w_split (h : Wp (e1 σ) A (fun x A1 => ∃ z, x = .str z ∧ Wp (e2 σ) A1 (fun y A2 => ∃ c ws, y = .str (one c) ∧ z = Txt.join (one c) ws ∧ (c < 256 ∧ ws ≠ [] ∧ (∀ w ∈ ws, c ∉ w.cps.toList) ∧ z.length ≤ LIM ∧ ws.length ≤ LIM) ∧ Q (.ref A2.length) (A2 ++ [.lst (ws.map .str)])) E) E) : Wp (eSplit e1 e2 σ) A Q E :=
  w_bnd (w_mono h fun x A1 ⟨z, hx, h1⟩ => by
    subst hx
    exact w_bnd (w_mono h1 fun y A2 ⟨c, ws, hy, hz, ⟨hc, h0, hw, hl, hl2⟩, q⟩ => by
      subst hy
      obtain ⟨s1, s2⟩ := split_join c hc ws h0 hw
      rw [← hz] at s1 s2
      refine w_guard ⟨rfl, hl, by rw [s1]; exact hl2, by rw [s2]; exact hl2⟩ ?_
      rw [s1]
      exact q))
theorem w_addS {x y : Str} (h : x.length + y.length ≤ LIM) (q : Q (.str (x ++ y)) A) : Wp (oAddS (.str x) (.str y)) A Q E := w_guard h q
theorem w_inS {c : Nat} {y : Str} (q : Q (.bl (decide (c ∈ y.cps.toList))) A) : Wp (oInS (.str ⟨#[c]⟩) (.str y)) A Q E := by
  show Q (.bl (!(Builtin.Str.occurrences y ⟨#[c]⟩ 0 y.length 1).isEmpty)) A
  rw [found_one]; exact q
theorem w_lenS (h : Wp (e σ) A (fun x A1 => ∃ z, x = .str z ∧ z.length ≤ LIM ∧ Q (.int z.length) A1) E) : Wp (eLenS e σ) A Q E :=
  w_bnd (w_mono h fun x A1 ⟨z, hx, hl, q⟩ => by subst hx; exact w_guard hl q)
theorem w_ixS {z : Str} {i : Int} {c : Nat} (hi : atI z.cps.toList i = some c) (hl : z.length ≤ LIM) (q : Q (.str ⟨#[c]⟩) A) : Wp (oIxS (.str z) (.int i)) A Q E := by
  show Wp (match atI z.cps.toList i with | some c => guard (z.length ≤ LIM) (ret (.str ⟨#[c]⟩)) | none => stuck) A Q E
  rw [hi]; exact w_guard hl q
theorem w_istr (h : Wp (e σ) A (fun x A1 => ∃ z, x = .str z ∧ z.cps.all (· < 128) = true ∧ QI (.fix (z.cps.toList.map fun c => .str ⟨#[c]⟩)) A1) E) : Wp (iStr e σ) A QI E :=
  w_bnd (w_mono h fun x A1 ⟨z, hx, hl, q⟩ => by subst hx; exact w_guard hl q)
theorem w_ienk {k : Nat} (h : Wp (e σ) A (fun x A1 => ∃ n l, x = .ref n ∧ lstAt n A1 = .ok l A1 ∧ QI (.enk k n) A1) E) : Wp (iEnk k e σ) A QI E := w_bnd (w_mono h fun x A1 ⟨n, l, hx, h2, q⟩ => by
  subst hx
  exact w_bnd (w_eq h2 q))
theorem eqv_str (x y : Str) : eqv (.str x) (.str y) = decide (x = y) := by simp [eqv]
theorem w_eqS {x y : Str} (q : Q (.bl (decide (x = y))) A) : Wp (oEq (.str x) (.str y)) A Q E := w_eqP rfl rfl (by rw [eqv_str]; exact q)
theorem w_neS {x y : Str} (q : Q (.bl (!decide (x = y))) A) : Wp (oNe (.str x) (.str y)) A Q E := w_neP rfl rfl (by rw [eqv_str]; exact q)
end
end Ws
local macro_rules | `(tactic| walk_at "s1") => `(tactic| first
  | with_reducible refine Ws.w_strE ?_
  | with_reducible refine Ws.w_intT ?_
  | with_reducible refine Ws.w_join ?_
  | with_reducible refine Ws.w_split ?_
  | with_reducible refine Ws.w_lenS ?_
  | with_reducible refine Ws.w_istr ?_
  | with_reducible refine Ws.w_ienk ?_)
local macro_rules | `(tactic| walk_at "s2") => `(tactic| first
  | with_reducible refine Ws.w_inS ?_
  | with_reducible refine Ws.w_eqS ?_
  | with_reducible refine Ws.w_neS ?_)
namespace Ws
open PySem
theorem w_compX {α : Type} {A : PHp} {Q : PV → PHp → Prop} {E : XP} {σ : PSt} {it : ID} {mk : PSt → PSt} {g : GD} {e : ED} (xs : List α) (vi vo : α → PV) (S : PSt → Prop)
    (h : Wp (it σ) A (fun J A1 => fuelOf J A1 = .ok xs.length A1 ∧ xs.length ≤ LIM ∧ S (mk σ) ∧ (∀ i B, A1 <+: B → item J i B = .ok (xs.map vi)[i]? B) ∧
      (∀ x σ B, x ∈ xs → S σ → A1 <+: B → Wp (g (vi x) σ) B (fun σ1 B1 => B1 = B ∧ S σ1 ∧ Wp (e σ1) B (fun y B3 => y = vo x ∧ B <+: B3) E) E) ∧
      ∀ B, A1 <+: B → Q (.ref B.length) (B ++ [.lst (xs.map vo)])) E) : Wp (eComp it mk g tTrue e σ) A Q E :=
  w_comp (w_mono h fun J A1 ⟨hf, hL, h0, hit, hs, he⟩ => ⟨xs.map vi, xs.length, fun i acc σ B => A1 <+: B ∧ S σ ∧ acc = (xs.take i).map vo, hf, by simp, ⟨List.prefix_refl _, h0, by simp⟩, fun i acc σ B ⟨h1, _⟩ => hit i B h1, fun i v acc σ B hv ⟨h1, h2, h3⟩ => by
    rw [List.getElem?_map] at hv
    obtain ⟨x, hx, rfl⟩ := Option.map_eq_some_iff.mp hv
    refine w_mono (hs x σ B (List.mem_of_getElem? hx) h2 h1) fun σ1 B1 ⟨e1, h4, h5⟩ => ?_
    subst e1
    refine w_true ⟨fun _ => w_mono h5 fun y B3 ⟨h8, h7⟩ => ⟨h1.trans h7, h4, ?_⟩, fun hc => by cases hc⟩
    rw [h3, h8, List.take_succ, hx]; simp, fun acc σ B ⟨h1, _, h3⟩ => by
    rw [List.length_map, List.take_of_length_le (Nat.le_refl _)] at h3
    subst h3
    exact ⟨by rw [List.length_map]; exact hL, he B h1⟩⟩)
theorem itemP {n : Nat} {l : List PV} {A B : PHp} (h : A[n]? = some (.lst l)) (p : A <+: B) (i : Nat) : item (.lst n) i B = .ok l[i]? B := item_lst (pre_get p h) i
theorem sp_eq : (" " : Str) = one 32 := by decide +kernel
theorem nl_eq : ("\n" : Str) = one 10 := by decide +kernel
theorem fig {c : Nat} (h : 48 ≤ c ∧ c ≤ 57) : c ∈ ("0123456789" : Str).cps.toList := by
  have : ∀ c : Nat, c ≤ 57 → 48 ≤ c → c ∈ ("0123456789" : Str).cps.toList := by decide +kernel
  exact this c h.2 h.1
theorem brD {p P R : Prop} [Decidable p] (hp : p) (h : P) : (decide p = true → P) ∧ (decide p = false → R) := ⟨fun _ => h, fun z => absurd hp (of_decide_eq_false z)⟩
theorem brN {p P R : Prop} [Decidable p] (hp : ¬ p) (h : R) : (decide p = true → P) ∧ (decide p = false → R) := ⟨fun z => absurd (of_decide_eq_true z) hp, fun _ => h⟩
theorem brD' {p P R : Prop} [Decidable p] (hp : p) (h : R) : ((!decide p) = true → P) ∧ ((!decide p) = false → R) := ⟨fun z => absurd (decide_eq_true hp) (by simpa using z), fun _ => h⟩
theorem all_t {α : Type} (xs : List α) : (xs.map fun _ => true).all id = true := by simp
theorem is_number_num {n : Nat} (h : n < 1000000000) (A : PHp) : Wp (f_is_number [.str (num n)]) A (fun v A' => v = .bl true ∧ A <+: A') NoX := by
  have hl := num_len h
  have hn9 : (num n).cps.toList.length = (num n).length := by simp [Str.length]
  unfold f_is_number
  walk_at "fn"
  refine w_seq (w_if (w_tor (w_tnot (w_tval ?_))))
  walk_at "go"
  refine brD (by omega) ?_
  walk_at "go"
  refine brD' (by omega) ?_
  walk_at "go"
  unfold f_is_number_c1
  refine w_compX (num n).cps.toList (fun c => .str ⟨#[c]⟩) (fun _ => .bl true) (fun σ => ∃ x, σ = [x]) ?_
  walk_at "go"
  refine ⟨?_, by simp, lim_le (by rw [hn9]; omega), ⟨_, rfl⟩, fun i B _ => rfl, ?_, fun B hB => ?_⟩
  · rw [← Array.all_toList]
    exact List.all_eq_true.mpr fun c hc => by have := num_dig hc; simp; omega
  · rintro c σ B hc ⟨x, rfl⟩ _
    walk_at "go"
    refine ⟨rfl, ⟨_, rfl⟩, ?_⟩
    walk_at "go"
    exact ⟨congrArg PV.bl (decide_eq_true (fig (num_dig hc))), List.prefix_refl _⟩
  · refine ⟨_, (num n).cps.toList.map fun _ => true, rfl, by rw [get_app, List.map_map]; rfl, ?_⟩
    · rw [all_t]
      walk_at "go"
      by_cases h0 : n = 0
      · subst h0
        refine brD num_zero ?_
        exact ⟨rfl, hB.trans (List.prefix_append _ _)⟩
      · obtain ⟨c, cs, e, hc⟩ := num_lead n h0
        refine brN (fun z => ?_) ?_
        · rw [z] at e
          have : ("0" : Str).cps.toList = [48] := by decide +kernel
          rw [this] at e; cases e; exact hc rfl
        · walk_at "go"
          refine w_ixS (c := c) (by rw [e]; simp [atI, ixN]) (lim_le (by omega)) ?_
          walk_at "go"
          refine ⟨?_, hB.trans (List.prefix_append _ _)⟩
          rw [decide_eq_false]; rfl
          intro z
          have z : (⟨#[c]⟩ : Str) = ⟨#[48]⟩ := z.trans (by decide +kernel)
          cases z; exact hc rfl
theorem read_numbers_ok (ns : List Nat) (h : ∀ n ∈ ns, n < 1000000000) (hl : ns.length ≤ 100) {A : PHp} {k : Nat} (hk : A[k]? = some (.lst ((ns.map num).map .str))) :
    Wp (f_read_numbers [.ref k]) A (fun v A' => ∃ m, v = .ref m ∧ A'[m]? = some (.lst (ns.map fun n => .int (n : Nat))) ∧ A <+: A') NoX := by
  rw [List.map_map] at hk
  unfold f_read_numbers
  walk_at "fn"
  walk_at "go"
  unfold f_read_numbers_c1
  refine w_compX ns (fun n => .str (num n)) (fun _ => .bl true) (fun σ => ∃ x, σ = [x]) ?_
  walk_at "go"
  refine ⟨by rw [fuel_lst hk]; simp, lim_le (by omega), ⟨_, rfl⟩, fun i B p => itemP hk p i, ?_, fun B hB => ?_⟩
  · rintro n σ B hn ⟨x, rfl⟩ _
    walk_at "go"
    refine ⟨rfl, ⟨_, rfl⟩, ?_⟩
    walk_at "go"
    exact is_number_num (h n hn) B
  · refine ⟨_, ns.map fun _ => true, rfl, by rw [get_app, List.map_map]; rfl, ?_⟩
    rw [all_t]
    walk_at "go"
    unfold f_read_numbers_c2
    have hk2 : (B ++ [PO.lst (ns.map fun _ => PV.bl true)])[k]? = some (.lst (ns.map (PV.str ∘ num))) := get_app_of (pre_get hB hk)
    refine w_compX ns (fun n => .str (num n)) (fun n => .int (n : Nat)) (fun σ => ∃ x, σ = [x]) ?_
    walk_at "go"
    refine ⟨by rw [fuel_lst hk2]; simp, lim_le (by omega), ⟨_, rfl⟩, fun i B p => itemP hk2 p i, ?_, fun B2 hB2 => ?_⟩
    · rintro n σ B hn ⟨x, rfl⟩ _
      walk_at "go"
      refine ⟨rfl, ⟨_, rfl⟩, ?_⟩
      walk_at "go"
      exact ⟨h n hn, rfl, List.prefix_refl _⟩
    · exact ⟨_, rfl, get_app, ((hB.trans (List.prefix_append _ _)).trans hB2).trans (List.prefix_append _ _)⟩
theorem sum9 {ys : List Str} {b : Nat} (h : ∀ y ∈ ys, y.length ≤ b) : (ys.map (·.length)).sum ≤ ys.length * b := StrLaws.sumLen_le ys h
theorem in_words_ok (k : Str) (hk : k.length ≤ 9) (ns : List Nat) (h : ∀ n ∈ ns, n < 1000000000) (hl : ns.length ≤ 100) (A : PHp) :
    Wp (f_in_words [.str k, .tup (ns.map fun n => .int (n : Nat))]) A (fun v A' => v = .str (Txt.join (one 32) (k :: ns.map num)) ∧ A <+: A') NoX := by
  unfold f_in_words
  walk_at "fn"
  walk_at "go"
  unfold f_in_words_c1
  refine w_compX ns (fun n => .int (n : Nat)) (fun n => .str (num n)) (fun σ => ∃ x, σ = [x]) ?_
  walk_at "go"
  refine ⟨by simp, lim_le (by omega), ⟨_, rfl⟩, fun i B p => rfl, ?_, fun B hB => ?_⟩
  · rintro n σ B hn ⟨x, rfl⟩ _
    walk_at "go"
    refine ⟨rfl, ⟨_, rfl⟩, ?_⟩
    walk_at "go"
    exact ⟨h n hn, rfl, List.prefix_refl _⟩
  · refine w_addL (get_app_of (pre_get hB get_app)) get_app (lim_le (by simp; omega)) ?_
    refine ⟨_, k :: ns.map num, rfl, by rw [get_app, List.map_cons, List.map_map]; rfl, ⟨by decide +kernel, ?_⟩, by rw [sp_eq], ?_⟩
    · have := sum9 (ys := k :: ns.map num) (b := 9) fun y hy => by
        rcases List.mem_cons.mp hy with rfl | hy
        · exact hk
        · obtain ⟨n, hn, rfl⟩ := List.mem_map.mp hy
          exact (num_len (h n hn)).2
      simp only [List.length_cons, List.length_map] at this ⊢
      omega
    · exact (((List.prefix_append _ _).trans hB).trans (List.prefix_append _ _)).trans (List.prefix_append _ _)
end Ws
namespace Ws
open PySem
structure Row where
  t : Nat
  a : Nat
  b : Nat
  ch : List Nat
noncomputable abbrev nvs (l : List Nat) : List PV := l.map fun n => .int (n : Nat)
noncomputable def Row.k (r : Row) : Str := if r.ch = [] then "lay" else "say"
noncomputable def Row.dv (r : Row) : PV := .tup (if r.ch = [] then [.str "lay", .tup (nvs [r.a, r.b])] else [.str "say", .tup (nvs [r.a, r.b]), .tup (nvs r.ch)])
noncomputable def Row.v (r : Row) : PV := .tup [.int r.t, r.dv]
noncomputable def Row.ok (r : Row) : Prop := r.t < 1000000000 ∧ (∀ n ∈ r.a :: r.b :: r.ch, n < 1000000000) ∧ r.ch.length ≤ 6
noncomputable def Row.words (r : Row) : List Str := num r.t :: r.k :: (r.a :: r.b :: r.ch).map num
noncomputable def Row.line (r : Row) : Str := Txt.join (one 32) r.words
theorem k_len (r : Row) : r.k.length = 3 := by unfold Row.k; split <;> decide +kernel
theorem joinT_cons (z x y : Str) (l : List Str) : Txt.join z (x :: y :: l) = x ++ z ++ Txt.join z (y :: l) := by
  show Builtin.Str.glued z _ = _ ++ Builtin.Str.glued z _
  rw [StrLaws.glued_eq_join, StrLaws.glued_eq_join]; rfl
theorem joinT_len (c : Nat) (l : List Str) : (Txt.join (one c) l).length ≤ (l.map (·.length)).sum + l.length := by
  have e : Txt.join (one c) l = Str.join (one c) l := StrLaws.glued_eq_join _ _
  rw [e]
  have := StrLaws.join_length_le (one c) l
  have h1 : (one c).length = 1 := rfl
  rw [h1] at this; omega
theorem words_len {r : Row} (h : r.ok) : ∀ w ∈ r.words, w.length ≤ 9 := by
  intro w hw
  unfold Row.words at hw
  rcases List.mem_cons.mp hw with rfl | hw
  · exact (num_len h.1).2
  · rcases List.mem_cons.mp hw with rfl | hw
    · rw [k_len]; decide
    · obtain ⟨n, hn, rfl⟩ := List.mem_map.mp hw
      exact (num_len (h.2.1 n hn)).2
theorem words_n {r : Row} (h : r.ok) : r.words.length ≤ 10 := by have := h.2.2; simp [Row.words]; omega
theorem line_len {r : Row} (h : r.ok) : r.line.length ≤ 100 := by
  have h1 := joinT_len 32 r.words
  have h2 := sum9 (words_len h)
  have h3 := words_n h
  unfold Row.line; omega
theorem written_deed_ok {r : Row} (h : r.ok) (A : PHp) : Wp (f_written_deed [.int r.t, r.dv]) A (fun v A' => v = .str r.line ∧ A <+: A') NoX := by
  unfold f_written_deed
  walk_at "fn"
  unfold Row.dv
  have ht := h.1
  have h1 := (num_len h.1).2
  have hs : (Str.ofString " ").length = 1 := by decide +kernel
  have fin : ∀ (k : Str), k = r.k → ∀ A1, Wp (f_in_words [.str k, .tup (nvs (r.a :: r.b :: r.ch))]) A1 (fun y A2 => Wp (oAddS (.str (num r.t ++ Str.ofString " ")) y) A2 (fun v A3 => v = .str r.line ∧ A1 <+: A3) NoX) NoX := fun k hk A1 => by
    subst hk
    have hkl := k_len r
    refine w_mono (in_words_ok r.k (by omega) (r.a :: r.b :: r.ch) h.2.1 (by have := h.2.2; simp; omega) A1) fun v A2 ⟨hv, hp⟩ => ?_
    subst hv
    have hl := line_len h
    have e : r.line = num r.t ++ one 32 ++ Txt.join (one 32) (r.k :: (r.a :: r.b :: r.ch).map num) := joinT_cons _ _ _ _
    rw [e, Str.length_append] at hl
    rw [sp_eq]
    exact w_addS (lim_le (by omega)) ⟨by rw [e], hp⟩
  by_cases hc : r.ch = []
  · rw [if_pos hc]
    walk_at "go"
    refine brN (by decide +kernel) ?_
    walk_at "go"
    refine w_addS (lim_le (by omega)) ?_
    walk_at "go"
    refine w_addT ⟨by simp, lim_le (by simp)⟩ ?_
    walk_at "go"
    have := fin "lay" (by unfold Row.k; rw [if_pos hc]) A
    rw [hc] at this
    exact this
  · rw [if_neg hc]
    walk_at "go"
    refine brD rfl ?_
    walk_at "go"
    refine w_addS (lim_le (by omega)) ?_
    walk_at "go"
    refine w_addT ⟨by simp, lim_le (by have := h.2.2; simp; omega)⟩ ?_
    walk_at "go"
    exact fin "say" (by unfold Row.k; rw [if_neg hc]) A
end Ws
namespace Ws
open PySem
noncomputable def textOf (rs : List Row) : Str := Txt.join (one 10) (rs.map Row.line)
theorem text_guard {rs : List Row} (h : ∀ r ∈ rs, r.ok) (hl : rs.length ≤ 50) : (Str.ofString "\n").length ≤ 16 ∧ ((rs.map Row.line).map (·.length)).sum + (rs.map Row.line).length ≤ 1048576 := by
  refine ⟨by decide +kernel, ?_⟩
  have := sum9 (ys := rs.map Row.line) (b := 100) fun y hy => by
    obtain ⟨r, hr, rfl⟩ := List.mem_map.mp hy
    exact line_len (h r hr)
  rw [List.length_map] at this ⊢
  omega
theorem written_deeds_ok {rs : List Row} (h : ∀ r ∈ rs, r.ok) (hl : rs.length ≤ 50) {A : PHp} {k : Nat} (hk : A[k]? = some (.lst (rs.map Row.v))) :
    Wp (f_written_deeds [.ref k]) A (fun v A' => v = .str (textOf rs) ∧ A <+: A') NoX := by
  unfold f_written_deeds
  walk_at "fn"
  walk_at "go"
  unfold f_written_deeds_c1
  refine w_compX rs Row.v (fun r => .str r.line) (fun σ => ∃ x y, σ = [x, y]) ?_
  walk_at "go"
  refine ⟨by rw [fuel_lst hk]; simp, lim_le (by omega), ⟨_, _, rfl⟩, fun i B p => itemP hk p i, ?_, fun B hB => ?_⟩
  · rintro r σ B hr ⟨x, y, rfl⟩ _
    unfold Row.v
    walk_at "go"
    refine ⟨rfl, ⟨_, _, rfl⟩, ?_⟩
    walk_at "go"
    exact written_deed_ok (h r hr) B
  · exact ⟨_, rs.map Row.line, rfl, by rw [get_app, List.map_map]; rfl, text_guard h hl, by rw [nl_eq]; rfl, hB.trans (List.prefix_append _ _)⟩
theorem word_no {r : Row} : ∀ w ∈ r.words, 32 ∉ w.cps.toList ∧ 10 ∉ w.cps.toList := by
  intro w hw
  have hn : ∀ n, 32 ∉ (num n).cps.toList ∧ 10 ∉ (num n).cps.toList := fun n => ⟨fun z => by have := num_dig z; omega, fun z => by have := num_dig z; omega⟩
  unfold Row.words at hw
  rcases List.mem_cons.mp hw with rfl | hw
  · exact hn _
  · rcases List.mem_cons.mp hw with rfl | hw
    · unfold Row.k; split <;> decide +kernel
    · obtain ⟨n, _, rfl⟩ := List.mem_map.mp hw
      exact hn n
theorem joinL_no {c d : Nat} (hcd : c ≠ d) : ∀ ws : List (List Nat), (∀ w ∈ ws, c ∉ w) → c ∉ joinL d ws
  | [], _ => by simp [joinL]
  | [w], h => h w (by simp)
  | w :: v :: r, h => by
    have ih := joinL_no hcd (v :: r) fun u hu => h u (List.mem_cons_of_mem _ hu)
    simp only [joinL, List.mem_append, List.mem_cons, not_or]
    exact ⟨h w (by simp), hcd, ih⟩
theorem line_no (r : Row) : 10 ∉ r.line.cps.toList := by
  have e : Txt.join (one 32) r.words = Str.join (one 32) r.words := StrLaws.glued_eq_join _ _
  unfold Row.line
  rw [e, joinS_list]
  refine joinL_no (by decide) _ fun w hw => ?_
  obtain ⟨v, hv, rfl⟩ := List.mem_map.mp hw
  exact (word_no v hv).2
theorem atN {α : Type} {l : List α} {i : Nat} {v : α} (h : l[i]? = some v) : atI l (i : Int) = some v := by
  have := (List.getElem?_eq_some_iff.mp h).1
  have e : ixN l.length (i : Int) = some i := by simp [ixN, this]
  rw [atI, e]; exact h
theorem cut_to {α : Type} (xs : List α) (i : Nat) (h : i ≤ xs.length) : cut xs none (some (i : Int)) = xs.take i := by
  have e : cutIx xs.length xs.length (some (i : Int)) = i := by simp only [cutIx]; split <;> omega
  unfold cut; rw [e]; simp [cutIx]
theorem cut_from {α : Type} (xs : List α) (i : Nat) (h : i ≤ xs.length) : cut xs (some (i : Int)) none = xs.drop i := by
  have e : cutIx xs.length 0 (some (i : Int)) = i := by simp only [cutIx]; split <;> omega
  unfold cut; rw [e]; exact List.take_of_length_le (by simp [cutIx])
theorem read_deed_ok {r : Row} (h : r.ok) (A : PHp) : Wp (f_read_deed [.str r.line]) A (fun v A' => v = r.v ∧ A <+: A') NoX := by
  unfold f_read_deed
  walk_at "fn"
  walk_at "go"
  have hll := line_len h
  have hwn := words_n h
  refine ⟨32, r.words, congrArg PV.str sp_eq, rfl, ⟨by decide, by simp [Row.words], fun w hw => (word_no w hw).1, lim_le (by omega), lim_le (by omega)⟩, ?_⟩
  have hw : r.words.map PV.str = .str (num r.t) :: .str r.k :: ((r.a :: r.b :: r.ch).map num).map .str := rfl
  have c1 : cut (r.words.map PV.str) none (some 1) = [.str (num r.t)] := by rw [hw]; exact (cut_to _ 1 (by simp)).trans rfl
  have c2 : cut (r.words.map PV.str) (some 2) none = ((r.a :: r.b :: r.ch).map num).map .str := by rw [hw]; exact (cut_from _ 2 (by simp)).trans rfl
  walk_at "go"
  rw [c1, c2]
  refine w_addL (get_app_of get_app) get_app (lim_le (by have := h.2.2; simp; omega)) ?_
  walk_at "go"
  generalize hB : A ++ [PO.lst (r.words.map PV.str)] ++ [PO.lst [PV.str (num r.t)]] ++ [PO.lst (((r.a :: r.b :: r.ch).map num).map .str)] = B
  have hB1 : A ++ [PO.lst (r.words.map PV.str)] <+: B := by rw [← hB]; exact (List.prefix_append _ _).trans (List.prefix_append _ _)
  refine w_mono (read_numbers_ok (r.t :: r.a :: r.b :: r.ch) (fun n hn => ?_) (by have := h.2.2; simp; omega) (k := B.length) get_app) fun v A1 ⟨m, hv, hm, hp⟩ => ?_
  · rcases List.mem_cons.mp hn with rfl | hn
    · exact h.1
    · exact h.2.1 n hn
  subst hv
  have hp2 : A ++ [PO.lst (r.words.map PV.str)] <+: A1 := (hB1.trans (List.prefix_append _ _)).trans hp
  have hpA : A <+: A1 := (List.prefix_append _ _).trans hp2
  have hW : A1[A.length]? = some (.lst (r.words.map PV.str)) := pre_get hp2 get_app
  have x0 : atI (nvs (r.t :: r.a :: r.b :: r.ch)) 0 = some (.int r.t) := atN (i := 0) rfl
  have x1 : atI (nvs (r.t :: r.a :: r.b :: r.ch)) 1 = some (.int r.a) := atN (i := 1) rfl
  have x2 : atI (nvs (r.t :: r.a :: r.b :: r.ch)) 2 = some (.int r.b) := atN (i := 2) rfl
  have y1 : atI (r.words.map PV.str) 1 = some (.str r.k) := atN (i := 1) rfl
  have c3 : cut (nvs (r.t :: r.a :: r.b :: r.ch)) (some 3) none = nvs r.ch := (cut_from _ 3 (by simp [nvs])).trans rfl
  walk_at "go"
  refine brF ?_
  walk_at "go"
  refine brN (by simp; omega) ?_
  walk_at "go"
  rw [c3]
  walk_at "go"
  refine ⟨lim_le (by have := h.2.2; simp [nvs]; omega), ?_⟩
  have hpr : plain (.tup (nvs r.ch)) = true ∧ plain (.tup []) = true := ⟨by show (nvs r.ch).all flat2 = true; rw [List.all_map]; exact List.all_eq_true.mpr fun _ _ => rfl, rfl⟩
  by_cases hc : r.ch = []
  · have hk : r.k = "lay" := by unfold Row.k; rw [if_pos hc]
    walk_at "go"
    refine brD hk ?_
    walk_at "go"
    have he : eqvs (nvs r.ch) [] = true := by rw [hc]; simp [nvs, eqvs]
    refine w_eqT hpr ?_
    rw [he]
    walk_at "go"
    refine ⟨?_, hpA.trans (List.prefix_append _ _)⟩
    unfold Row.v Row.dv; rw [if_pos hc]; rfl
  · have hk : r.k = "say" := by unfold Row.k; rw [if_neg hc]
    have he : eqvs (nvs r.ch) [] = false := by
      cases hh : r.ch with
      | nil => exact absurd hh hc
      | cons a l => simp [nvs, eqvs]
    walk_at "go"
    refine brN (by rw [hk]; decide +kernel) ?_
    walk_at "go"
    refine brD hk ?_
    walk_at "go"
    refine w_neT hpr ?_
    rw [he]
    walk_at "go"
    refine ⟨?_, hpA.trans (List.prefix_append _ _)⟩
    unfold Row.v Row.dv; rw [if_neg hc]; rfl
end Ws
namespace Ws
theorem rng1_nat {e : ED} {σ : PSt} {A A1 : PHp} {m k : Nat} (hm : m ≤ k) (h : e σ A = .ok (.int m) A1) (hk : k ≤ 1000000 := by decide) : iRng1 e σ A = .ok (.rng 0 m) A1 := by
  show bnd (e σ) _ A = _
  rw [bnd_ok h]
  show guard (-(2 ^ 62) ≤ (m : Int) ∧ (m : Int) < 2 ^ 62) _ A1 = _
  rw [guard_pos (by omega)]
  rfl
theorem stream_l1 (c : Int) (m : Nat) (hm : m ≤ 64) (d : Int) (A : PHp) : ∃ (σ : PSt) (xs : List Int), xs.length = m ∧ (∀ x ∈ xs, (0 : Int) ≤ x) ∧ σ[2]? = some (some (.ref A.length)) ∧
    f_law_stream_l1 [some (.int c), some (.int m), some (.ref A.length), some (.int d), none, none] (A ++ [.lst []]) = .ok (.nx σ) (A ++ [.lst (xs.map .int)]) := by
  have h : Comes (f_law_stream_l1 [some (.int c), some (.int m), some (.ref A.length), some (.int d), none, none] (A ++ [.lst []]))
      (fun σ A' => ∃ (xs : List Int) (d : Int) (k : Option PV), xs.length = m ∧ (∀ x ∈ xs, (0 : Int) ≤ x) ∧ σ = [some (.int c), some (.int m), some (.ref A.length), some (.int d), k, none] ∧ A' = A ++ [.lst (xs.map .int)]) (fun _ _ => False) := by
    unfold f_law_stream_l1
    refine for_rng' (lo := 0) (n := m) (A1 := A ++ [.lst []]) (rng1_nat hm (by rfl)) (fun i σ A' => ∃ (xs : List Int) (d : Int) (k : Option PV), xs.length = i ∧ (∀ x ∈ xs, (0 : Int) ≤ x) ∧ σ = [some (.int c), some (.int m), some (.ref A.length), some (.int d), k, none] ∧ A' = A ++ [.lst (xs.map .int)]) ⟨[], d, none, rfl, by simp, rfl, rfl⟩ ?_ (fun _ _ h => h)
    rintro i σ A' hi ⟨xs, d, k, hl, hx, rfl, rfl⟩
    have hlim : xs.length < LIM := lim_lt (by omega)
    refine Turns.nx ?_ ⟨xs ++ [d % 5040], d / 5040, some (.int i), by simp [hl], ?_, rfl, rfl⟩
    · simp [f_law_stream_b1, hlim, set_last]
    · intro x hx'
      rcases List.mem_append.mp hx' with h | h
      · exact hx x h
      · simp at h; subst h; exact Int.emod_nonneg _ (by decide)
  obtain ⟨σ, A', e, xs, d, k, h1, h2, rfl, rfl⟩ := h.end
  exact ⟨_, xs, h1, h2, rfl, e⟩
theorem stream_l2 (c : Int) (m : Nat) (hm : m ≤ 64) (z : Int) (hz : 0 ≤ z ∧ z < 2147483647) (A : PHp) : ∃ (σ : PSt) (xs : List Int), xs.length = m ∧ (∀ x ∈ xs, (0 : Int) ≤ x) ∧ σ[2]? = some (some (.ref A.length)) ∧
    f_law_stream_l2 [some (.int c), some (.int m), some (.ref A.length), none, none, some (.int z)] (A ++ [.lst []]) = .ok (.nx σ) (A ++ [.lst (xs.map .int)]) := by
  have h : Comes (f_law_stream_l2 [some (.int c), some (.int m), some (.ref A.length), none, none, some (.int z)] (A ++ [.lst []]))
      (fun σ A' => ∃ (xs : List Int) (z : Int) (k : Option PV), xs.length = m ∧ (∀ x ∈ xs, (0 : Int) ≤ x) ∧ (0 ≤ z ∧ z < 2147483647) ∧ σ = [some (.int c), some (.int m), some (.ref A.length), none, k, some (.int z)] ∧ A' = A ++ [.lst (xs.map .int)]) (fun _ _ => False) := by
    unfold f_law_stream_l2
    refine for_rng' (lo := 0) (n := m) (A1 := A ++ [.lst []]) (rng1_nat hm (by rfl)) (fun i σ A' => ∃ (xs : List Int) (z : Int) (k : Option PV), xs.length = i ∧ (∀ x ∈ xs, (0 : Int) ≤ x) ∧ (0 ≤ z ∧ z < 2147483647) ∧ σ = [some (.int c), some (.int m), some (.ref A.length), none, k, some (.int z)] ∧ A' = A ++ [.lst (xs.map .int)]) ⟨[], z, none, rfl, by simp, hz, rfl, rfl⟩ ?_ (fun _ _ h => h)
    rintro i σ A' hi ⟨xs, z, k, hl, hx, hz, rfl, rfl⟩
    have hlim : xs.length < LIM := lim_lt (by omega)
    have hb : (-(18446744073709551616) < z ∧ z < 18446744073709551616) := by omega
    refine Turns.nx ?_ ⟨xs ++ [(z * (z / 1009 + 69621) + i + 1) % 2147483647], (z * (z / 1009 + 69621) + i + 1) % 2147483647, some (.int i), by simp [hl], ?_, ⟨Int.emod_nonneg _ (by decide), Int.emod_lt_of_pos _ (by decide)⟩, rfl, rfl⟩
    · simp [f_law_stream_b2, hlim, set_last, hb]
    · intro x hx'
      rcases List.mem_append.mp hx' with h | h
      · exact hx x h
      · simp at h; subst h; exact Int.emod_nonneg _ (by decide)
  obtain ⟨σ, A', e, xs, z, k, h1, h2, h3, rfl, rfl⟩ := h.end
  exact ⟨_, xs, h1, h2, rfl, e⟩
theorem stream_ok (c : Int) (m : Nat) (hm : m ≤ 64) (A : PHp) : ∃ xs : List Int, xs.length = m ∧ (∀ x ∈ xs, 0 ≤ x) ∧ f_law_stream [.int c, .int m] A = .ok (.ref A.length) (A ++ [.lst (xs.map .int)]) := by
  by_cases h : c % 2 = 1
  · obtain ⟨σ, xs, h1, h2, h3, h4⟩ := stream_l1 c m hm (c / 2) A
    refine ⟨xs, h1, h2, ?_⟩
    unfold f_law_stream
    refine fn_rt rfl ?_
    rw [seq_nx (asg_ok (eLst_nil _ _) rfl)]
    refine seq_rt ?_
    rw [if_t (A' := A ++ [.lst []]) (by simp [h, plain, eqv])]
    rw [seq_nx (σ' := [some (.int c), some (.int m), some (.ref A.length), some (.int (c / 2)), none, none]) (A' := A ++ [.lst []]) (by simp)]
    rw [seq_nx h4]
    simp [h3]
  · obtain ⟨σ, xs, h1, h2, h3, h4⟩ := stream_l2 c m hm ((c * 48271 + 7919) % 2147483647) ⟨Int.emod_nonneg _ (by decide), Int.emod_lt_of_pos _ (by decide)⟩ A
    refine ⟨xs, h1, h2, ?_⟩
    unfold f_law_stream
    refine fn_rt rfl ?_
    rw [seq_nx (asg_ok (eLst_nil _ _) rfl)]
    rw [seq_nx (σ' := [some (.int c), some (.int m), some (.ref A.length), none, none, none]) (A' := A ++ [.lst []]) (by rw [if_f (A' := A ++ [.lst []]) (by simp [h, plain, eqv])]; rfl)]
    rw [seq_nx (σ' := [some (.int c), some (.int m), some (.ref A.length), none, none, some (.int ((c * 48271 + 7919) % 2147483647))]) (A' := A ++ [.lst []]) (by simp)]
    rw [seq_nx h4]
    simp [h3]
end Ws
namespace Ws
open PySem
theorem w_forK {it : ID} {g : GD} {s : SD} {σ : PSt} {A : PHp} {QF : Fl → PHp → Prop} {E : XP} (P : Nat → PSt → PHp → Prop) (h : Wp (it σ) A (fun J A1 => ∃ k a l, J = .enk k a ∧ P 0 σ A1 ∧ (∀ i σ B, P i σ B → lstAt a B = .ok l B) ∧ (∀ (i : Nat) v σ B, l[i]? = some v → P i σ B → Wp (g (.tup [.int ((k + i : Nat) : Int), v]) σ) B (fun σ1 B1 => Wp (s σ1) B1 (TurnQ (P (i + 1)) QF) E) E) ∧ ∀ σ B, P l.length σ B → QF (.nx σ) B) E) :
    Wp (sFor it g s σ) A QF E := w_bnd (w_mono h fun J A1 ⟨k, a, l, hJ, h0, hl, hs, he⟩ => by
  subst hJ
  refine w_bnd (w_bnd (w_eq (hl 0 σ A1 h0) (w_ret ?_)))
  refine w_turns P (fun σ B hP => ⟨by show bnd (lstAt a) _ B = _; rw [bnd_ok (hl _ σ B hP)]; simp, he σ B hP⟩) (fun i σ B hi hP => ?_) l.length 0 σ A1 (by omega) h0 (l.length + 1) (Nat.lt_succ_self _)
  exact ⟨.tup [.int ((k + i : Nat) : Int), l[i]], by show bnd (lstAt a) _ B = _; rw [bnd_ok (hl _ σ B hP), List.getElem?_eq_getElem hi]; rfl, hs i l[i] σ B (List.getElem?_eq_getElem hi) hP⟩)
noncomputable def Rise (rs : List Row) : Prop := (∀ r ∈ rs, 1 ≤ r.t) ∧ rs.Pairwise fun r q => r.t ≤ q.t
theorem line_ne (r : Row) : r.line ≠ "" := by
  intro z
  have h := congrArg (fun x : Str => x.cps.toList) z
  have e : r.line.cps.toList = joinL 32 (r.words.map fun w => w.cps.toList) := by
    have e : Txt.join (one 32) r.words = Str.join (one 32) r.words := StrLaws.glued_eq_join _ _
    unfold Row.line; rw [e, joinS_list]
  have e2 : ("" : Str).cps.toList = [] := by decide +kernel
  simp only [e, e2, Row.words, List.map_cons, joinL] at h
  exact absurd (List.append_eq_nil_iff.mp h).2 (by simp)
theorem text_ne {rs : List Row} (h : rs ≠ []) : textOf rs ≠ "" := by
  intro z
  have hx := congrArg (fun x : Str => x.cps.toList) z
  have e : (textOf rs).cps.toList = joinL 10 ((rs.map Row.line).map fun w => w.cps.toList) := by
    have e : Txt.join (one 10) (rs.map Row.line) = Str.join (one 10) (rs.map Row.line) := StrLaws.glued_eq_join _ _
    unfold textOf; rw [e, joinS_list]
  have e2 : ("" : Str).cps.toList = [] := by decide +kernel
  simp only [e, e2] at hx
  cases rs with
  | nil => exact h rfl
  | cons r l =>
    cases l with
    | nil =>
      simp only [List.map_cons, List.map_nil, joinL] at hx
      exact line_ne r (cps_inj (hx.trans e2.symm))
    | cons q l => simp only [List.map_cons, joinL] at hx; exact absurd (List.append_eq_nil_iff.mp hx).2 (by simp)
theorem text_len {rs : List Row} (h : ∀ r ∈ rs, r.ok) (hl : rs.length ≤ 50) : (textOf rs).length ≤ 6000 := by
  have h1 := joinT_len 10 (rs.map Row.line)
  have := sum9 (ys := rs.map Row.line) (b := 100) fun y hy => by
    obtain ⟨r, hr, rfl⟩ := List.mem_map.mp hy
    exact line_len (h r hr)
  rw [List.length_map] at this h1
  unfold textOf; omega
theorem read_none (A : PHp) : Wp (f_read_deeds [.str ""]) A (fun v A' => ∃ m, v = .ref m ∧ A'[m]? = some (.lst []) ∧ A <+: A' ∧ A.length ≤ m) NoX := by
  unfold f_read_deeds
  walk_at "fn"
  walk_at "go"
  refine brD rfl ?_
  walk_at "go"
  exact ⟨get_app, List.prefix_append _ _, Nat.le_refl _⟩
theorem read_deeds_ok {rs : List Row} (h : ∀ r ∈ rs, r.ok) (hl : rs.length ≤ 50) (hr : Rise rs) (A : PHp) :
    Wp (f_read_deeds [.str (textOf rs)]) A (fun v A' => ∃ m, v = .ref m ∧ A'[m]? = some (.lst (rs.map Row.v)) ∧ A <+: A' ∧ A.length ≤ m) NoX := by
  by_cases h0 : rs = []
  · subst h0
    exact read_none A
  · unfold f_read_deeds
    walk_at "fn"
    walk_at "go"
    refine brN (text_ne h0) ?_
    walk_at "go"
    unfold f_read_deeds_l1
    have htl := text_len h hl
    refine w_forK (fun i σ B => ∃ (w : Nat) (x y z : Option PV), σ = [some (.str (textOf rs)), some (.ref A.length), some (.int (w : Nat)), x, y, z] ∧ (∀ r, rs[i]? = some r → w ≤ r.t) ∧ A <+: B ∧ B[A.length]? = some (.lst ((rs.take i).map Row.v)) ∧ B[A.length + 1]? = some (.lst ((rs.map Row.line).map .str))) ?_
    walk_at "go"
    refine ⟨10, rs.map Row.line, congrArg PV.str nl_eq, rfl, ⟨by decide, by simpa using h0, fun w hw => ?_, lim_le (by omega), lim_le (by simp; omega)⟩, ?_⟩
    · obtain ⟨r, _, rfl⟩ := List.mem_map.mp hw
      exact line_no r
    have e1 : (A ++ [PO.lst []]).length = A.length + 1 := by simp
    have hls : (A ++ [PO.lst []] ++ [PO.lst ((rs.map Row.line).map .str)])[A.length + 1]? = some (.lst ((rs.map Row.line).map .str)) := by rw [← e1]; exact get_app
    refine ⟨_, _, rfl, by rw [e1]; exact lstAt_lst hls, _, _, (rs.map Row.line).map .str, rfl, ⟨1, _, _, _, rfl, fun r h => hr.1 r (List.mem_of_getElem? h), (List.prefix_append _ _).trans (List.prefix_append _ _), get_app_of get_app, hls⟩, fun i σ B ⟨w, x, y, z, _, _, _, _, hB⟩ => by rw [e1]; exact lstAt_lst hB, ?_, ?_⟩
    · rintro i v σ B hv ⟨w, x, y, z, rfl, hw, hA, h1, h2⟩
      rw [List.getElem?_map, List.getElem?_map] at hv
      obtain ⟨l, hl', rfl⟩ := Option.map_eq_some_iff.mp hv
      obtain ⟨r, hri, rfl⟩ := Option.map_eq_some_iff.mp hl'
      have hrm := List.mem_of_getElem? hri
      have hin := (List.getElem?_eq_some_iff.mp hri).1
      walk_at "go"
      unfold f_read_deeds_b1
      walk_at "go"
      refine w_mono (read_deed_ok (h r hrm) B) fun v B1 ⟨hv, hp⟩ => ?_
      subst hv
      have k1 := pre_get hp h1
      have k2 := pre_get hp h2
      have hwr := hw r hri
      unfold Row.v
      walk_at "go"
      refine brF ?_
      walk_at "go"
      refine brN (by omega) ?_
      walk_at "go"
      refine ⟨lim_lt (by simp; omega), r.t, _, _, _, rfl, fun q hq => ?_, pre_set (hA.trans hp) (Nat.le_refl _), ?_, ?_⟩
      · have hq1 := (List.getElem?_eq_some_iff.mp hq)
        have := List.pairwise_iff_getElem.mp hr.2 i (i + 1) hin hq1.1 (by omega)
        rw [hq1.2, (List.getElem?_eq_some_iff.mp hri).2] at this
        exact this
      · rw [get_set k1, List.take_succ, hri, List.map_append]; rfl
      · rw [get_set_ne (by omega)]; exact k2
    · rintro σ B ⟨w, x, y, z, rfl, hw, hA, h1, h2⟩
      walk_at "go"
      refine ⟨?_, hA, Nat.le_refl _⟩
      rw [h1, List.length_map, List.length_map, List.take_of_length_le (Nat.le_refl _)]
end Ws
namespace Ws
open PySem
theorem line_guard {r : Row} (h : r.ok) : (Str.ofString " ").length ≤ 16 ∧ (r.words.map (·.length)).sum + r.words.length ≤ 1048576 := by
  refine ⟨by decide +kernel, ?_⟩
  have h2 := sum9 (words_len h)
  have h3 := words_n h
  omega
theorem law_text_ok {rs : List Row} (h : ∀ r ∈ rs, r.ok) (hl : rs.length ≤ 50) {A : PHp} {k : Nat} (hk : A[k]? = some (.lst (rs.map Row.v))) :
    Wp (f_law_text [.ref k]) A (fun v A' => v = .str (textOf rs) ∧ A <+: A') NoX := by
  unfold f_law_text
  walk_at "fn"
  walk_at "go"
  unfold f_law_text_l1
  refine w_forL (fun i σ B => ∃ (x y z : Option PV), σ = [some (.ref k), some (.ref A.length), x, y, z] ∧ A <+: B ∧ B[A.length]? = some (.lst ((rs.take i).map fun r => .str r.line))) ?_
  walk_at "go"
  refine ⟨_, rs.map Row.v, rfl, ⟨_, _, _, rfl, List.prefix_append _ _, get_app⟩, fun i σ B ⟨_, _, _, _, hA, _⟩ => lstAt_lst (pre_get hA hk), ?_, ?_⟩
  · rintro i v σ B hv ⟨x, y, z, rfl, hA, h1⟩
    rw [List.getElem?_map] at hv
    obtain ⟨r, hri, rfl⟩ := Option.map_eq_some_iff.mp hv
    have hrm := List.mem_of_getElem? hri
    have hin := (List.getElem?_eq_some_iff.mp hri).1
    have ho := h r hrm
    have ht := ho.1
    have ha : r.a < 1000000000 := ho.2.1 _ (by simp)
    have hb : r.b < 1000000000 := ho.2.1 _ (by simp)
    have tk : (rs.take (i + 1)).map (fun r => PV.str r.line) = (rs.take i).map (fun r => PV.str r.line) ++ [.str r.line] := by rw [List.take_succ, hri, List.map_append]; rfl
    have tail : ∀ (B2 : PHp) (m : Nat) (dv : PV) (QF : Fl → PHp → Prop), B <+: B2 → B2[m]? = some (.lst (r.words.map .str)) → Wp (sExpr (eAppend (eVar 1) (eJoin (eK (.str " ")) (eVar 4))) [some (.ref k), some (.ref A.length), some (.int (r.t : Nat)), some dv, some (.ref m)]) B2
        (TurnQ (fun σ B => ∃ (x y z : Option PV), σ = [some (.ref k), some (.ref A.length), x, y, z] ∧ A <+: B ∧ B[A.length]? = some (.lst ((rs.take (i + 1)).map fun r => .str r.line))) QF) NoX := fun B2 m dv QF hp hm => by
      have k1 := pre_get hp h1
      walk_at "go"
      refine ⟨m, r.words, rfl, hm, line_guard ho, ?_⟩
      rw [sp_eq]
      refine ⟨_, k1, lim_lt (by simp; omega), _, _, _, rfl, pre_set (hA.trans hp) (Nat.le_refl _), ?_⟩
      rw [get_set k1, tk]; rfl
    unfold Row.v Row.dv
    by_cases hc : r.ch = []
    · rw [if_pos hc]
      have hw : r.words = [num r.t, "lay", num r.a, num r.b] := by unfold Row.words Row.k; rw [if_pos hc, hc]; rfl
      walk_at "go"
      unfold f_law_text_b1
      walk_at "go"
      refine brN (by decide +kernel) ?_
      walk_at "s"
      exact tail _ _ _ _ (List.prefix_append _ _) (by rw [get_app, hw]; rfl)
    · rw [if_neg hc]
      have hw : r.words = [num r.t, "say", num r.a, num r.b] ++ r.ch.map num := by unfold Row.words Row.k; rw [if_neg hc]; rfl
      walk_at "go"
      unfold f_law_text_b1
      walk_at "go"
      refine brD rfl ?_
      walk_at "go"
      unfold f_law_text_c1
      refine w_compX r.ch (fun n => .int (n : Nat)) (fun n => .str (num n)) (fun σ => ∃ x, σ = [x]) ?_
      walk_at "go"
      refine ⟨by simp, lim_le (by have := ho.2.2; omega), ⟨_, rfl⟩, fun i B p => rfl, ?_, fun B2 hB2 => ?_⟩
      · rintro n σ B hn ⟨x, rfl⟩ _
        walk_at "go"
        refine ⟨rfl, ⟨_, rfl⟩, ?_⟩
        walk_at "go"
        exact ⟨ho.2.1 n (by simp [hn]), rfl, List.prefix_refl _⟩
      · refine w_addL (get_app_of (pre_get hB2 get_app)) get_app (lim_le (by have := ho.2.2; simp; omega)) ?_
        walk_at "s"
        refine tail _ _ _ _ ((((List.prefix_append _ _).trans hB2).trans (List.prefix_append _ _)).trans (List.prefix_append _ _)) ?_
        rw [get_app, hw, List.map_append, List.map_map]; rfl
  · rintro σ B ⟨x, y, z, rfl, hA, h1⟩
    rw [List.length_map, List.take_of_length_le (Nat.le_refl _)] at h1
    walk_at "go"
    exact ⟨_, rs.map Row.line, rfl, by rw [h1, List.map_map]; rfl, text_guard h hl, by rw [nl_eq]; rfl, hA⟩
end Ws
namespace Ws
open PySem
theorem law_kinds_ok {rs : List Row} {A : PHp} {k : Nat} (hk : A[k]? = some (.lst (rs.map Row.v))) :
    Wp (f_law_kinds [.ref k]) A (fun v A' => v = .bl true ∧ A' = A) NoX := by
  unfold f_law_kinds
  walk_at "fn"
  walk_at "go"
  unfold f_law_kinds_l1
  refine w_forL (fun i σ B => (∃ x, σ = [some (.ref k), x]) ∧ B = A) ?_
  walk_at "go"
  refine ⟨_, rs.map Row.v, rfl, ⟨⟨_, rfl⟩, rfl⟩, fun i σ B ⟨_, h⟩ => by rw [h]; exact lstAt_lst hk, ?_, ?_⟩
  · rintro i v σ B hv ⟨⟨x, rfl⟩, rfl⟩
    rw [List.getElem?_map] at hv
    obtain ⟨r, hri, rfl⟩ := Option.map_eq_some_iff.mp hv
    unfold Row.v Row.dv
    by_cases hc : r.ch = []
    · rw [if_pos hc]
      walk_at "go"
      unfold f_law_kinds_b1
      walk_at "go"
      refine brN (by decide +kernel) ?_
      walk_at "go"
      exact ⟨⟨_, rfl⟩, rfl⟩
    · rw [if_neg hc]
      walk_at "go"
      unfold f_law_kinds_b1
      walk_at "go"
      refine brD rfl ?_
      walk_at "go"
      exact ⟨⟨_, rfl⟩, rfl⟩
  · rintro σ B ⟨⟨x, rfl⟩, rfl⟩
    walk_at "go"
    exact ⟨rfl, rfl⟩
theorem cut_map {α β : Type} (f : α → β) (xs : List α) (l h : Option Int) : cut (xs.map f) l h = (cut xs l h).map f := by
  unfold cut; rw [List.length_map, List.map_take, List.map_drop]
theorem cut_50 {α : Type} (xs : List α) : (cut xs (some 1) (some 51)).length ≤ 50 := by
  have h1 : cutIx xs.length xs.length (some 51) ≤ 51 := by simp only [cutIx]; split <;> omega
  have h2 : cutIx xs.length 0 (some 1) = min 1 xs.length := by simp only [cutIx]; split <;> omega
  unfold cut
  rw [List.length_take, List.length_drop]
  omega
theorem w_pow9 {A : PHp} {Q : PV → PHp → Prop} {E : XP} (q : Q (.int 1000000000) A) : Wp (oPow (.int 10) (.int 9)) A Q E := by
  show Wp (guard (0 ≤ (9 : Int) ∧ (9 : Int) ≤ 1000 ∧ (10 : Int).natAbs < 1000) (ret (.int ((10 : Int) ^ (9 : Int).toNat)))) A Q E
  rw [show (10 : Int) ^ (9 : Int).toNat = 1000000000 by decide]
  exact w_guard (by decide) q
structure Grown (A : PHp) (cs : List Int) (i : Nat) (rs : List Row) (t : Nat) (B : PHp) : Prop where
  pre : A <+: B
  rows : B[A.length]? = some (.lst (rs.map Row.v))
  cells : B[A.length + 1]? = some (.lst (cs.map .int))
  len : rs.length = i
  ok : ∀ r ∈ rs, r.ok ∧ 1 ≤ r.t ∧ r.t ≤ t
  up : rs.Pairwise fun r q => r.t ≤ q.t
  t1 : 1 ≤ t
  t2 : t ≤ 1 + 3 * i
theorem Grown.step {A B B1 : PHp} {cs : List Int} {i t : Nat} {rs : List Row} (G : Grown A cs i rs t B) (q : Row) (hq : q.ok) (h1 : t ≤ q.t) (h2 : q.t ≤ t + 3) (hp : B <+: B1) :
    Grown A cs (i + 1) (rs ++ [q]) q.t (B1.set A.length (.lst (rs.map Row.v ++ [q.v]))) where
  pre := pre_set (G.pre.trans hp) (Nat.le_refl _)
  rows := by rw [get_set (pre_get hp G.rows), List.map_append]; rfl
  cells := by rw [get_set_ne (by omega)]; exact pre_get hp G.cells
  len := by simp [G.len]
  ok := fun r hr => by
    have := G.t1
    rcases List.mem_append.mp hr with hr | hr
    · have := G.ok r hr; exact ⟨this.1, this.2.1, by omega⟩
    · simp at hr; subst hr; exact ⟨hq, by omega, Nat.le_refl _⟩
  up := by
    rw [List.pairwise_append]
    refine ⟨G.up, by simp, fun r hr q' hq' => ?_⟩
    simp at hq'; subst hq'
    have := (G.ok r hr).2.2; omega
  t1 := by have := G.t1; omega
  t2 := by have := G.t2; omega
theorem atp {xs : List Int} (hx : xs.length = 11) (hp : ∀ x ∈ xs, 0 ≤ x) (j : Nat) (hj : j < 11) : ∃ v, atI (xs.map PV.int) (j : Int) = some (.int v) ∧ 0 ≤ v :=
  ⟨xs[j], atm (by omega), hp _ (List.getElem_mem _)⟩
theorem modn (v : Int) (m : Nat) (h : 0 < m) : ∃ d : Nat, v % (m : Int) = (d : Int) ∧ d < m :=
  ⟨(v % m).toNat, (Int.toNat_of_nonneg (Int.emod_nonneg _ (by omega))).symm, by have := Int.emod_lt_of_pos v (b := m) (by omega); have := Int.emod_nonneg v (b := m) (by omega); omega⟩
theorem law_rows_ok (ns : List Int) {A : PHp} {k : Nat} (hk : A[k]? = some (.ro (ns.map .int))) :
    Wp (f_law_rows [.ref k]) A (fun v A' => ∃ m rs, v = .ref m ∧ A'[m]? = some (.lst (rs.map Row.v)) ∧ (∀ r ∈ rs, r.ok) ∧ rs.length ≤ 50 ∧ Rise rs ∧ A <+: A') NoX := by
  unfold f_law_rows
  walk_at "fn"
  walk_at "go"
  unfold f_law_rows_l1
  have hc50 := cut_50 ns
  generalize hcs : cut ns (some 1) (some 51) = cs at hc50
  refine w_forL (fun i σ B => ∃ (rs : List Row) (t : Nat) (x y z u : Option PV), σ = [some (.ref k), some (.ref A.length), some (.int (t : Nat)), x, y, z, u] ∧ Grown A cs i rs t B) ?_
  walk_at "go"
  rw [cut_map, hcs]
  have e1 : (A ++ [PO.lst []]).length = A.length + 1 := by simp
  have hls : (A ++ [PO.lst []] ++ [PO.lst (cs.map .int)])[A.length + 1]? = some (.lst (cs.map .int)) := by rw [← e1]; exact get_app
  refine ⟨_, cs.map .int, rfl, ⟨[], 1, _, _, _, _, rfl, (List.prefix_append _ _).trans (List.prefix_append _ _), get_app_of get_app, hls, rfl, by simp, .nil, Nat.le_refl _, by omega⟩, fun i σ B ⟨_, _, _, _, _, _, _, G⟩ => by rw [e1]; exact lstAt_lst G.cells, ?_, ?_⟩
  · rintro i v σ B hv ⟨rs, t, x, y, z, u, rfl, G⟩
    rw [List.getElem?_map] at hv
    obtain ⟨c, hci, rfl⟩ := Option.map_eq_some_iff.mp hv
    have hin := (List.getElem?_eq_some_iff.mp hci).1
    have hlen := G.len
    have hrow := G.rows
    have ht2 := G.t2
    walk_at "go"
    unfold f_law_rows_b1
    walk_at "go"
    obtain ⟨xs, hx, hx0, hst⟩ := stream_ok c 11 (by decide) B
    refine w_eq hst ?_
    obtain ⟨v0, x0, p0⟩ := atp hx hx0 0 (by decide)
    obtain ⟨v1, x1, p1⟩ := atp hx hx0 1 (by decide)
    obtain ⟨v2, x2, p2⟩ := atp hx hx0 2 (by decide)
    obtain ⟨v3, x3, p3⟩ := atp hx hx0 3 (by decide)
    obtain ⟨v4, x4, p4⟩ := atp hx hx0 4 (by decide)
    obtain ⟨d0, q0, l0⟩ : ∃ d : Nat, v0 % 4 = (d : Int) ∧ d < 4 := modn v0 4 (by decide)
    obtain ⟨d1, q1, l1⟩ : ∃ d : Nat, v1 % 6 = (d : Int) ∧ d < 6 := modn v1 6 (by decide)
    obtain ⟨d2, q2, l2⟩ : ∃ d : Nat, v2 % 6 = (d : Int) ∧ d < 6 := modn v2 6 (by decide)
    obtain ⟨d4, q4, l4⟩ : ∃ d : Nat, v4 / 3 % 6 = (d : Int) ∧ d < 6 := modn (v4 / 3) 6 (by decide)
    obtain ⟨dc, qc, lc⟩ : ∃ d : Nat, c % 1000000000 = (d : Int) ∧ d < 1000000000 := modn c 1000000000 (by decide)
    have hxs : (B ++ [PO.lst (xs.map .int)])[B.length]? = some (.lst (xs.map .int)) := get_app
    walk_at "go"
    refine ⟨fun h9 => ?_, fun h9 => ?_⟩
    · walk_at "go"
      refine w_pow9 ?_
      walk_at "go"
      refine ⟨fun h3 => ?_, fun h3 => ?_⟩
      · walk_at "go"
        have ev : PV.tup [.int ((t : Int) + v0 % 4), .tup [.str "lay", .tup [.int (c % 1000000000), .int (v2 % 6)]]] = Row.v ⟨t + d0, dc, d2, []⟩ := by
          rw [q0, qc, q2]; simp [Row.v, Row.dv, nvs]
        rw [ev, q0]
        exact ⟨_, t + d0, _, _, _, _, rfl, G.step ⟨t + d0, dc, d2, []⟩ ⟨by show t + d0 < _; omega, fun n hn => by simp at hn; omega, by simp⟩ (by show t ≤ t + d0; omega) (by show t + d0 ≤ t + 3; omega) (List.prefix_append _ _)⟩
      · walk_at "go"
        unfold f_law_rows_c1
        refine w_compX (List.range (1 + d4)) (fun j => .int (j : Nat)) (fun j => .int ((xs.getD (5 + j) 0 % 6).toNat : Nat)) (fun σ => ∃ x, σ = [x, some (.ref B.length)]) ?_
        walk_at "go"
        refine ⟨1 + d4, by rw [q4]; simp, by omega, by simp, lim_le (by simp; omega), ⟨_, rfl⟩, fun i B _ => item_rng _ _, ?_, fun B2 hB2 => ?_⟩
        · rintro j σ B3 hj ⟨x, rfl⟩ hp
          rw [List.mem_range] at hj
          have hxs2 := pre_get hp hxs
          have h5 : atI (xs.map PV.int) (5 + (j : Int)) = some (.int (xs.getD (5 + j) 0)) := (atl (i := 5 + (j : Int)) (by omega)).trans (by rw [show (5 + (j : Int)).toNat = 5 + j by omega])
          walk_at "go"
          refine ⟨rfl, ⟨_, rfl⟩, ?_⟩
          walk_at "go"
          exact ⟨by rw [Int.toNat_of_nonneg (Int.emod_nonneg _ (by decide))], List.prefix_refl _⟩
        · have hrow2 := pre_get hB2 (get_app_of hrow)
          generalize hch : (List.range (1 + d4)).map (fun j => (xs.getD (5 + j) 0 % 6).toNat) = ch
          have hcv : (List.range (1 + d4)).map (fun j => PV.int ((xs.getD (5 + j) 0 % 6).toNat : Nat)) = nvs ch := by rw [← hch, nvs, List.map_map]; rfl
          have hcl : ch.length = 1 + d4 := by rw [← hch]; simp
          have hce : ch ≠ [] := fun z => by rw [z] at hcl; simp at hcl; omega
          have hc6 : ∀ n ∈ ch, n < 6 := fun n hn => by
            rw [← hch] at hn
            obtain ⟨j, _, rfl⟩ := List.mem_map.mp hn
            have := Int.emod_lt_of_pos (xs.getD (5 + j) 0) (b := 6) (by decide)
            omega
          rw [hcv]
          walk_at "go"
          have ev : PV.tup [.int ((t : Int) + v0 % 4), .tup [.str "say", .tup [.int (c % 1000000000), .int (v2 % 6)], .tup (nvs ch)]] = Row.v ⟨t + d0, dc, d2, ch⟩ := by
            rw [q0, qc, q2]; simp [Row.v, Row.dv, nvs, hce]
          rw [ev, q0]
          exact ⟨_, t + d0, _, _, _, _, rfl, G.step ⟨t + d0, dc, d2, ch⟩ ⟨by show t + d0 < _; omega, fun n hn => by
            rcases List.mem_cons.mp hn with e | hn
            · rw [e]; show dc < _; omega
            · rcases List.mem_cons.mp hn with e | hn
              · rw [e]; show d2 < _; omega
              · have := hc6 n hn; omega, by show ch.length ≤ 6; omega⟩ (by show t ≤ t + d0; omega) (by show t + d0 ≤ t + 3; omega) (((List.prefix_append _ _).trans hB2).trans (List.prefix_append _ _))⟩
    · walk_at "go"
      refine ⟨fun h3 => ?_, fun h3 => ?_⟩
      · walk_at "go"
        have ev : PV.tup [.int ((t : Int) + v0 % 4), .tup [.str "lay", .tup [.int (v1 % 6), .int (v2 % 6)]]] = Row.v ⟨t + d0, d1, d2, []⟩ := by
          rw [q0, q1, q2]; simp [Row.v, Row.dv, nvs]
        rw [ev, q0]
        exact ⟨_, t + d0, _, _, _, _, rfl, G.step ⟨t + d0, d1, d2, []⟩ ⟨by show t + d0 < _; omega, fun n hn => by simp at hn; omega, by simp⟩ (by show t ≤ t + d0; omega) (by show t + d0 ≤ t + 3; omega) (List.prefix_append _ _)⟩
      · walk_at "go"
        unfold f_law_rows_c1
        refine w_compX (List.range (1 + d4)) (fun j => .int (j : Nat)) (fun j => .int ((xs.getD (5 + j) 0 % 6).toNat : Nat)) (fun σ => ∃ x, σ = [x, some (.ref B.length)]) ?_
        walk_at "go"
        refine ⟨1 + d4, by rw [q4]; simp, by omega, by simp, lim_le (by simp; omega), ⟨_, rfl⟩, fun i B _ => item_rng _ _, ?_, fun B2 hB2 => ?_⟩
        · rintro j σ B3 hj ⟨x, rfl⟩ hp
          rw [List.mem_range] at hj
          have hxs2 := pre_get hp hxs
          have h5 : atI (xs.map PV.int) (5 + (j : Int)) = some (.int (xs.getD (5 + j) 0)) := (atl (i := 5 + (j : Int)) (by omega)).trans (by rw [show (5 + (j : Int)).toNat = 5 + j by omega])
          walk_at "go"
          refine ⟨rfl, ⟨_, rfl⟩, ?_⟩
          walk_at "go"
          exact ⟨by rw [Int.toNat_of_nonneg (Int.emod_nonneg _ (by decide))], List.prefix_refl _⟩
        · have hrow2 := pre_get hB2 (get_app_of hrow)
          generalize hch : (List.range (1 + d4)).map (fun j => (xs.getD (5 + j) 0 % 6).toNat) = ch
          have hcv : (List.range (1 + d4)).map (fun j => PV.int ((xs.getD (5 + j) 0 % 6).toNat : Nat)) = nvs ch := by rw [← hch, nvs, List.map_map]; rfl
          have hcl : ch.length = 1 + d4 := by rw [← hch]; simp
          have hce : ch ≠ [] := fun z => by rw [z] at hcl; simp at hcl; omega
          have hc6 : ∀ n ∈ ch, n < 6 := fun n hn => by
            rw [← hch] at hn
            obtain ⟨j, _, rfl⟩ := List.mem_map.mp hn
            have := Int.emod_lt_of_pos (xs.getD (5 + j) 0) (b := 6) (by decide)
            omega
          rw [hcv]
          walk_at "go"
          have ev : PV.tup [.int ((t : Int) + v0 % 4), .tup [.str "say", .tup [.int (v1 % 6), .int (v2 % 6)], .tup (nvs ch)]] = Row.v ⟨t + d0, d1, d2, ch⟩ := by
            rw [q0, q1, q2]; simp [Row.v, Row.dv, nvs, hce]
          rw [ev, q0]
          exact ⟨_, t + d0, _, _, _, _, rfl, G.step ⟨t + d0, d1, d2, ch⟩ ⟨by show t + d0 < _; omega, fun n hn => by
            rcases List.mem_cons.mp hn with e | hn
            · rw [e]; show d1 < _; omega
            · rcases List.mem_cons.mp hn with e | hn
              · rw [e]; show d2 < _; omega
              · have := hc6 n hn; omega, by show ch.length ≤ 6; omega⟩ (by show t ≤ t + d0; omega) (by show t + d0 ≤ t + 3; omega) (((List.prefix_append _ _).trans hB2).trans (List.prefix_append _ _))⟩
  · rintro σ B ⟨rs, t, x, y, z, u, rfl, G⟩
    walk_at "go"
    exact ⟨_, rs, rfl, G.rows, fun r hr => (G.ok r hr).1, by rw [G.len, List.length_map]; exact hc50, ⟨fun r hr => (G.ok r hr).2.1, G.up⟩, G.pre⟩
end Ws
namespace Ws
open PySem
theorem nvs_flat (l : List Nat) : (nvs l).all flat0 = true := by unfold nvs; rw [List.all_map]; exact List.all_eq_true.mpr fun _ _ => rfl
theorem row_plain (r : Row) : plain r.v = true := by
  unfold Row.v Row.dv
  by_cases hc : r.ch = []
  · rw [if_pos hc]; rfl
  · rw [if_neg hc]
    show (true && ((true && (true && (((nvs r.ch).all flat0) && true))) && true)) = true
    rw [nvs_flat]; rfl
theorem rows_plain (rs : List Row) : plains (rs.map Row.v) = true := by
  unfold plains; rw [List.all_map]; exact List.all_eq_true.mpr fun r _ => row_plain r
theorem w_clearL {A : PHp} {Q : PV → PHp → Prop} {E : XP} {σ : PSt} {e : ED} (h : Wp (e σ) A (fun x A1 => ∃ n l, x = .ref n ∧ A1[n]? = some (.lst l) ∧ Q .non (A1.set n (.lst []))) E) : Wp (eClear e σ) A Q E :=
  w_bnd (w_mono h fun x A1 ⟨n, l, hx, hn, q⟩ => by
    subst hx
    exact w_bnd (w_mut hn (w_bnd (w_eq (a := ()) rfl q))))
theorem w_isStrS {A : PHp} {Q : PV → PHp → Prop} {E : XP} {σ : PSt} {e : ED} (h : Wp (e σ) A (fun x A1 => ∃ z, x = .str z ∧ Q (.bl true) A1) E) : Wp (eIsStr e σ) A Q E :=
  w_bnd (w_mono h fun x A1 ⟨z, hx, q⟩ => by subst hx; exact w_bnd (w_ret q))
theorem written_none {A : PHp} {k : Nat} (hk : A[k]? = some (.lst [])) : Wp (f_written_deeds [.ref k]) A (fun v A' => v = .str "" ∧ A <+: A') NoX :=
  w_mono (written_deeds_ok (rs := []) (by simp) (by simp) hk) fun v A' ⟨h1, h2⟩ => ⟨h1.trans (congrArg PV.str (by decide +kernel)), h2⟩
theorem law_pure : ∀ ns : List Int, ∃ A', f_law [.ref 0] [.ro (ns.map .int)] = .ok (.bl true) A' := fun ns => by
  suffices h : Wp (f_law [.ref 0]) [.ro (ns.map .int)] (fun v _ => v = .bl true) NoX by
    obtain ⟨v, A', h1, rfl⟩ := w_inv h
    exact ⟨A', h1⟩
  unfold f_law
  walk_at "fn"
  walk_at "go"
  refine w_mono (law_rows_ok ns (k := 0) rfl) fun v A1 ⟨m, rs, hv, hm, hok, hl, hr, hp⟩ => ?_
  subst hv
  walk_at "go"
  have hpl := rows_plain rs
  refine w_mono (written_deeds_ok hok hl (k := A1.length) get_app) fun v A2 ⟨hv, hp2⟩ => ?_
  subst hv
  have hm2 := pre_get hp2 (get_app_of hm)
  have hh2 := pre_get hp2 (get_app (A := A1) (o := .lst (rs.map Row.v)))
  walk_at "go"
  refine w_isStrS ?_
  walk_at "go"
  refine w_mono (law_text_ok hok hl hm2) fun v A3 ⟨hv, hp3⟩ => ?_
  subst hv
  have hm3 := pre_get hp3 hm2
  have hh3 := pre_get hp3 hh2
  walk_at "go"
  refine brD' rfl ?_
  walk_at "go"
  refine w_neL hh3 hm3 ⟨hpl, hpl⟩ ?_
  rw [eqvs_refl hpl]
  walk_at "go"
  refine w_mono (read_deeds_ok hok hl hr A3) fun v A4 ⟨q, hv, hq, hp4, hql⟩ => ?_
  subst hv
  have hm4 := pre_get hp4 hm3
  walk_at "go"
  refine w_neL hq hm4 ⟨hpl, hpl⟩ ?_
  rw [eqvs_refl hpl]
  walk_at "go"
  refine w_mono (law_kinds_ok hq) fun v A5 ⟨hv, hA5⟩ => ?_
  subst hv; subst hA5
  walk_at "go"
  refine w_clearL ?_
  walk_at "go"
  have hmq : m ≠ q := by have := pre_lt hm3; omega
  have hm5 : (A5.set q (.lst []))[m]? = some (.lst (rs.map Row.v)) := by rw [get_set_ne hmq]; exact hm4
  refine w_mono (read_deeds_ok hok hl hr _) fun v A6 ⟨q2, hv, hq2, hp6, _⟩ => ?_
  subst hv
  have hm6 := pre_get hp6 hm5
  walk_at "go"
  refine w_eqL hq2 hm6 ⟨hpl, hpl⟩ ?_
  rw [eqvs_refl hpl]
  walk_at "go"
  refine w_mono (read_none A6) fun v A7 ⟨q3, hv, hq3, hp7, _⟩ => ?_
  subst hv
  walk_at "go"
  refine w_eqL (get_app_of hq3) get_app ⟨rfl, rfl⟩ ?_
  rw [eqvs_refl (l := []) rfl]
  walk_at "go"
  refine w_mono (written_none (A := A7 ++ [PO.lst []] ++ [PO.lst []]) (k := (A7 ++ [PO.lst []]).length) get_app) fun v A8 ⟨hv, _⟩ => ?_
  subst hv
  walk_at "go"
  simp
end Ws
namespace Ws
open PySem
structure Glob (mg : Str → Option Value) : Prop where
  g_LAY : ∃ t, mg "LAY" = some (.str "lay" t)
  g_SAY : ∃ t, mg "SAY" = some (.str "say" t)
  g_FIGURES : ∃ t, mg "FIGURES" = some (.str "0123456789" t)
  g_MOST_FIGURES : ∃ t, mg "MOST_FIGURES" = some (.int 9 t)
section
variable {P : Program} {w : World} {K : PySem.W.Frag} {mg : Str → Option Value} {base : Heap} {cm : Nat → Addr}
noncomputable def top (i : Nat) : Stmt := PySem.Challenge.pw_wordswap_k73_deeds_written.main.body.getD i (.Pass ⟨0, 0, 0, 0⟩)
theorem sc_in_words : L2.FnScope ["word", "numbers"] ["word", "numbers"] (L2.defScope (top 8)) := ⟨rfl, rfl, rfl, by decide +kernel, rfl, by decide +kernel, by decide +kernel⟩
set_option maxHeartbeats 4000000 in
theorem ok_in_words {fa : Addr} {fd : FuncData} (B : BaseN K mg cm) (BS : mg "str" = none) (F : L2.Fun K "in_words" "in_words" (top 8) fa fd) : L2.FnOk P w K mg base L2.CX0 (1) fa fd ["word", "numbers"] (SpF K cm f_in_words 2) :=
  fn_ok F sc_in_words fun cdv A outer s0 H E hr => by
    have hu := hr.units
    have hu1 := Nat.lt_of_le_of_lt (Nat.add_le_add_left (show 1 ≤ 64 by decide) _) hu
    exact (ss_one (s_ret (r_join r_str (r_bin op_add3 ok_add (r_lst (r_cons (r_var (L2.pv 0)) r_nil)) (r_comp (N := ["number"]) [none] rfl (⟨rfl, rfl, by decide +kernel, by decide +kernel, fa_nil, (fa_cons (fun h => nomatch h) (fa_cons (fun h => nomatch h) (fa_cons (fun h => nomatch h) fa_nil)))⟩) (.own .nil) (i_seq (r_var (L2.pv 1))) (fun _ _ _ _ => (g_name (L2.pg_name (i := 0) (show List.Nodup (["number"] : List Str) from by decide +kernel) rfl (by first | exact Or.inl rfl | exact Or.inr rfl)))) (fun _ _ _ _ => ts_nil) (fun _ _ _ _ => (r_strI (r_var (L2.pv 0)) rfl BS)))))))
theorem sc_written_deed : L2.FnScope ["turn", "deed", "chain"] ["turn", "deed"] (L2.defScope (top 9)) := ⟨rfl, rfl, rfl, by decide +kernel, rfl, by decide +kernel, by decide +kernel⟩
set_option maxHeartbeats 4000000 in
theorem ok_written_deed {fa : Addr} {fd : FuncData} (B : BaseN K mg cm) (GL : Glob mg) (BS : mg "str" = none) (D_in_words : Def P w K mg base cm "in_words" 1 ["word", "numbers"] f_in_words 2) (F : L2.Fun K "written_deed" "written_deed" (top 9) fa fd) : L2.FnOk P w K mg base L2.CX0 (2) fa fd ["turn", "deed"] (SpF K cm f_written_deed 2) :=
  fn_ok F sc_written_deed fun cdv A outer s0 H E hr => by
    have hu := hr.units
    have hu1 := Nat.lt_of_le_of_lt (Nat.add_le_add_left (show 1 ≤ 64 by decide) _) hu
    exact (ss_cons (s_set (i := 2) sc_written_deed.nd rfl (.inl rfl) (r_if (r_tcmp (op_eqP hu) ok_eq (r_ix (r_var (L2.pv 1)) r_int (fun _ _ => rfl)) (r_globS rfl GL.g_SAY) (L2.nomark _)) (r_ix (r_var (L2.pv 1)) r_int (fun _ _ => rfl)) (r_tup r_nil)))
 (ss_one (s_ret (r_bin L2.op_add_str ok_addS (r_bin L2.op_add_str ok_addS (r_strI (r_var (L2.pv 0)) rfl BS) r_str) (r_callD D_in_words (by decide) hr rfl (r_cons (r_ix (r_var (L2.pv 1)) r_int (fun _ _ => rfl)) (r_cons (r_bin op_add3 ok_add (r_ix (r_var (L2.pv 1)) r_int (fun _ _ => rfl)) (r_var (L2.pv 2))) r_nil)))))))
theorem sc_written_deeds : L2.FnScope ["rows"] ["rows"] (L2.defScope (top 10)) := ⟨rfl, rfl, rfl, by decide +kernel, rfl, by decide +kernel, by decide +kernel⟩
set_option maxHeartbeats 4000000 in
theorem ok_written_deeds {fa : Addr} {fd : FuncData} (B : BaseN K mg cm) (D_written_deed : Def P w K mg base cm "written_deed" 2 ["turn", "deed"] f_written_deed 2) (F : L2.Fun K "written_deeds" "written_deeds" (top 10) fa fd) : L2.FnOk P w K mg base L2.CX0 (3) fa fd ["rows"] (SpF K cm f_written_deeds 1) :=
  fn_ok F sc_written_deeds fun cdv A outer s0 H E hr => by
    have hu := hr.units
    have hu1 := Nat.lt_of_le_of_lt (Nat.add_le_add_left (show 1 ≤ 64 by decide) _) hu
    exact (ss_one (s_ret (r_join r_str (r_comp (N := ["turn", "deed"]) [none, none] rfl (⟨rfl, rfl, by decide +kernel, by decide +kernel, fa_nil, (fa_cons (fun h => nomatch h) (fa_cons (fun h => nomatch h) (fa_cons (fun h => nomatch h) (fa_cons (fun h => nomatch h) fa_nil))))⟩) (.own (.own .nil)) (i_seq (r_var (L2.pv 0))) (fun _ _ _ _ => (g_tup rfl (g_cons (g_name (L2.pg_name (i := 0) (show List.Nodup (["turn", "deed"] : List Str) from by decide +kernel) rfl (by first | exact Or.inl rfl | exact Or.inr rfl))) (g_cons (g_name (L2.pg_name (i := 1) (show List.Nodup (["turn", "deed"] : List Str) from by decide +kernel) rfl (by first | exact Or.inl rfl | exact Or.inr rfl))) g_nil)))) (fun _ _ _ _ => ts_nil) (fun _ _ _ _ => (r_callD D_written_deed (by decide) hr rfl (r_cons (r_var (L2.pv 0)) (r_cons (r_var (L2.pv 1)) r_nil))))))))
theorem sc_is_number : L2.FnScope ["word"] ["word"] (L2.defScope (top 11)) := ⟨rfl, rfl, rfl, by decide +kernel, rfl, by decide +kernel, by decide +kernel⟩
set_option maxHeartbeats 4000000 in
theorem ok_is_number {fa : Addr} {fd : FuncData} (B : BaseN K mg cm) (GL : Glob mg) (F : L2.Fun K "is_number" "is_number" (top 11) fa fd) : L2.FnOk P w K mg base L2.CX0 (1) fa fd ["word"] (SpF K cm f_is_number 1) :=
  fn_ok F sc_is_number fun cdv A outer s0 H E hr => by
    have hu := hr.units
    have hu1 := Nat.lt_of_le_of_lt (Nat.add_le_add_left (show 1 ≤ 64 by decide) _) hu
    exact (ss_cons (s_if (L2.PW.pt (r_tor (r_tnot (r_tchain L2.op_le ok_le L2.op_le ok_le r_int (r_lenS (r_var (L2.pv 0)) rfl B.b_len) (r_glob rfl GL.g_MOST_FIGURES))) (r_tor1 (r_tnot (r_tval (r_all rfl (r_comp (N := ["sign"]) [none] rfl (⟨rfl, rfl, by decide +kernel, by decide +kernel, fa_nil, (fa_cons (fun h => nomatch h) (fa_cons (fun h => nomatch h) (fa_cons (fun h => nomatch h) fa_nil)))⟩) (.own .nil) (i_str (r_var (L2.pv 0))) (fun _ _ _ _ => (g_name (L2.pg_name (i := 0) (show List.Nodup (["sign"] : List Str) from by decide +kernel) rfl (by first | exact Or.inl rfl | exact Or.inr rfl)))) (fun _ _ _ _ => ts_nil) (fun _ _ _ _ => (r_cmp L2.op_in_str ok_inS (r_var (L2.pv 0)) (r_globS rfl GL.g_FIGURES) (by rfl)))) rfl B.b_all))))))
 (ss_one (s_ret r_bl))
 ss_nil)
 (ss_one (s_ret (r_or (r_cmp (op_eqP hu) ok_eq (r_var (L2.pv 0)) r_str (L2.nomark _)) (r_or1 (r_cmp (op_neP hu) ok_ne (r_ixS (r_var (L2.pv 0)) r_int (fun _ _ => rfl)) r_str (L2.nomark _)))))))
theorem sc_read_numbers : L2.FnScope ["words"] ["words"] (L2.defScope (top 12)) := ⟨rfl, rfl, rfl, by decide +kernel, rfl, by decide +kernel, by decide +kernel⟩
set_option maxHeartbeats 4000000 in
theorem ok_read_numbers {fa : Addr} {fd : FuncData} (B : BaseN K mg cm) (D_is_number : Def P w K mg base cm "is_number" 1 ["word"] f_is_number 1) (F : L2.Fun K "read_numbers" "read_numbers" (top 12) fa fd) : L2.FnOk P w K mg base L2.CX0 (2) fa fd ["words"] (SpF K cm f_read_numbers 1) :=
  fn_ok F sc_read_numbers fun cdv A outer s0 H E hr => by
    have hu := hr.units
    have hu1 := Nat.lt_of_le_of_lt (Nat.add_le_add_left (show 1 ≤ 64 by decide) _) hu
    exact (ss_cons (s_if (r_tnot (r_tval (r_all rfl (r_comp (N := ["word"]) [none] rfl (⟨rfl, rfl, by decide +kernel, by decide +kernel, fa_nil, (fa_cons (fun h => nomatch h) (fa_cons (fun h => nomatch h) (fa_cons (fun h => nomatch h) fa_nil)))⟩) (.own .nil) (i_seq (r_var (L2.pv 0))) (fun _ _ _ _ => (g_name (L2.pg_name (i := 0) (show List.Nodup (["word"] : List Str) from by decide +kernel) rfl (by first | exact Or.inl rfl | exact Or.inr rfl)))) (fun _ _ _ _ => ts_nil) (fun _ _ _ _ => (r_callD D_is_number (by decide) hr rfl (r_cons (r_var (L2.pv 0)) r_nil)))) rfl B.b_all)))
 (ss_one (s_ret r_non))
 ss_nil)
 (ss_one (s_ret (r_comp (N := ["word"]) [none] rfl (⟨rfl, rfl, by decide +kernel, by decide +kernel, fa_nil, (fa_cons (fun h => nomatch h) (fa_cons (fun h => nomatch h) (fa_cons (fun h => nomatch h) fa_nil)))⟩) (.own .nil) (i_seq (r_var (L2.pv 0))) (fun _ _ _ _ => (g_name (L2.pg_name (i := 0) (show List.Nodup (["word"] : List Str) from by decide +kernel) rfl (by first | exact Or.inl rfl | exact Or.inr rfl)))) (fun _ _ _ _ => ts_nil) (fun _ _ _ _ => (r_intT (r_var (L2.pv 0)) rfl B.b_int))))))
theorem sc_read_deed : L2.FnScope ["row", "words", "numbers", "passing", "chain"] ["row"] (L2.defScope (top 14)) := ⟨rfl, rfl, rfl, by decide +kernel, rfl, by decide +kernel, by decide +kernel⟩
set_option maxHeartbeats 4000000 in
theorem ok_read_deed {fa : Addr} {fd : FuncData} (B : BaseN K mg cm) (GL : Glob mg) (D_read_numbers : Def P w K mg base cm "read_numbers" 2 ["words"] f_read_numbers 1) (F : L2.Fun K "read_deed" "read_deed" (top 14) fa fd) : L2.FnOk P w K mg base L2.CX0 (3) fa fd ["row"] (SpF K cm f_read_deed 1) :=
  fn_ok F sc_read_deed fun cdv A outer s0 H E hr => by
    have hu := hr.units
    have hu1 := Nat.lt_of_le_of_lt (Nat.add_le_add_left (show 1 ≤ 64 by decide) _) hu
    exact (ss_cons (s_set (i := 1) sc_read_deed.nd rfl (.inl rfl) (r_split (r_var (L2.pv 0)) r_str))
 (ss_cons (s_set (i := 2) sc_read_deed.nd rfl (.inl rfl) (r_callD D_read_numbers (by decide) hr rfl (r_cons (r_bin op_add3 ok_add (r_cut (r_var (L2.pv 1)) r_lno (r_lat r_int)) (r_cut (r_var (L2.pv 1)) (r_lat r_int) r_lno)) r_nil)))
 (ss_cons (s_if (L2.PW.pt (r_tor (r_tisN (r_var (L2.pv 2))) (r_tor1 (r_tcmp L2.op_lt ok_lt (r_len (r_var (L2.pv 2)) rfl B.b_len) r_int (L2.nomark _)))))
 (ss_one (s_ret r_non))
 ss_nil)
 (ss_cons (s_set (i := 3) sc_read_deed.nd rfl (.inl rfl) (r_tup (r_cons (r_ix (r_var (L2.pv 2)) r_int (fun _ _ => rfl)) (r_cons (r_ix (r_var (L2.pv 2)) r_int (fun _ _ => rfl)) r_nil))))
 (ss_cons (s_set (i := 4) sc_read_deed.nd rfl (.inl rfl) (r_tupleOf (r_cut (r_var (L2.pv 2)) (r_lat r_int) r_lno) rfl B.b_tuple PyProof.Rows.boot_tuple))
 (ss_cons (s_if (L2.PW.pt (r_tand (r_tcmp (op_eqP hu) ok_eq (r_ix (r_var (L2.pv 1)) r_int (fun _ _ => rfl)) (r_globS rfl GL.g_LAY) (L2.nomark _)) (r_tand1 (r_tcmp (op_eqP hu) ok_eq (r_var (L2.pv 4)) (r_tup r_nil) (L2.nomark _)))))
 (ss_one (s_ret (r_tup (r_cons (r_ix (r_var (L2.pv 2)) r_int (fun _ _ => rfl)) (r_cons (r_tup (r_cons (r_globS rfl GL.g_LAY) (r_cons (r_var (L2.pv 3)) r_nil))) r_nil)))))
 ss_nil)
 (ss_cons (s_if (L2.PW.pt (r_tand (r_tcmp (op_eqP hu) ok_eq (r_ix (r_var (L2.pv 1)) r_int (fun _ _ => rfl)) (r_globS rfl GL.g_SAY) (L2.nomark _)) (r_tand1 (r_tcmp (op_neP hu) ok_ne (r_var (L2.pv 4)) (r_tup r_nil) (L2.nomark _)))))
 (ss_one (s_ret (r_tup (r_cons (r_ix (r_var (L2.pv 2)) r_int (fun _ _ => rfl)) (r_cons (r_tup (r_cons (r_globS rfl GL.g_SAY) (r_cons (r_var (L2.pv 3)) (r_cons (r_var (L2.pv 4)) r_nil)))) r_nil)))))
 ss_nil)
 (ss_one (s_ret r_non)))))))))
theorem sc_read_deeds : L2.FnScope ["text", "rows", "least_turn", "at", "row", "read"] ["text"] (L2.defScope (top 13)) := ⟨rfl, rfl, rfl, by decide +kernel, rfl, by decide +kernel, by decide +kernel⟩
set_option maxHeartbeats 4000000 in
theorem ok_read_deeds {fa : Addr} {fd : FuncData} (B : BaseN K mg cm) (D_read_deed : Def P w K mg base cm "read_deed" 3 ["row"] f_read_deed 1) (F : L2.Fun K "read_deeds" "read_deeds" (top 13) fa fd) : L2.FnOk P w K mg base L2.CX0 (4) fa fd ["text"] (SpF K cm f_read_deeds 1) :=
  fn_ok F sc_read_deeds fun cdv A outer s0 H E hr => by
    have hu := hr.units
    have hu1 := Nat.lt_of_le_of_lt (Nat.add_le_add_left (show 1 ≤ 64 by decide) _) hu
    exact (ss_cons (s_if (r_tcmp (op_eqP hu) ok_eq (r_var (L2.pv 0)) r_str (L2.nomark _))
 (ss_one (s_ret (r_lst r_nil)))
 ss_nil)
 (ss_cons (s_set (i := 1) sc_read_deeds.nd rfl (.inl rfl) (r_lst r_nil))
 (ss_cons (s_set (i := 2) sc_read_deeds.nd rfl (.inl rfl) r_int)
 (ss_cons (s_for PassesOwn.never rfl (i_enk (k := 1) (by decide) rfl B.b_enumerate (r_split (r_var (L2.pv 0)) r_str) r_int) (g_tup rfl (g_cons (g_name (L2.pg_name (i := 3) sc_read_deeds.nd rfl (.inl rfl))) (g_cons (g_name (L2.pg_name (i := 4) sc_read_deeds.nd rfl (.inl rfl))) g_nil)))
 (ss_cons (s_set (i := 5) sc_read_deeds.nd rfl (.inl rfl) (r_callD D_read_deed (by decide) hr rfl (r_cons (r_var (L2.pv 4)) r_nil)))
 (ss_cons (s_if (L2.PW.pt (r_tor (r_tisN (r_var (L2.pv 5))) (r_tor1 (r_tcmp L2.op_lt ok_lt (r_ix (r_var (L2.pv 5)) r_int (fun _ _ => rfl)) (r_var (L2.pv 2)) (L2.nomark _)))))
 (ss_one s_never)
 ss_nil)
 (ss_cons (s_set (i := 2) sc_read_deeds.nd rfl (.inl rfl) (r_ix (r_var (L2.pv 5)) r_int (fun _ _ => rfl)))
 (ss_one (s_expr (r_append (r_var (L2.pv 1)) (r_var (L2.pv 5)))))))))
 (ss_one (s_ret (r_var (L2.pv 1))))))))
theorem sc_law_stream : L2.FnScope ["_law_cell", "_law_size", "_law_found", "_law_digits", "_law_k", "_law_number"] ["_law_cell", "_law_size"] (L2.defScope (top 17)) := ⟨rfl, rfl, rfl, by decide +kernel, rfl, by decide +kernel, by decide +kernel⟩
set_option maxHeartbeats 4000000 in
theorem ok_law_stream {fa : Addr} {fd : FuncData} (B : BaseN K mg cm) (F : L2.Fun K "_law_stream" "_law_stream" (top 17) fa fd) : L2.FnOk P w K mg base L2.CX0 (1) fa fd ["_law_cell", "_law_size"] (SpF K cm f_law_stream 2) :=
  fn_ok F sc_law_stream fun cdv A outer s0 H E hr => by
    have hu := hr.units
    have hu1 := Nat.lt_of_le_of_lt (Nat.add_le_add_left (show 1 ≤ 64 by decide) _) hu
    exact (ss_cons (s_set (i := 2) sc_law_stream.nd rfl (.inl rfl) (r_lst r_nil))
 (ss_cons (s_if (r_tcmp (op_eqP hu) ok_eq (r_bin L2.op_mod ok_mod (r_var (L2.pv 0)) r_int) r_int (L2.nomark _))
 (ss_cons (s_set (i := 3) sc_law_stream.nd rfl (.inl rfl) (r_bin L2.op_fdiv ok_fdiv (r_var (L2.pv 0)) r_int))
 (ss_cons (s_for PassesOwn.never rfl (i_rng1 rfl B.b_range (r_var (L2.pv 1))) (g_name (L2.pg_name (i := 4) sc_law_stream.nd rfl (.inl rfl)))
 (ss_cons (s_expr (r_append (r_var (L2.pv 2)) (r_bin L2.op_mod ok_mod (r_var (L2.pv 3)) r_int)))
 (ss_one (s_set (i := 3) sc_law_stream.nd rfl (.inl rfl) (r_bin L2.op_fdiv ok_fdiv (r_var (L2.pv 3)) r_int)))))
 (ss_one (s_ret (r_var (L2.pv 2))))))
 ss_nil)
 (ss_cons (s_set (i := 5) sc_law_stream.nd rfl (.inl rfl) (r_bin L2.op_mod ok_mod (r_bin op_add3 ok_add (r_bin L2.op_mul ok_mul (r_var (L2.pv 0)) r_int) r_int) r_int))
 (ss_cons (s_for PassesOwn.never rfl (i_rng1 rfl B.b_range (r_var (L2.pv 1))) (g_name (L2.pg_name (i := 4) sc_law_stream.nd rfl (.inl rfl)))
 (ss_cons (s_set (i := 5) sc_law_stream.nd rfl (.inl rfl) (r_bin L2.op_mod ok_mod (r_bin op_add3 ok_add (r_bin op_add3 ok_add (r_bin L2.op_mul ok_mul (r_var (L2.pv 5)) (r_bin op_add3 ok_add (r_bin L2.op_fdiv ok_fdiv (r_var (L2.pv 5)) r_int) r_int)) (r_var (L2.pv 4))) r_int) r_int))
 (ss_one (s_expr (r_append (r_var (L2.pv 2)) (r_var (L2.pv 5)))))))
 (ss_one (s_ret (r_var (L2.pv 2))))))))
theorem sc_law_rows : L2.FnScope ["_law_script", "_law_found", "_law_turn", "_law_cell", "_law_xs", "_law_passing", "_law_chain"] ["_law_script"] (L2.defScope (top 18)) := ⟨rfl, rfl, rfl, by decide +kernel, rfl, by decide +kernel, by decide +kernel⟩
set_option maxHeartbeats 4000000 in
theorem ok_law_rows {fa : Addr} {fd : FuncData} (B : BaseN K mg cm) (D_law_stream : Def P w K mg base cm "_law_stream" 1 ["_law_cell", "_law_size"] f_law_stream 2) (F : L2.Fun K "_law_rows" "_law_rows" (top 18) fa fd) : L2.FnOk P w K mg base L2.CX0 (2) fa fd ["_law_script"] (SpF K cm f_law_rows 1) :=
  fn_ok F sc_law_rows fun cdv A outer s0 H E hr => by
    have hu := hr.units
    have hu1 := Nat.lt_of_le_of_lt (Nat.add_le_add_left (show 1 ≤ 64 by decide) _) hu
    exact (ss_cons (s_set (i := 1) sc_law_rows.nd rfl (.inl rfl) (r_lst r_nil))
 (ss_cons (s_set (i := 2) sc_law_rows.nd rfl (.inl rfl) r_int)
 (ss_cons (s_for PassesOwn.never rfl (i_seq (r_cut (r_var (L2.pv 0)) (r_lat r_int) (r_lat r_int))) (g_name (L2.pg_name (i := 3) sc_law_rows.nd rfl (.inl rfl)))
 (ss_cons (s_set (i := 4) sc_law_rows.nd rfl (.inr rfl) (r_callD D_law_stream (by decide) hr rfl (r_cons (r_var (L2.pv 3)) (r_cons r_int r_nil))))
 (ss_cons (s_set (i := 2) sc_law_rows.nd rfl (.inl rfl) (r_bin op_add3 ok_add (r_var (L2.pv 2)) (r_bin L2.op_mod ok_mod (r_ix (r_var (L2.pv 4)) r_int (fun _ _ => rfl)) r_int)))
 (ss_cons (s_set (i := 5) sc_law_rows.nd rfl (.inl rfl) (r_tup (r_cons (r_bin L2.op_mod ok_mod (r_ix (r_var (L2.pv 4)) r_int (fun _ _ => rfl)) r_int) (r_cons (r_bin L2.op_mod ok_mod (r_ix (r_var (L2.pv 4)) r_int (fun _ _ => rfl)) r_int) r_nil))))
 (ss_cons (s_if (r_tcmp (op_eqP hu) ok_eq (r_bin L2.op_mod ok_mod (r_ix (r_var (L2.pv 4)) r_int (fun _ _ => rfl)) r_int) r_int (L2.nomark _))
 (ss_one (s_set (i := 5) sc_law_rows.nd rfl (.inl rfl) (r_tup (r_cons (r_bin L2.op_mod ok_mod (r_var (L2.pv 3)) (r_bin L2.op_pow ok_pow r_int r_int)) (r_cons (r_bin L2.op_mod ok_mod (r_ix (r_var (L2.pv 4)) r_int (fun _ _ => rfl)) r_int) r_nil)))))
 ss_nil)
 (ss_one (s_if (r_tcmp (op_eqP hu) ok_eq (r_bin L2.op_mod ok_mod (r_ix (r_var (L2.pv 4)) r_int (fun _ _ => rfl)) r_int) r_int (L2.nomark _))
 (ss_one (s_expr (r_append (r_var (L2.pv 1)) (r_tup (r_cons (r_var (L2.pv 2)) (r_cons (r_tup (r_cons r_str (r_cons (r_var (L2.pv 5)) r_nil))) r_nil))))))
 (ss_cons (s_set (i := 6) sc_law_rows.nd rfl (.inl rfl) (r_tupleOf (r_comp (N := ["_law_k", "_law_xs"]) [none, some 4] rfl (⟨rfl, rfl, by decide +kernel, by decide +kernel, (fa_cons rfl fa_nil), (fa_cons (fun h => nomatch h) (fa_cons (fun h => nomatch h) (fa_cons (fun _ => rfl) fa_nil)))⟩) (.own (.free rfl (by first | exact Or.inl rfl | exact Or.inr rfl) (by first | exact Or.inl rfl | exact Or.inr (Or.inl rfl) | exact Or.inr (Or.inr rfl)) rfl (by first | exact Or.inl rfl | exact Or.inr rfl) .nil)) (i_rng1 rfl B.b_range (r_bin op_add3 ok_add r_int (r_bin L2.op_mod ok_mod (r_bin L2.op_fdiv ok_fdiv (r_ix (r_var (L2.pv 4)) r_int (fun _ _ => rfl)) r_int) r_int))) (fun _ _ _ _ => (g_name (L2.pg_name (i := 0) (show List.Nodup (["_law_k", "_law_xs"] : List Str) from by decide +kernel) rfl (by first | exact Or.inl rfl | exact Or.inr rfl)))) (fun _ _ _ _ => ts_nil) (fun _ _ _ _ => (r_bin L2.op_mod ok_mod (r_ix (r_var (L2.pv 1)) (r_bin op_add3 ok_add r_int (r_var (L2.pv 0))) (fun _ _ => rfl)) r_int))) rfl B.b_tuple PyProof.Rows.boot_tuple))
 (ss_one (s_expr (r_append (r_var (L2.pv 1)) (r_tup (r_cons (r_var (L2.pv 2)) (r_cons (r_tup (r_cons r_str (r_cons (r_var (L2.pv 5)) (r_cons (r_var (L2.pv 6)) r_nil)))) r_nil))))))))))))))
 (ss_one (s_ret (r_var (L2.pv 1)))))))
theorem sc_law_text : L2.FnScope ["_law_rows_here", "_law_found", "_law_turn", "_law_deed", "_law_words"] ["_law_rows_here"] (L2.defScope (top 19)) := ⟨rfl, rfl, rfl, by decide +kernel, rfl, by decide +kernel, by decide +kernel⟩
set_option maxHeartbeats 4000000 in
theorem ok_law_text {fa : Addr} {fd : FuncData} (B : BaseN K mg cm) (BS : mg "str" = none) (F : L2.Fun K "_law_text" "_law_text" (top 19) fa fd) : L2.FnOk P w K mg base L2.CX0 (1) fa fd ["_law_rows_here"] (SpF K cm f_law_text 1) :=
  fn_ok F sc_law_text fun cdv A outer s0 H E hr => by
    have hu := hr.units
    have hu1 := Nat.lt_of_le_of_lt (Nat.add_le_add_left (show 1 ≤ 64 by decide) _) hu
    exact (ss_cons (s_set (i := 1) sc_law_text.nd rfl (.inl rfl) (r_lst r_nil))
 (ss_cons (s_for PassesOwn.never rfl (i_seq (r_var (L2.pv 0))) (g_tup rfl (g_cons (g_name (L2.pg_name (i := 2) sc_law_text.nd rfl (.inl rfl))) (g_cons (g_name (L2.pg_name (i := 3) sc_law_text.nd rfl (.inl rfl))) g_nil)))
 (ss_cons (s_set (i := 4) sc_law_text.nd rfl (.inl rfl) (r_lst (r_cons (r_strI (r_var (L2.pv 2)) rfl BS) (r_cons (r_ix (r_var (L2.pv 3)) r_int (fun _ _ => rfl)) (r_cons (r_strI (r_ix (r_ix (r_var (L2.pv 3)) r_int (fun _ _ => rfl)) r_int (fun _ _ => rfl)) rfl BS) (r_cons (r_strI (r_ix (r_ix (r_var (L2.pv 3)) r_int (fun _ _ => rfl)) r_int (fun _ _ => rfl)) rfl BS) r_nil))))))
 (ss_cons (s_if (r_tcmp (op_eqP hu) ok_eq (r_ix (r_var (L2.pv 3)) r_int (fun _ _ => rfl)) r_str (L2.nomark _))
 (ss_one (s_set (i := 4) sc_law_text.nd rfl (.inl rfl) (r_bin op_add3 ok_add (r_var (L2.pv 4)) (r_comp (N := ["_law_hand"]) [none] rfl (⟨rfl, rfl, by decide +kernel, by decide +kernel, fa_nil, (fa_cons (fun h => nomatch h) (fa_cons (fun h => nomatch h) (fa_cons (fun h => nomatch h) fa_nil)))⟩) (.own .nil) (i_seq (r_ix (r_var (L2.pv 3)) r_int (fun _ _ => rfl))) (fun _ _ _ _ => (g_name (L2.pg_name (i := 0) (show List.Nodup (["_law_hand"] : List Str) from by decide +kernel) rfl (by first | exact Or.inl rfl | exact Or.inr rfl)))) (fun _ _ _ _ => ts_nil) (fun _ _ _ _ => (r_strI (r_var (L2.pv 0)) rfl BS))))))
 ss_nil)
 (ss_one (s_expr (r_append (r_var (L2.pv 1)) (r_join r_str (r_var (L2.pv 4)))))))))
 (ss_one (s_ret (r_join r_str (r_var (L2.pv 1)))))))
theorem sc_law_kinds : L2.FnScope ["_law_found", "_law_row"] ["_law_found"] (L2.defScope (top 20)) := ⟨rfl, rfl, rfl, by decide +kernel, rfl, by decide +kernel, by decide +kernel⟩
set_option maxHeartbeats 4000000 in
theorem ok_law_kinds {fa : Addr} {fd : FuncData} (B : BaseN K mg cm) (F : L2.Fun K "_law_kinds" "_law_kinds" (top 20) fa fd) : L2.FnOk P w K mg base L2.CX0 (1) fa fd ["_law_found"] (SpF K cm f_law_kinds 1) :=
  fn_ok F sc_law_kinds fun cdv A outer s0 H E hr => by
    have hu := hr.units
    have hu1 := Nat.lt_of_le_of_lt (Nat.add_le_add_left (show 1 ≤ 64 by decide) _) hu
    exact (ss_cons (s_for PassesOwn.never rfl (i_seq (r_var (L2.pv 0))) (g_name (L2.pg_name (i := 1) sc_law_kinds.nd rfl (.inl rfl)))
 (ss_cons (s_if (L2.PW.pt (r_tor (r_tnot (r_tval (r_isA (t := .tuple) B.kit (r_var (L2.pv 1)) rfl B.b_isinstance rfl B.b_tuple PyProof.Rows.boot_tuple))) (r_tor (r_tnot (r_tval (r_isA (t := .tuple) B.kit (r_ix (r_var (L2.pv 1)) r_int (fun _ _ => rfl)) rfl B.b_isinstance rfl B.b_tuple PyProof.Rows.boot_tuple))) (r_tor1 (r_tnot (r_tval (r_isA (t := .tuple) B.kit (r_ix (r_ix (r_var (L2.pv 1)) r_int (fun _ _ => rfl)) r_int (fun _ _ => rfl)) rfl B.b_isinstance rfl B.b_tuple PyProof.Rows.boot_tuple)))))))
 (ss_one (s_ret r_bl))
 ss_nil)
 (ss_one (s_if (L2.PW.pt (r_tand (r_tcmp (op_eqP hu) ok_eq (r_ix (r_ix (r_var (L2.pv 1)) r_int (fun _ _ => rfl)) r_int (fun _ _ => rfl)) r_str (L2.nomark _)) (r_tand1 (r_tnot (r_tval (r_isA (t := .tuple) B.kit (r_ix (r_ix (r_var (L2.pv 1)) r_int (fun _ _ => rfl)) r_int (fun _ _ => rfl)) rfl B.b_isinstance rfl B.b_tuple PyProof.Rows.boot_tuple))))))
 (ss_one (s_ret r_bl))
 ss_nil))))
 (ss_one (s_ret r_bl)))
theorem sc_law : L2.FnScope ["_law_script", "_law_rows_here", "_law_handed", "_law_text_here", "_law_found"] ["_law_script"] (L2.defScope (top 21)) := ⟨rfl, rfl, rfl, by decide +kernel, rfl, by decide +kernel, by decide +kernel⟩
set_option maxHeartbeats 4000000 in
theorem ok_law {fa : Addr} {fd : FuncData} (B : BaseN K mg cm) (BS : mg "str" = none) (D_law_rows : Def P w K mg base cm "_law_rows" 2 ["_law_script"] f_law_rows 1) (D_written_deeds : Def P w K mg base cm "written_deeds" 3 ["rows"] f_written_deeds 1) (D_law_text : Def P w K mg base cm "_law_text" 1 ["_law_rows_here"] f_law_text 1) (D_read_deeds : Def P w K mg base cm "read_deeds" 4 ["text"] f_read_deeds 1) (D_law_kinds : Def P w K mg base cm "_law_kinds" 1 ["_law_found"] f_law_kinds 1) (F : L2.Fun K "law" "law" (top 21) fa fd) : L2.FnOk P w K mg base L2.CX0 (5) fa fd ["_law_script"] (SpF K cm f_law 1) :=
  fn_ok F sc_law fun cdv A outer s0 H E hr => by
    have hu := hr.units
    have hu1 := Nat.lt_of_le_of_lt (Nat.add_le_add_left (show 1 ≤ 64 by decide) _) hu
    exact (ss_cons (s_set (i := 1) sc_law.nd rfl (.inl rfl) (r_callD D_law_rows (by decide) hr rfl (r_cons (r_var (L2.pv 0)) r_nil)))
 (ss_cons (s_set (i := 2) sc_law.nd rfl (.inl rfl) (r_listOf (r_var (L2.pv 1)) rfl B.b_list PyProof.Rows.boot_list))
 (ss_cons (s_set (i := 3) sc_law.nd rfl (.inl rfl) (r_callD D_written_deeds (by decide) hr rfl (r_cons (r_var (L2.pv 2)) r_nil)))
 (ss_cons (s_if (L2.PW.pt (r_tor (r_tnot (r_tval (r_isStr (r_var (L2.pv 3)) rfl B.b_isinstance rfl BS))) (r_tor (r_tcmp (op_neP hu) ok_ne (r_var (L2.pv 3)) (r_callD D_law_text (by decide) hr rfl (r_cons (r_var (L2.pv 1)) r_nil)) (L2.nomark _)) (r_tor1 (r_tcmp (op_neP hu) ok_ne (r_var (L2.pv 2)) (r_var (L2.pv 1)) (L2.nomark _))))))
 (ss_one (s_ret r_bl))
 ss_nil)
 (ss_cons (s_set (i := 4) sc_law.nd rfl (.inl rfl) (r_callD D_read_deeds (by decide) hr rfl (r_cons (r_var (L2.pv 3)) r_nil)))
 (ss_cons (s_if (L2.PW.pt (r_tor (r_tnot (r_tval (r_isA (t := .list) B.kit (r_var (L2.pv 4)) rfl B.b_isinstance rfl B.b_list PyProof.Rows.boot_list))) (r_tor (r_tcmp (op_neP hu) ok_ne (r_var (L2.pv 4)) (r_var (L2.pv 1)) (L2.nomark _)) (r_tor1 (r_tnot (r_tval (r_callD D_law_kinds (by decide) hr rfl (r_cons (r_var (L2.pv 4)) r_nil))))))))
 (ss_one (s_ret r_bl))
 ss_nil)
 (ss_cons (s_expr (r_clear (r_var (L2.pv 4))))
 (ss_one (s_ret (r_and (r_cmp (op_eqP hu) ok_eq (r_callD D_read_deeds (by decide) hr rfl (r_cons (r_var (L2.pv 3)) r_nil)) (r_var (L2.pv 1)) (L2.nomark _)) (r_and (r_cmp (op_eqP hu) ok_eq (r_callD D_read_deeds (by decide) hr rfl (r_cons r_str r_nil)) (r_lst r_nil) (L2.nomark _)) (r_and1 (r_cmp (op_eqP hu) ok_eq (r_callD D_written_deeds (by decide) hr rfl (r_cons (r_lst r_nil) r_nil)) r_str (L2.nomark _))))))))))))))
end
theorem all_mk {l : PySem.W.OpenLaw} {w : World} {K : PySem.W.Frag} {h : Heap} {mg : Str → Option Value} {fa : Addr} (X : K.In h) (G : h.Ns mainGlobals mg) (hfa : mg "law" = some (.ref fa))
  {f0 : Addr} {od0 an0 : Option Addr} {sl0 : Array (Option Value)} {oc0 kV0 dc0 pm0 cd0 ct0 : Value}
  {f1 : Addr} {od1 an1 : Option Addr} {sl1 : Array (Option Value)} {oc1 kV1 dc1 pm1 cd1 ct1 : Value}
  {f2 : Addr} {od2 an2 : Option Addr} {sl2 : Array (Option Value)} {oc2 kV2 dc2 pm2 cd2 ct2 : Value}
  {f3 : Addr} {od3 an3 : Option Addr} {sl3 : Array (Option Value)} {oc3 kV3 dc3 pm3 cd3 ct3 : Value}
  {f4 : Addr} {od4 an4 : Option Addr} {sl4 : Array (Option Value)} {oc4 kV4 dc4 pm4 cd4 ct4 : Value}
  {f5 : Addr} {od5 an5 : Option Addr} {sl5 : Array (Option Value)} {oc5 kV5 dc5 pm5 cd5 ct5 : Value}
  {f6 : Addr} {od6 an6 : Option Addr} {sl6 : Array (Option Value)} {oc6 kV6 dc6 pm6 cd6 ct6 : Value}
  {f7 : Addr} {od7 an7 : Option Addr} {sl7 : Array (Option Value)} {oc7 kV7 dc7 pm7 cd7 ct7 : Value}
  {f8 : Addr} {od8 an8 : Option Addr} {sl8 : Array (Option Value)} {oc8 kV8 dc8 pm8 cd8 ct8 : Value}
  {f9 : Addr} {od9 an9 : Option Addr} {sl9 : Array (Option Value)} {oc9 kV9 dc9 pm9 cd9 ct9 : Value}
  {f10 : Addr} {od10 an10 : Option Addr} {sl10 : Array (Option Value)} {oc10 kV10 dc10 pm10 cd10 ct10 : Value}
  {f11 : Addr} {od11 an11 : Option Addr} {sl11 : Array (Option Value)} {oc11 kV11 dc11 pm11 cd11 ct11 : Value}
  {t_LAY : Tok}
  {t_SAY : Tok}
  {t_FIGURES : Tok}
  {t_MOST_FIGURES : Tok}
  (a0 : PySem.W.nsIn K mainGlobals "_law_stream" = some (some (.ref f0)))
  (l0 : K.lookup f0 = some ⟨oc0, od0, .func (PySem.W.fnOf "_law_stream" "_law_stream" (L2.defArgs (top 17)) (L2.defBody (top 17)) (L2.defScope (top 17)) .none kV0 dc0 pm0 an0 cd0 ct0), sl0⟩)
  (c0 : PySem.W.codeIn K cd0 "_law_stream" = true)
  (k0 : PySem.W.keepIn K (.ref f0) = true)
  (a1 : PySem.W.nsIn K mainGlobals "_law_rows" = some (some (.ref f1)))
  (l1 : K.lookup f1 = some ⟨oc1, od1, .func (PySem.W.fnOf "_law_rows" "_law_rows" (L2.defArgs (top 18)) (L2.defBody (top 18)) (L2.defScope (top 18)) .none kV1 dc1 pm1 an1 cd1 ct1), sl1⟩)
  (c1 : PySem.W.codeIn K cd1 "_law_rows" = true)
  (k1 : PySem.W.keepIn K (.ref f1) = true)
  (a2 : PySem.W.nsIn K mainGlobals "in_words" = some (some (.ref f2)))
  (l2 : K.lookup f2 = some ⟨oc2, od2, .func (PySem.W.fnOf "in_words" "in_words" (L2.defArgs (top 8)) (L2.defBody (top 8)) (L2.defScope (top 8)) .none kV2 dc2 pm2 an2 cd2 ct2), sl2⟩)
  (c2 : PySem.W.codeIn K cd2 "in_words" = true)
  (k2 : PySem.W.keepIn K (.ref f2) = true)
  (a3 : PySem.W.nsIn K mainGlobals "written_deed" = some (some (.ref f3)))
  (l3 : K.lookup f3 = some ⟨oc3, od3, .func (PySem.W.fnOf "written_deed" "written_deed" (L2.defArgs (top 9)) (L2.defBody (top 9)) (L2.defScope (top 9)) .none kV3 dc3 pm3 an3 cd3 ct3), sl3⟩)
  (c3 : PySem.W.codeIn K cd3 "written_deed" = true)
  (k3 : PySem.W.keepIn K (.ref f3) = true)
  (a4 : PySem.W.nsIn K mainGlobals "written_deeds" = some (some (.ref f4)))
  (l4 : K.lookup f4 = some ⟨oc4, od4, .func (PySem.W.fnOf "written_deeds" "written_deeds" (L2.defArgs (top 10)) (L2.defBody (top 10)) (L2.defScope (top 10)) .none kV4 dc4 pm4 an4 cd4 ct4), sl4⟩)
  (c4 : PySem.W.codeIn K cd4 "written_deeds" = true)
  (k4 : PySem.W.keepIn K (.ref f4) = true)
  (a5 : PySem.W.nsIn K mainGlobals "_law_text" = some (some (.ref f5)))
  (l5 : K.lookup f5 = some ⟨oc5, od5, .func (PySem.W.fnOf "_law_text" "_law_text" (L2.defArgs (top 19)) (L2.defBody (top 19)) (L2.defScope (top 19)) .none kV5 dc5 pm5 an5 cd5 ct5), sl5⟩)
  (c5 : PySem.W.codeIn K cd5 "_law_text" = true)
  (k5 : PySem.W.keepIn K (.ref f5) = true)
  (a6 : PySem.W.nsIn K mainGlobals "is_number" = some (some (.ref f6)))
  (l6 : K.lookup f6 = some ⟨oc6, od6, .func (PySem.W.fnOf "is_number" "is_number" (L2.defArgs (top 11)) (L2.defBody (top 11)) (L2.defScope (top 11)) .none kV6 dc6 pm6 an6 cd6 ct6), sl6⟩)
  (c6 : PySem.W.codeIn K cd6 "is_number" = true)
  (k6 : PySem.W.keepIn K (.ref f6) = true)
  (a7 : PySem.W.nsIn K mainGlobals "read_numbers" = some (some (.ref f7)))
  (l7 : K.lookup f7 = some ⟨oc7, od7, .func (PySem.W.fnOf "read_numbers" "read_numbers" (L2.defArgs (top 12)) (L2.defBody (top 12)) (L2.defScope (top 12)) .none kV7 dc7 pm7 an7 cd7 ct7), sl7⟩)
  (c7 : PySem.W.codeIn K cd7 "read_numbers" = true)
  (k7 : PySem.W.keepIn K (.ref f7) = true)
  (a8 : PySem.W.nsIn K mainGlobals "read_deed" = some (some (.ref f8)))
  (l8 : K.lookup f8 = some ⟨oc8, od8, .func (PySem.W.fnOf "read_deed" "read_deed" (L2.defArgs (top 14)) (L2.defBody (top 14)) (L2.defScope (top 14)) .none kV8 dc8 pm8 an8 cd8 ct8), sl8⟩)
  (c8 : PySem.W.codeIn K cd8 "read_deed" = true)
  (k8 : PySem.W.keepIn K (.ref f8) = true)
  (a9 : PySem.W.nsIn K mainGlobals "read_deeds" = some (some (.ref f9)))
  (l9 : K.lookup f9 = some ⟨oc9, od9, .func (PySem.W.fnOf "read_deeds" "read_deeds" (L2.defArgs (top 13)) (L2.defBody (top 13)) (L2.defScope (top 13)) .none kV9 dc9 pm9 an9 cd9 ct9), sl9⟩)
  (c9 : PySem.W.codeIn K cd9 "read_deeds" = true)
  (k9 : PySem.W.keepIn K (.ref f9) = true)
  (a10 : PySem.W.nsIn K mainGlobals "_law_kinds" = some (some (.ref f10)))
  (l10 : K.lookup f10 = some ⟨oc10, od10, .func (PySem.W.fnOf "_law_kinds" "_law_kinds" (L2.defArgs (top 20)) (L2.defBody (top 20)) (L2.defScope (top 20)) .none kV10 dc10 pm10 an10 cd10 ct10), sl10⟩)
  (c10 : PySem.W.codeIn K cd10 "_law_kinds" = true)
  (k10 : PySem.W.keepIn K (.ref f10) = true)
  (a11 : PySem.W.nsIn K mainGlobals "law" = some (some (.ref f11)))
  (l11 : K.lookup f11 = some ⟨oc11, od11, .func (PySem.W.fnOf "law" "law" (L2.defArgs (top 21)) (L2.defBody (top 21)) (L2.defScope (top 21)) .none kV11 dc11 pm11 an11 cd11 ct11), sl11⟩)
  (c11 : PySem.W.codeIn K cd11 "law" = true)
  (k11 : PySem.W.keepIn K (.ref f11) = true)
  (g_LAY : PySem.W.nsIn K mainGlobals "LAY" = some (some (.str "lay" t_LAY)))
  (g_SAY : PySem.W.nsIn K mainGlobals "SAY" = some (some (.str "say" t_SAY)))
  (g_FIGURES : PySem.W.nsIn K mainGlobals "FIGURES" = some (some (.str "0123456789" t_FIGURES)))
  (g_MOST_FIGURES : PySem.W.nsIn K mainGlobals "MOST_FIGURES" = some (some (.int 9 t_MOST_FIGURES)))
  (z_str : PySem.W.nsIn K mainGlobals "str" = some none)
  (z_len : PySem.W.nsIn K mainGlobals "len" = some none)
  (z_range : PySem.W.nsIn K mainGlobals "range" = some none)
  (z_list : PySem.W.nsIn K mainGlobals "list" = some none)
  (z_sorted : PySem.W.nsIn K mainGlobals "sorted" = some none)
  (z_isinstance : PySem.W.nsIn K mainGlobals "isinstance" = some none)
  (z_int : PySem.W.nsIn K mainGlobals "int" = some none)
  (z_bool : PySem.W.nsIn K mainGlobals "bool" = some none)
  (z_tuple : PySem.W.nsIn K mainGlobals "tuple" = some none)
  (z_enumerate : PySem.W.nsIn K mainGlobals "enumerate" = some none)
  (z_reversed : PySem.W.nsIn K mainGlobals "reversed" = some none)
  (z_max : PySem.W.nsIn K mainGlobals "max" = some none)
  (z_min : PySem.W.nsIn K mainGlobals "min" = some none)
  (z_all : PySem.W.nsIn K mainGlobals "all" = some none)
  (z_any : PySem.W.nsIn K mainGlobals "any" = some none)
  (z_set : PySem.W.nsIn K mainGlobals "set" = some none)
  (z_zip : PySem.W.nsIn K mainGlobals "zip" = some none)
  (z_dict : PySem.W.nsIn K mainGlobals "dict" = some none) :
  ∃ fd : FuncData, (∀ (s : Shared) (v : Value), BindsTo s fd ⟨[v], []⟩ [("_law_script", v)]) ∧ ∀ base : Heap, K.In base → base.Ns mainGlobals mg → L2.FnOk l.prog w K mg base L2.CX0 5 fa fd ["_law_script"] (SpLaw K) := by
  have e := hfa.symm.trans (PySem.W.mg_of X G a11)
  cases e
  have B : BaseN K mg (fun _ => 0) := by
    exact ⟨kit_all K, PySem.W.mg_none_of X G z_len, PySem.W.mg_none_of X G z_range, PySem.W.mg_none_of X G z_list, PySem.W.mg_none_of X G z_sorted, PySem.W.mg_none_of X G z_isinstance, PySem.W.mg_none_of X G z_int, PySem.W.mg_none_of X G z_bool, PySem.W.mg_none_of X G z_tuple, PySem.W.mg_none_of X G z_enumerate, PySem.W.mg_none_of X G z_reversed, PySem.W.mg_none_of X G z_max, PySem.W.mg_none_of X G z_min, PySem.W.mg_none_of X G z_all, PySem.W.mg_none_of X G z_any, PySem.W.mg_none_of X G z_set, PySem.W.mg_none_of X G z_zip, PySem.W.mg_none_of X G z_dict⟩
  have GL : Glob mg := ⟨⟨_, PySem.W.mg_of X G g_LAY⟩, ⟨_, PySem.W.mg_of X G g_SAY⟩, ⟨_, PySem.W.mg_of X G g_FIGURES⟩, ⟨_, PySem.W.mg_of X G g_MOST_FIGURES⟩⟩
  have F0 := L2.fun_mk (st := (top 17)) l0 c0 k0
  have b0 := F0.binds (ps := ["_law_cell", "_law_size"]) fun _ _ _ _ _ _ us hl => match us, hl with | [_, _], _ => rfl
  have F1 := L2.fun_mk (st := (top 18)) l1 c1 k1
  have b1 := F1.binds (ps := ["_law_script"]) fun _ _ _ _ _ _ us hl => match us, hl with | [_], _ => rfl
  have F2 := L2.fun_mk (st := (top 8)) l2 c2 k2
  have b2 := F2.binds (ps := ["word", "numbers"]) fun _ _ _ _ _ _ us hl => match us, hl with | [_, _], _ => rfl
  have F3 := L2.fun_mk (st := (top 9)) l3 c3 k3
  have b3 := F3.binds (ps := ["turn", "deed"]) fun _ _ _ _ _ _ us hl => match us, hl with | [_, _], _ => rfl
  have F4 := L2.fun_mk (st := (top 10)) l4 c4 k4
  have b4 := F4.binds (ps := ["rows"]) fun _ _ _ _ _ _ us hl => match us, hl with | [_], _ => rfl
  have F5 := L2.fun_mk (st := (top 19)) l5 c5 k5
  have b5 := F5.binds (ps := ["_law_rows_here"]) fun _ _ _ _ _ _ us hl => match us, hl with | [_], _ => rfl
  have F6 := L2.fun_mk (st := (top 11)) l6 c6 k6
  have b6 := F6.binds (ps := ["word"]) fun _ _ _ _ _ _ us hl => match us, hl with | [_], _ => rfl
  have F7 := L2.fun_mk (st := (top 12)) l7 c7 k7
  have b7 := F7.binds (ps := ["words"]) fun _ _ _ _ _ _ us hl => match us, hl with | [_], _ => rfl
  have F8 := L2.fun_mk (st := (top 14)) l8 c8 k8
  have b8 := F8.binds (ps := ["row"]) fun _ _ _ _ _ _ us hl => match us, hl with | [_], _ => rfl
  have F9 := L2.fun_mk (st := (top 13)) l9 c9 k9
  have b9 := F9.binds (ps := ["text"]) fun _ _ _ _ _ _ us hl => match us, hl with | [_], _ => rfl
  have F10 := L2.fun_mk (st := (top 20)) l10 c10 k10
  have b10 := F10.binds (ps := ["_law_found"]) fun _ _ _ _ _ _ us hl => match us, hl with | [_], _ => rfl
  have F11 := L2.fun_mk (st := (top 21)) l11 c11 k11
  refine ⟨PySem.W.fnOf "law" "law" (L2.defArgs (top 21)) (L2.defBody (top 21)) (L2.defScope (top 21)) .none kV11 dc11 pm11 an11 cd11 ct11, fun s v => .of_eq rfl, fun base _ _ => ?_⟩
  have BS := PySem.W.mg_none_of X G z_str
  have O0 := ok_law_stream (P := l.prog) (w := w) (base := base) B F0
  have D_law_stream : Def l.prog w K mg base (fun _ => 0) "_law_stream" 1 ["_law_cell", "_law_size"] f_law_stream 2 := ⟨⟨_, _, O0, PySem.W.mg_of X G a0, k0, b0⟩, fun vs A v A' h => fn_len h⟩
  have O1 := ok_law_rows (P := l.prog) (w := w) (base := base) B D_law_stream F1
  have D_law_rows : Def l.prog w K mg base (fun _ => 0) "_law_rows" 2 ["_law_script"] f_law_rows 1 := ⟨⟨_, _, O1, PySem.W.mg_of X G a1, k1, b1⟩, fun vs A v A' h => fn_len h⟩
  have O2 := ok_in_words (P := l.prog) (w := w) (base := base) B BS F2
  have D_in_words : Def l.prog w K mg base (fun _ => 0) "in_words" 1 ["word", "numbers"] f_in_words 2 := ⟨⟨_, _, O2, PySem.W.mg_of X G a2, k2, b2⟩, fun vs A v A' h => fn_len h⟩
  have O3 := ok_written_deed (P := l.prog) (w := w) (base := base) B GL BS D_in_words F3
  have D_written_deed : Def l.prog w K mg base (fun _ => 0) "written_deed" 2 ["turn", "deed"] f_written_deed 2 := ⟨⟨_, _, O3, PySem.W.mg_of X G a3, k3, b3⟩, fun vs A v A' h => fn_len h⟩
  have O4 := ok_written_deeds (P := l.prog) (w := w) (base := base) B D_written_deed F4
  have D_written_deeds : Def l.prog w K mg base (fun _ => 0) "written_deeds" 3 ["rows"] f_written_deeds 1 := ⟨⟨_, _, O4, PySem.W.mg_of X G a4, k4, b4⟩, fun vs A v A' h => fn_len h⟩
  have O5 := ok_law_text (P := l.prog) (w := w) (base := base) B BS F5
  have D_law_text : Def l.prog w K mg base (fun _ => 0) "_law_text" 1 ["_law_rows_here"] f_law_text 1 := ⟨⟨_, _, O5, PySem.W.mg_of X G a5, k5, b5⟩, fun vs A v A' h => fn_len h⟩
  have O6 := ok_is_number (P := l.prog) (w := w) (base := base) B GL F6
  have D_is_number : Def l.prog w K mg base (fun _ => 0) "is_number" 1 ["word"] f_is_number 1 := ⟨⟨_, _, O6, PySem.W.mg_of X G a6, k6, b6⟩, fun vs A v A' h => fn_len h⟩
  have O7 := ok_read_numbers (P := l.prog) (w := w) (base := base) B D_is_number F7
  have D_read_numbers : Def l.prog w K mg base (fun _ => 0) "read_numbers" 2 ["words"] f_read_numbers 1 := ⟨⟨_, _, O7, PySem.W.mg_of X G a7, k7, b7⟩, fun vs A v A' h => fn_len h⟩
  have O8 := ok_read_deed (P := l.prog) (w := w) (base := base) B GL D_read_numbers F8
  have D_read_deed : Def l.prog w K mg base (fun _ => 0) "read_deed" 3 ["row"] f_read_deed 1 := ⟨⟨_, _, O8, PySem.W.mg_of X G a8, k8, b8⟩, fun vs A v A' h => fn_len h⟩
  have O9 := ok_read_deeds (P := l.prog) (w := w) (base := base) B D_read_deed F9
  have D_read_deeds : Def l.prog w K mg base (fun _ => 0) "read_deeds" 4 ["text"] f_read_deeds 1 := ⟨⟨_, _, O9, PySem.W.mg_of X G a9, k9, b9⟩, fun vs A v A' h => fn_len h⟩
  have O10 := ok_law_kinds (P := l.prog) (w := w) (base := base) B F10
  have D_law_kinds : Def l.prog w K mg base (fun _ => 0) "_law_kinds" 1 ["_law_found"] f_law_kinds 1 := ⟨⟨_, _, O10, PySem.W.mg_of X G a10, k10, b10⟩, fun vs A v A' h => fn_len h⟩
  have O11 := ok_law (P := l.prog) (w := w) (base := base) B BS D_law_rows D_written_deeds D_law_text D_read_deeds D_law_kinds F11
  exact O11.imp fun vs H Q E q => law_sp law_pure vs H Q E q
end Ws
open PySem PySem.W PyProof.Rows
set_option maxRecDepth 100000 in
set_option maxHeartbeats 0 in
theorem PySem.Challenge.cw_wordswap_k73_deeds_written_holds : PySem.Challenge.rw_wordswap_k73_deeds_written.Holds := by
  w_on; o_law; k_head; (case hw => w_witness2)
  k_fill
  refine Ws.law_walk (l := PySem.Challenge.rw_wordswap_k73_deeds_written) (k := 5) (x := "_law_script") rfl rfl ⟨rfl, by decide, by decide⟩ (fun w h Y => PySem.W.kIn_of Y) ?F
  case F =>
    intro w mg fa h KX G hmg
    refine' Ws.all_mk KX G hmg ?a0 ?l0 ?c0 ?k0 ?a1 ?l1 ?c1 ?k1 ?a2 ?l2 ?c2 ?k2 ?a3 ?l3 ?c3 ?k3 ?a4 ?l4 ?c4 ?k4 ?a5 ?l5 ?c5 ?k5 ?a6 ?l6 ?c6 ?k6 ?a7 ?l7 ?c7 ?k7 ?a8 ?l8 ?c8 ?k8 ?a9 ?l9 ?c9 ?k9 ?a10 ?l10 ?c10 ?k10 ?a11 ?l11 ?c11 ?k11 ?g_LAY ?g_SAY ?g_FIGURES ?g_MOST_FIGURES ?z_str ?z_len ?z_range ?z_list ?z_sorted ?z_isinstance ?z_int ?z_bool ?z_tuple ?z_enumerate ?z_reversed ?z_max ?z_min ?z_all ?z_any ?z_set ?z_zip ?z_dict
    (case a0 => k_is)
    (case l0 => k_is)
    (case c0 => k_is)
    (case k0 => k_is)
    (case a1 => k_is)
    (case l1 => k_is)
    (case c1 => k_is)
    (case k1 => k_is)
    (case a2 => k_is)
    (case l2 => k_is)
    (case c2 => k_is)
    (case k2 => k_is)
    (case a3 => k_is)
    (case l3 => k_is)
    (case c3 => k_is)
    (case k3 => k_is)
    (case a4 => k_is)
    (case l4 => k_is)
    (case c4 => k_is)
    (case k4 => k_is)
    (case a5 => k_is)
    (case l5 => k_is)
    (case c5 => k_is)
    (case k5 => k_is)
    (case a6 => k_is)
    (case l6 => k_is)
    (case c6 => k_is)
    (case k6 => k_is)
    (case a7 => k_is)
    (case l7 => k_is)
    (case c7 => k_is)
    (case k7 => k_is)
    (case a8 => k_is)
    (case l8 => k_is)
    (case c8 => k_is)
    (case k8 => k_is)
    (case a9 => k_is)
    (case l9 => k_is)
    (case c9 => k_is)
    (case k9 => k_is)
    (case a10 => k_is)
    (case l10 => k_is)
    (case c10 => k_is)
    (case k10 => k_is)
    (case a11 => k_is)
    (case l11 => k_is)
    (case c11 => k_is)
    (case k11 => k_is)
    (case g_LAY => k_is)
    (case g_SAY => k_is)
    (case g_FIGURES => k_is)
    (case g_MOST_FIGURES => k_is)
    (case z_str => k_is)
    (case z_len => k_is)
    (case z_range => k_is)
    (case z_list => k_is)
    (case z_sorted => k_is)
    (case z_isinstance => k_is)
    (case z_int => k_is)
    (case z_bool => k_is)
    (case z_tuple => k_is)
    (case z_enumerate => k_is)
    (case z_reversed => k_is)
    (case z_max => k_is)
    (case z_min => k_is)
    (case z_all => k_is)
    (case z_any => k_is)
    (case z_set => k_is)
    (case z_zip => k_is)
    (case z_dict => k_is)
