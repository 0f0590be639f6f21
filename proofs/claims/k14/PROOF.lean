import PyProof.Rows.All
import Wide.All
import OpenK.AllK
import Wide.FinOn
import Lean
import PyProof.EqAt
import PyProof.EqKinds
import PyProof.TupleCall
import PySem.Challenge.RW_wordswap_k14_whole_chains_and_ways
import PyProof.ExcBaseAll.ValueError
import PyProof.NsDelKeeps
import PyProof.ExcArgs
set_option compiler.extract_closed false
set_option Elab.async false
set_option linter.all false
set_option maxRecDepth 100000
namespace L2
open PySem PySem.Spec PyProof.Rows
noncomputable abbrev Key := Sum Int Str
noncomputable def keyIs : Key → Value → Bool
  | .inl k, v => Value.isInt k v
  | .inr x, v => Value.isStrOf x v
noncomputable def keyH (w : World) : Key → Int
  | .inl k => hashInt k
  | .inr x => hashStr w x
theorem keyIs_shape : ∀ {k : Key} {v : Value}, keyIs k v = true → (∃ i t, k = Sum.inl i ∧ v = Value.int i t) ∨ (∃ x t, k = Sum.inr x ∧ v = Value.str x t)
  | .inl i, v, h => by
    obtain ⟨t, e⟩ := Value.isInt_shape (k := i) (v := v) h
    exact .inl ⟨i, t, rfl, e⟩
  | .inr x, v, h => by
    obtain ⟨t, e⟩ := Value.isStrOf_shape (x := x) (v := v) h
    exact .inr ⟨x, t, rfl, e⟩
theorem keyIs_int (i : Int) (t : Tok) : keyIs (.inl i) (.int i t) = true := by simp [keyIs, Value.isInt]
theorem keyIs_str (x : Str) (t : Tok) : keyIs (.inr x) (.str x t) = true := by simp [keyIs, Value.isStrOf]
theorem key_ll (a b : Int) : decide ((Sum.inl a : Key) = Sum.inl b) = (a == b) := by
  by_cases e : a = b
  · subst e; simp
  · have h : ¬ (Sum.inl a : Key) = Sum.inl b := fun q => e (Sum.inl.inj q)
    rw [decide_eq_false h]
    exact (beq_eq_false_iff_ne.mpr e).symm
theorem key_rr (a b : Str) : decide ((Sum.inr a : Key) = Sum.inr b) = decide (a = b) := by
  by_cases e : a = b
  · subst e; simp
  · have h : ¬ (Sum.inr a : Key) = Sum.inr b := fun q => e (Sum.inr.inj q)
    rw [decide_eq_false h, decide_eq_false e]
theorem key_lr (a : Int) (b : Str) : decide ((Sum.inl a : Key) = Sum.inr b) = false := decide_eq_false (fun q => nomatch q)
theorem key_rl (a : Str) (b : Int) : decide ((Sum.inr a : Key) = Sum.inl b) = false := decide_eq_false (fun q => nomatch q)
noncomputable def mixKind (prog : Program) (w : World) : PySem.KeyKind prog w Key where
  is := keyIs
  hash := keyH w
  inj := fun v a b ha hb => by
    rcases keyIs_shape ha with ⟨i, t, rfl, rfl⟩ | ⟨x, t, rfl, rfl⟩
    · rcases keyIs_shape hb with ⟨j, u, rfl, e⟩ | ⟨y, u, rfl, e⟩
      · injection e with e1 _; rw [e1]
      · exact nomatch e
    · rcases keyIs_shape hb with ⟨j, u, rfl, e⟩ | ⟨y, u, rfl, e⟩
      · exact nomatch e
      · injection e with e1 _; rw [e1]
  byValue := fun k v h => by
    rcases keyIs_shape h with ⟨i, t, rfl, rfl⟩ | ⟨x, t, rfl, rfl⟩ <;> rfl
  pyHash := fun hv h => by
    rcases keyIs_shape hv with ⟨i, t, rfl, rfl⟩ | ⟨x, t, rfl, rfl⟩
    · exact wpAny_pyHash_int h
    · exact wpAny_pyHash_str h
  eqBool := fun hu hv h => by
    rcases keyIs_shape hu with ⟨i, t, rfl, rfl⟩ | ⟨x, t, rfl, rfl⟩
    · rcases keyIs_shape hv with ⟨j, u, rfl, rfl⟩ | ⟨y, u, rfl, rfl⟩
      · rw [key_ll] at h; exact wpAny_eqBool_int h
      · rw [key_lr] at h; exact SeqAt.EqAt.int_str i t y u _ _ _ _ h
    · rcases keyIs_shape hv with ⟨j, u, rfl, rfl⟩ | ⟨y, u, rfl, rfl⟩
      · rw [key_rl] at h; exact SeqAt.EqAt.str_int x t j u _ _ _ _ h
      · rw [key_rr] at h; exact wpAny_eqBool_str h
  «strs» := fun k x t v h => by
    rcases keyIs_shape h with ⟨i, u, rfl, e⟩ | ⟨y, u, rfl, e⟩
    · exact nomatch e
    · injection e with e1 _
      subst e1
      cases v <;> rfl
theorem mixKind_int (prog : Program) (w : World) (i : Int) (t : Tok) : (mixKind prog w).is (.inl i) (.int i t) = true := keyIs_int i t
theorem mixKind_str (prog : Program) (w : World) (x : Str) (t : Tok) : (mixKind prog w).is (.inr x) (.str x t) = true := keyIs_str x t
end L2
namespace L2
open PySem PySem.Spec PyProof.Rows
inductive V where
  | non | bl (b : Bool) | int (i : Int) | str (x : Str) | byt (b : Array UInt8) | flt (b : UInt64) | ref (a : Addr) | ty (n : String)
  deriving DecidableEq
noncomputable def RelV : V → Value → Prop
  | .non, u => u = Value.none
  | .bl b, u => u = Value.bool b
  | .int i, u => ∃ t, u = Value.int i t
  | .str x, u => ∃ t, u = Value.str x t
  | .byt b, u => ∃ t, u = Value.bytes b t
  | .flt b, u => ∃ t, u = Value.float b t
  | .ref a, u => u = Value.ref a
  | .ty n, u => u = Value.type n
noncomputable abbrev Vals : List V → List Value → Prop := Paired RelV
theorem Vals.length {xs : List V} {us : List Value} (r : Vals xs us) : xs.length = us.length := Paired.length r
theorem Vals.get : ∀ {xs : List V} {us : List Value} {i : Nat} {x : V}, Vals xs us → xs[i]? = some x → ∃ u, us[i]? = some u ∧ RelV x u
  | _, _, _, _, .nil, e => by simp at e
  | _, _, 0, _, .cons r _, e => by simp at e; subst e; exact ⟨_, rfl, r⟩
  | _, _, i + 1, x, .cons _ t, e => by
    obtain ⟨u, h1, h2⟩ := Vals.get (i := i) (x := x) t (by simpa using e)
    exact ⟨u, by simpa using h1, h2⟩
theorem Vals.set {x : V} {u : Value} (r : RelV x u) : ∀ {xs : List V} {us : List Value} (i : Nat), Vals xs us → Vals (xs.set i x) (us.set i u)
  | _, _, _, .nil => .nil
  | _, _, 0, .cons _ t => .cons r t
  | _, _, i + 1, .cons q t => .cons q (Vals.set r i t)
theorem Vals.append : ∀ {xs ys : List V} {us ws : List Value}, Vals xs us → Vals ys ws → Vals (xs ++ ys) (us ++ ws)
  | _, _, _, _, .nil, s => s
  | _, _, _, _, .cons r t, s => .cons r (Vals.append t s)
theorem Vals.take : ∀ {xs : List V} {us : List Value} (n : Nat), Vals xs us → Vals (xs.take n) (us.take n)
  | _, _, 0, _ => .nil
  | _, _, _ + 1, .nil => .nil
  | _, _, n + 1, .cons r t => .cons r (Vals.take n t)
theorem Vals.drop : ∀ {xs : List V} {us : List Value} (n : Nat), Vals xs us → Vals (xs.drop n) (us.drop n)
  | _, _, 0, r => r
  | _, _, _ + 1, .nil => .nil
  | _, _, n + 1, .cons _ t => Vals.drop n t
noncomputable def RelO : Option V → Option Value → Prop
  | some v, some u => RelV v u
  | none, none => True
  | _, _ => False
noncomputable def KV {κ : Type} : List (κ × V) → List (κ × Value) → Prop := Paired fun (p : κ × V) (q : κ × Value) => p.1 = q.1 ∧ RelV p.2 q.2
noncomputable def kV : Key → V
  | .inl i => .int i
  | .inr x => .str x
inductive HO where
    | lst (xs : List V)
    | tup (xs : List V)
    | dK (kvs : List (Key × V)) | dT (kvs : List (List Key × V))
    | set (S : Int → Bool) (n : Nat)
    | ins (C dx : Addr) (fs : List (Str × V))
    | own (x : Addr)
    | xd (fs : List (Str × V))
    | met (f x : Addr)
    | rng (lo hi : Int)
    | frz (o : Obj) (u : HO)
    | tbl (ps : Array Value)
    | ext (φ : Heap → Prop)
noncomputable abbrev Hp := Addr → Option HO
noncomputable def upd (H : Hp) (a : Addr) (o : HO) : Hp := fun b => if b = a then some o else H b
theorem upd_same {H : Hp} {a : Addr} {o : HO} : upd H a o a = some o := by unfold upd; rw [if_pos rfl]
theorem upd_ne {H : Hp} {a b : Addr} {o : HO} (h : b ≠ a) : upd H a o b = H b := by unfold upd; rw [if_neg h]
theorem ne_of {H : Hp} {a b : Addr} {o u : HO} (h : H a = some o) (h' : H b = some u) (d : o ≠ u) : a ≠ b := by
  intro e; subst e; rw [h] at h'; exact d (Option.some.inj h')
theorem ne_of_none {H : Hp} {a b : Addr} {o : HO} (h : H a = some o) (h' : H b = none) : a ≠ b := by
  intro e; subst e; rw [h] at h'; cases h'
section
variable (P : Program) (w : World)
noncomputable def ObjOk (H : Hp) (h : Heap) (a : Addr) : HO → Prop
  | .lst xs => xs.length ≤ sizeLine ∧ ∃ (its : List Value) (n : Nat), Vals xs its ∧ h.get? a = some { cls := .type "list", data := .seq its.toArray n }
  | .tup xs => xs.length ≤ sizeLine ∧ ∃ its : List Value, Vals xs its ∧ IsTup h a its.toArray
  | .dK kvs => kvs.length ≤ sizeLine ∧ (a == sysModules) = false ∧ ∃ vs, KV kvs vs ∧ h.DictOf (mixKind P w) a vs
  | .dT kvs => kvs.length ≤ sizeLine ∧ (a == sysModules) = false ∧ ∃ xs : List (List Key × Addr × Value),
      Paired (fun (p : List Key × V) (q : List Key × Addr × Value) => p.1 = q.1 ∧ H q.2.1 = some (.tup (p.1.map kV)) ∧ RelV p.2 q.2.2) kvs xs ∧
      ∃ o es ep, h.get? a = some o ∧ o.ExactDict ∧ o.data = .dict es ep ∧ es.toList = xs.map (entryOfKey (tupleKind (mixKind P w))) ∧ (xs.map (·.1)).Nodup
  | .set S n => h.SetOf (intKind P w) a S n
  | .ins C dx fs => H dx = some (.own a) ∧ fs.length ≤ 1000 ∧ dx ≠ a ∧ h.get? a = some (PySem.W.instObj C dx) ∧
      ∃ mA, h.Ns1 dx mA ∧ (∀ f, RelO (fs.lookup f) (mA f)) ∧ PySem.Within mA (fs.map (·.1))
  | .own _ => ∃ o, h.get? a = some o
  | .xd fs => ∃ mA, h.Ns1 a mA ∧ ∀ f, RelO (fs.lookup f) (mA f)
  | .rng lo hi => ∃ t u v, h.get? a = some { cls := .type "range", data := .fields #[.int lo t, .int hi u, .int 1 v] }
  | .frz o u => h.get? a = some o ∧ ObjOk H h a u
  | .tbl ps => h.get? a = some { cls := .none, data := .fields ps }
  | .met f x => h.get? a = some (PySem.W.methodObj (.ref f) (.ref x))
  | .ext φ => φ h ∧ (∃ o, h.get? a = some o) ∧ ∀ h1 h2 : Heap, φ h1 → (∀ o, h1.get? a = some o → h2.get? a = some o) → φ h2
noncomputable def HOk (H : Hp) (h : Heap) : Prop := ∀ a o, H a = some o → ObjOk P w H h a o
end
section
variable {P : Program} {w : World} {H H' : Hp} {h h' : Heap} {a : Addr} {o : HO}
theorem ObjOk.lt (x : ObjOk P w H h a o) : a < h.objs.size := by
  cases o with
  | lst xs => obtain ⟨_, _, _, _, e⟩ := x; exact Heap.lt_size e
  | tup xs => obtain ⟨_, _, _, p⟩ := x; exact p.lt
  | dK kvs => obtain ⟨_, _, _, _, o, _, _, e, _⟩ := x; exact Heap.lt_size e
  | dT kvs => obtain ⟨_, _, _, _, o, _, _, e, _⟩ := x; exact Heap.lt_size e
  | set S n => obtain ⟨o, _, _, _, e, _⟩ := x; exact Heap.lt_size e
  | ins C dx fs => obtain ⟨_, _, _, e, _⟩ := x; exact Heap.lt_size e
  | own y => obtain ⟨_, e⟩ := x; exact Heap.lt_size e
  | xd fs => obtain ⟨_, ⟨_, _, _, e, _⟩, _⟩ := x; exact Heap.lt_size e
  | rng lo hi => obtain ⟨_, _, _, e⟩ := x; exact Heap.lt_size e
  | frz ob u => obtain ⟨e, _⟩ := x; exact Heap.lt_size e
  | tbl ps => exact Heap.lt_size (show h.get? a = some _ from x)
  | met f y => exact Heap.lt_size (show h.get? a = some _ from x)
  | ext φ => obtain ⟨_, ⟨_, e⟩, _⟩ := x; exact Heap.lt_size e
theorem Paired.mapP {α β : Type} {F G : α → β → Prop} : ∀ {l₁ : List α} {l₂ : List β}, Paired F l₁ l₂ → (∀ a b, F a b → G a b) → Paired G l₁ l₂
  | _, _, .nil, _ => .nil
  | _, _, .cons r t, f => .cons (f _ _ r) (Paired.mapP t f)
theorem ObjOk.stay (x : ObjOk P w H h a o) (k : ∀ b u, (b = a ∨ H b = some (.own a)) → h.get? b = some u → h'.get? b = some u)
    (ho : ∀ b, H b = some (.own a) → H' b = some (.own a)) (ht : ∀ b xs, H b = some (.tup xs) → H' b = some (.tup xs)) : ObjOk P w H' h' a o := by
  induction o with
  | lst xs => obtain ⟨z, its, n, r, e⟩ := x; exact ⟨z, its, n, r, k _ _ (.inl rfl) e⟩
  | tup xs => obtain ⟨z, its, r, ob, e, c⟩ := x; exact ⟨z, its, r, ob, k _ _ (.inl rfl) e, c⟩
  | dK kvs => obtain ⟨z, y, vs, r, ob, es, ep, e, c⟩ := x; exact ⟨z, y, vs, r, ob, es, ep, k _ _ (.inl rfl) e, c⟩
  | dT kvs =>
    obtain ⟨z, y, xs, r, ob, es, ep, e, c⟩ := x
    exact ⟨z, y, xs, Paired.mapP r fun p q z => ⟨z.1, ht _ _ z.2.1, z.2.2⟩, ob, es, ep, k _ _ (.inl rfl) e, c⟩
  | set S n => obtain ⟨ob, es, ep, t, e, c⟩ := x; exact ⟨ob, es, ep, t, k _ _ (.inl rfl) e, c⟩
  | ins C dx fs =>
    obtain ⟨d, z, ne, e, mA, ⟨od, es, ep, e2, c⟩, r⟩ := x
    exact ⟨ho _ d, z, ne, k _ _ (.inl rfl) e, mA, ⟨od, es, ep, k _ _ (.inr d) e2, c⟩, r⟩
  | own y => obtain ⟨ob, e⟩ := x; exact ⟨ob, k _ _ (.inl rfl) e⟩
  | xd fs => obtain ⟨mA, ⟨od, es, ep, e, c⟩, r⟩ := x; exact ⟨mA, ⟨od, es, ep, k _ _ (.inl rfl) e, c⟩, r⟩
  | rng lo hi => obtain ⟨t, u, v, e⟩ := x; exact ⟨t, u, v, k _ _ (.inl rfl) e⟩
  | frz ob u ih => obtain ⟨e, q⟩ := x; exact ⟨k _ _ (.inl rfl) e, ih q⟩
  | tbl ps =>
    have e : h.get? a = some { cls := .none, data := .fields ps } := x
    show h'.get? a = some { cls := .none, data := .fields ps }
    exact k a _ (.inl rfl) e
  | met f y =>
    have e : h.get? a = some (PySem.W.methodObj (.ref f) (.ref y)) := x
    show h'.get? a = some (PySem.W.methodObj (.ref f) (.ref y))
    exact k a _ (.inl rfl) e
  | ext φ => obtain ⟨p, ⟨o, e⟩, st⟩ := x; exact ⟨st _ _ p fun o q => k _ _ (.inl rfl) q, ⟨o, k _ _ (.inl rfl) e⟩, st⟩
theorem HOk.lt (x : HOk P w H h) (e : H a = some o) : a < h.objs.size := (x a o e).lt
theorem HOk.fresh (x : HOk P w H h) (e : h.objs.size ≤ a) : H a = none := by
  cases q : H a with
  | none => rfl
  | some u => exact absurd (Nat.lt_of_lt_of_le (x.lt q) e) (Nat.lt_irrefl _)
theorem HOk.kept (x : HOk P w H h) (k : ∀ b u, h.get? b = some u → h'.get? b = some u) : HOk P w H h' := fun a o e =>
  (x a o e).stay (fun b u _ q => k b u q) (fun _ q => q) fun _ _ q => q
theorem HOk.laid (x : HOk P w H h) (k : ∀ b u, h.get? b = some u → h'.get? b = some u) (hp : h.objs.size ≤ a) (new : ObjOk P w (upd H a o) h' a o) : HOk P w (upd H a o) h' := fun b u e => by
  have hn := x.fresh hp
  by_cases hb : b = a
  · subst hb; rw [upd_same] at e; cases e; exact new
  · rw [upd_ne hb] at e
    exact (x b u e).stay (fun c v _ q => k c v q) (fun c q => by rw [upd_ne (ne_of_none q hn)]; exact q) fun c xs q => by rw [upd_ne (ne_of_none q hn)]; exact q
end
noncomputable def Rd (H : Hp) (a : Addr) (u : HO) : Prop := H a = some u ∨ ∃ o, H a = some (.frz o u)
theorem Rd.ok {P : Program} {w : World} {H : Hp} {h : Heap} {a : Addr} {u : HO} (r : Rd H a u) (x : HOk P w H h) : ObjOk P w H h a u := by
  rcases r with r | ⟨o, r⟩
  · exact x a u r
  · obtain ⟨_, q⟩ := x a _ r
    exact q
noncomputable def Mut : Option HO → Prop
  | some (.lst _) => True
  | some (.dK _) => True
  | some (.dT _) => True
  | some (.set _ _) => True
  | some (.ins _ _ _) => True
  | some (.ext _) => True
  | _ => False
section
variable {P : Program} {w : World} {H : Hp} {h h' : Heap} {x e : Addr} {o' : HO}
theorem HOk.write (ok : HOk P w H h) (mu : Mut (H x)) (he : e = x ∨ H e = some (.own x)) (k : ∀ b u, b ≠ e → h.get? b = some u → h'.get? b = some u) (heo : ∃ u, h'.get? e = some u)
    (new : ObjOk P w (upd H x o') h' x o') : HOk P w (upd H x o') h' := fun b u q => by
  have nown : ∀ c y, H c = some (.own y) → c ≠ x := fun c y r z => by subst z; rw [r] at mu; exact mu
  have ntup : ∀ c xs, H c = some (.tup xs) → c ≠ x := fun c xs r z => by subst z; rw [r] at mu; exact mu
  by_cases hb : b = x
  · subst hb; rw [upd_same] at q; cases q; exact new
  · rw [upd_ne hb] at q
    by_cases hbe : b = e
    · have q' : H b = some (.own x) := by
        rcases he with z | z
        · exact absurd (hbe.trans z) hb
        · rw [hbe]; exact z
      rw [q] at q'; cases q'
      obtain ⟨v, hv⟩ := heo
      exact ⟨v, by rw [hbe]; exact hv⟩
    · refine (ok b u q).stay (fun c v hc r => k c v ?_ r) (fun c r => by rw [upd_ne (nown c b r)]; exact r) fun c xs r => by rw [upd_ne (ntup c xs r)]; exact r
      rcases hc with rfl | hc
      · exact hbe
      · rintro rfl
        rcases he with z | z
        · exact nown c b hc z
        · rw [hc] at z; cases z; exact hb rfl
end
structure Un (fs ex : List Addr) (H H' : Hp) (h h' : Heap) : Prop where
  keep : ∀ b o, h.get? b = some o → H b = none → b ∉ fs → b ∉ ex → h'.get? b = some o
  slot : ∀ b o, h.get? b = some o → H b = none → b ∈ fs → b ∉ ex → ∃ sl, h'.get? b = some { o with slots := sl }
  free : ∀ b o, h.get? b = some o → H b = none → b ∉ ex → H' b = none
  there : ∀ b o, h.get? b = some o → b ∉ ex → ∃ o', h'.get? b = some o'
  tups : ∀ b xs, H b = some (.tup xs) → H' b = some (.tup xs)
  frzs : ∀ b o u, H b = some (.frz o u) → H' b = some (.frz o u)
  tbls : ∀ b ps, H b = some (.tbl ps) → ∃ more, H' b = some (.tbl (ps ++ more))
section
variable {fs fs' ex ex' : List Addr} {H H1 H2 : Hp} {h h1 h2 h' : Heap} {a x e : Addr} {o : HO}
theorem Un.any (u : Un fs ex H H1 h h1) {b : Addr} {ob : Obj} (q : h.get? b = some ob) (n : H b = none) (hx : b ∉ ex) : ∃ sl, h1.get? b = some { ob with slots := sl } := by
  by_cases hb : b ∈ fs
  · exact u.slot b ob q n hb hx
  · exact ⟨ob.slots, u.keep b ob q n hb hx⟩
theorem Un.trans (a : Un fs ex H H1 h h1) (b : Un fs ex H1 H2 h1 h2) : Un fs ex H H2 h h2 where
  keep := fun c ob q n hc hx => b.keep c ob (a.keep c ob q n hc hx) (a.free c ob q n hx) hc hx
  slot := fun c ob q n hc hx => by
    obtain ⟨sl, e1⟩ := a.slot c ob q n hc hx
    obtain ⟨sl', e2⟩ := b.slot c _ e1 (a.free c ob q n hx) hc hx
    exact ⟨sl', e2⟩
  free := fun c ob q n hx => by
    obtain ⟨o', e1⟩ := a.there c ob q hx
    exact b.free c o' e1 (a.free c ob q n hx) hx
  there := fun c ob q hx => by
    obtain ⟨o', e1⟩ := a.there c ob q hx
    exact b.there c o' e1 hx
  tups := fun c xs q => b.tups c xs (a.tups c xs q)
  frzs := fun c ob xs q => b.frzs c ob xs (a.frzs c ob xs q)
  tbls := fun c ps q => by
    obtain ⟨m1, e1⟩ := a.tbls c ps q
    obtain ⟨m2, e2⟩ := b.tbls c _ e1
    exact ⟨m1 ++ m2, by rw [e2, Array.append_assoc]⟩
theorem Un.kept (k : ∀ b u, h.get? b = some u → h'.get? b = some u) : Un fs ex H H h h' :=
  ⟨fun b ob q _ _ _ => k b ob q, fun b ob q _ _ _ => ⟨ob.slots, k b ob q⟩, fun _ _ _ n _ => n, fun b ob q _ => ⟨ob, k b ob q⟩, fun _ _ q => q, fun _ _ _ q => q, fun _ ps q => ⟨#[], by rw [q]; simp⟩⟩
theorem Un.refl : Un fs ex H H h h := Un.kept fun _ _ q => q
theorem Un.laid (k : ∀ b u, h.get? b = some u → h'.get? b = some u) (hp : h.objs.size ≤ a) (hn : H a = none) : Un fs ex H (upd H a o) h h' where
  keep := fun b u q _ _ _ => k b u q
  slot := fun b u q _ _ _ => ⟨u.slots, k b u q⟩
  free := fun b u q n _ => by rw [upd_ne (Nat.ne_of_lt (Nat.lt_of_lt_of_le (Heap.lt_size q) hp))]; exact n
  there := fun b u q _ => ⟨u, k b u q⟩
  tups := fun b xs q => by rw [upd_ne (ne_of_none q hn)]; exact q
  frzs := fun b u xs q => by rw [upd_ne (ne_of_none q hn)]; exact q
  tbls := fun b ps q => ⟨#[], by rw [upd_ne (ne_of_none q hn), q]; simp⟩
theorem Un.write (mu : Mut (H x)) (he : e = x ∨ H e = some (.own x)) (k : ∀ b u, b ≠ e → h.get? b = some u → h'.get? b = some u) (heo : ∃ u, h'.get? e = some u) : Un fs ex H (upd H x o) h h' := by
  have hx : ∀ b, H b = none → b ≠ x := fun b n z => by subst z; rw [n] at mu; exact mu
  have hb : ∀ b, H b = none → b ≠ e := fun b n z => by
    subst z
    rcases he with r | r
    · exact hx b n r
    · rw [n] at r; cases r
  have hm : ∀ b u, H b = some u → ¬ Mut (some u) → b ≠ x := fun b u q nm z => by subst z; rw [q] at mu; exact nm mu
  refine ⟨fun b u q n _ _ => k b u (hb b n) q, fun b u q n _ _ => ⟨u.slots, k b u (hb b n) q⟩, fun b u q n _ => by rw [upd_ne (hx b n)]; exact n, fun b u q _ => ?_,
    fun b xs q => by rw [upd_ne (hm b _ q fun z => z)]; exact q, fun b u xs q => by rw [upd_ne (hm b _ q fun z => z)]; exact q, fun b ps q => ⟨#[], by rw [upd_ne (hm b _ q fun z => z), q]; simp⟩⟩
  by_cases hbe : b = e
  · subst hbe; exact heo
  · exact ⟨u, k b u hbe q⟩
end
noncomputable def trk (h : Heap) (H : Hp) : List Addr := (List.range h.objs.size).filter fun a => (H a).isSome
noncomputable def hidT (h : Heap) (H : Hp) : Heap := PySem.W.hideAll h (trk h H)
theorem hidT_size (h : Heap) (H : Hp) : (hidT h H).objs.size = h.objs.size := PySem.W.hideAll_size _ _
theorem hidT_get {h : Heap} {H : Hp} {b : Addr} {o : Obj} (e : h.get? b = some o) (n : H b = none) : (hidT h H).get? b = some o :=
  PySem.W.hideAll_get _ e fun hm => by
    have q : (H b).isSome = true := (List.mem_filter.mp hm).2
    rw [n] at q; simp at q
theorem of_hidT {h : Heap} {H : Hp} {b : Addr} {o : Obj} (e : (hidT h H).get? b = some o) : h.get? b = some o ∧ H b = none := by
  have e' : h.get? b = some o := PySem.W.of_hideAll (trk h H) e
  refine ⟨e', ?_⟩
  cases q : H b with
  | none => rfl
  | some x =>
    have hm : b ∈ trk h H := List.mem_filter.mpr ⟨List.mem_range.mpr (Heap.lt_size e'), by simp [q]⟩
    have z : (hidT h H).get? b = none := PySem.W.hideAll_none (trk h H) hm
    rw [z] at e; cases e
end L2
namespace L2
open PySem PySem.Spec PyProof.Rows
structure Mod (K : PySem.W.Frag) (mg : Str → Option Value) (base : Heap) : Prop where
  kin : K.In base
  glob : base.Ns mainGlobals mg
  blt : ∃ mb, base.Ns builtinsNs mb ∧ ∀ x : Str, x ≠ "__name__" → mb x = bootBuiltins x
  nolimit : base.NoLimit
structure Cx where
  prog : Program
  w : World
  K : PySem.W.Frag
  mg : Str → Option Value
  base : Heap
  A : Around
  N : List Str
  s₀ : Shared
  H₀ : Hp
  env : Env
  outer : List Env
  stack : List Env
  ex : List Addr
  fn : Str → Bool
  calm : Bool
  pn : List (Addr × Obj)
  xe : Value → Shared → Prop
noncomputable def frs (l : List Env) : List Addr := l.filterMap (·.frame)
noncomputable abbrev Cx.fs (X : Cx) : List Addr := frs X.outer
noncomputable def Vis (sc : Scope) (x : Str) : Prop := sc.names.lookup x = some .local ∨ sc.names.lookup x = some .cell ∨ sc.names.lookup x = some .free
noncomputable def Loc (sc : Scope) (x : Str) : Prop := sc.names.lookup x = some .local ∨ sc.names.lookup x = some .cell
noncomputable def Look (env : Env) (h : Heap) (m : Str → Option Value) (x : Str) (u : Value) : Prop :=
  (env.kindOf x = some .local ∧ m x = some u) ∨ ((env.kindOf x = some .cell ∨ env.kindOf x = some .free) ∧ ∃ c, env.cells.lookup x = some c ∧ h.IsCell c (some u))
structure Cx.Ok (X : Cx) : Prop where
  mod : Mod X.K X.mg X.base
  kind : X.env.scope.kind = .function
  glob : X.env.globals = mainGlobals
  blt : X.env.builtins = builtinsNs
  above : X.s₀.heap.objs.size ≤ X.env.locals
  inj : ∀ x y c, X.env.cells.lookup x = some c → X.env.cells.lookup y = some c → x = y
  has : ∀ x, (X.env.kindOf x = some .cell ∨ X.env.kindOf x = some .free) → ∃ c, X.env.cells.lookup x = some c
  cab : ∀ x c, X.fn x = true → X.env.cells.lookup x = some c → X.s₀.heap.objs.size ≤ c
  hd : X.calm = true → X.A.handled = none
  frames : X.A.frames = some X.stack
  stk : X.stack = X.outer ∨ (X.stack = X.env :: X.outer ∧ X.env.frame = some X.env.locals)
  exf : ∀ b ∈ X.ex, b ≠ X.env.locals ∧ ∀ x c, X.env.cells.lookup x = some c → c ≠ b
  bs : ∀ b o, X.base.get? b = some o → X.s₀.heap.get? b = some o ∧ X.H₀ b = none
  bsz : X.base.objs.size ≤ X.s₀.heap.objs.size
  noex : ∀ b o, X.base.get? b = some o → b ∉ X.ex
  exfs : ∀ b ∈ X.ex, b ∉ X.fs
  funs : X.s₀.heap.FunFrames X.base X.outer
  frf : ∀ b ∈ X.fs, X.H₀ b = none
structure Inv (X : Cx) (pins : List (Addr × Obj)) (σ : List (Option V)) (H : Hp) (s : Shared) : Prop where
  ok : X.Ok
  os : s.os = X.s₀.os
  bare : AllBare s.gens
  base : Un X.fs X.ex X.H₀ H X.s₀.heap s.heap
  loc : ∃ m, s.heap.Ns X.env.locals m ∧ ∀ (i : Nat) (x : Str) (v : V), X.N[i]? = some x → σ[i]? = some (some v) → Vis X.env.scope x → ∃ u, RelV v u ∧ Look X.env s.heap m x u
  cell : ∀ x c, X.env.cells.lookup x = some c → ∃ v, s.heap.IsCell c v
  free : H X.env.locals = none
  freeC : ∀ x c, X.env.cells.lookup x = some c → H c = none
  pin : ∀ p ∈ X.pn ++ pins, s.heap.get? p.1 = some p.2 ∧ H p.1 = none ∧ p.1 ≠ X.env.locals ∧ p.1 ∉ X.fs ∧ ∀ v, p.2.data ≠ .cell v
  hok : HOk X.prog X.w H s.heap
  len : σ.length = X.N.length
section
variable {X : Cx} {pins : List (Addr × Obj)} {σ : List (Option V)} {H H' : Hp} {s : Shared} {h' : Heap}
theorem Cx.Ok.nofr (ok : X.Ok) {b : Addr} {o : Obj} (e : X.base.get? b = some o) : b ∉ X.fs := fun hb => by
  have := (ok.funs.mem hb).1
  rw [e] at this; cases this
theorem Inv.bs (I : Inv X pins σ H s) : ∀ b o, X.base.get? b = some o → s.heap.get? b = some o ∧ H b = none := fun b o e =>
  ⟨I.base.keep b o (I.ok.bs b o e).1 (I.ok.bs b o e).2 (I.ok.nofr e) (I.ok.noex b o e), I.base.free b o (I.ok.bs b o e).1 (I.ok.bs b o e).2 (I.ok.noex b o e)⟩
theorem Inv.bk (I : Inv X pins σ H s) : ∀ b o, X.base.get? b = some o → s.heap.get? b = some o := fun b o e => (I.bs b o e).1
theorem Inv.mod (I : Inv X pins σ H s) : Mod X.K X.mg X.base := I.ok.mod
theorem Inv.kIn (I : Inv X pins σ H s) : X.K.In s.heap := I.ok.mod.kin.keeps I.bk
theorem Inv.lt (I : Inv X pins σ H s) : X.env.locals < s.heap.objs.size := let ⟨_, hn, _⟩ := I.loc; hn.lt
theorem Inv.sz (I : Inv X pins σ H s) : X.s₀.heap.objs.size ≤ s.heap.objs.size := Nat.le_trans I.ok.above (Nat.le_of_lt I.lt)
theorem Inv.nofs (I : Inv X pins σ H s) {a : Addr} (h : s.heap.objs.size ≤ a) : a ∉ X.fs := fun hb => by
  obtain ⟨_, o, ho, _⟩ := I.ok.funs.mem hb
  exact absurd (Nat.lt_of_lt_of_le (Heap.lt_size ho) (Nat.le_trans I.sz h)) (Nat.lt_irrefl _)
theorem Inv.cne (I : Inv X pins σ H s) : ∀ x c, X.env.cells.lookup x = some c → c ≠ X.env.locals := fun x c e z => by
  obtain ⟨v, o, ho, hd⟩ := I.cell x c e
  obtain ⟨m, ⟨o', es, ep, ho', hd', _⟩, _⟩ := I.loc
  rw [z, ho'] at ho; cases ho; rw [hd'] at hd; cases hd
theorem Inv.funs (I : Inv X pins σ H s) : s.heap.FunFrames X.base X.outer := by
  have all : ∀ (l : List Env), (∀ b ∈ frs l, b ∈ X.fs) → X.s₀.heap.FunFrames X.base l → s.heap.FunFrames X.base l := by
    intro l
    induction l with
    | nil => intro _ _; trivial
    | cons env r ih =>
      intro hs hl
      obtain ⟨hk, ⟨L, o, hf, hn, ho, hd⟩, hr⟩ := hl
      have hL : L ∈ X.fs := hs L (by unfold frs; rw [List.filterMap_cons, hf]; exact List.mem_cons_self)
      obtain ⟨sl, e⟩ := I.base.slot L o ho (I.ok.frf L hL) hL fun z => I.ok.exfs L z hL
      exact ⟨hk, ⟨L, _, hf, hn, e, hd⟩, ih (fun b hb => hs b (by unfold frs; rw [List.filterMap_cons, hf]; exact List.mem_cons_of_mem _ hb)) hr⟩
  exact all X.outer (fun _ hb => hb) I.ok.funs
theorem Inv.stack (I : Inv X pins σ H s) : s.heap.FunFrames X.base X.stack := by
  rcases I.ok.stk with e | ⟨e, hf⟩
  · rw [e]; exact I.funs
  · rw [e]
    obtain ⟨m, hn, _⟩ := I.loc
    refine .cons (by rw [I.ok.kind]; decide) hf hn ?_ I.funs
    exact Heap.get?_none_of_le (Nat.le_trans I.ok.bsz I.ok.above)
theorem Inv.stkSub (I : Inv X pins σ H s) : ∀ b ∈ frs X.stack, b ∈ X.env.locals :: X.fs := fun b hb => by
  rcases I.ok.stk with e | ⟨e, hf⟩
  · rw [e] at hb; exact List.mem_cons_of_mem _ hb
  · rw [e] at hb
    unfold frs at hb
    rw [List.filterMap_cons, hf] at hb
    exact hb
theorem Inv.stkFree (I : Inv X pins σ H s) : ∀ b ∈ frs X.stack, H b = none := fun b hb => by
  rcases List.mem_cons.mp (I.stkSub b hb) with e | hb
  · rw [e]; exact I.free
  · obtain ⟨_, o, ho, _⟩ := I.ok.funs.mem hb
    exact I.base.free b o ho (I.ok.frf b hb) fun z => I.ok.exfs b z hb
theorem Inv.step {g' : Array GenState} {t' : Nat} {d' : Drawn} {ch : List Addr} (I : Inv X pins σ H s)
    (hch : ∀ b ∈ ch, (b ∈ X.ex ∨ X.s₀.heap.objs.size ≤ b) ∧ b ≠ X.env.locals ∧ (∀ x c, X.env.cells.lookup x = some c → c ≠ b) ∧ ∀ p ∈ X.pn ++ pins, p.1 ≠ b)
    (keep : ∀ b o, b ≠ X.env.locals → b ∉ X.fs → b ∉ ch → s.heap.get? b = some o → H b = none → h'.get? b = some o)
    (slot : ∀ b o, b ≠ X.env.locals → b ∈ X.fs → b ∉ ch → s.heap.get? b = some o → H b = none → ∃ sl, h'.get? b = some { o with slots := sl }) (free : ∀ b o, b ∉ ch → s.heap.get? b = some o → H b = none → H' b = none)
    (there : ∀ b o, b ∉ ch → s.heap.get? b = some o → ∃ o', h'.get? b = some o')
    (tups : ∀ b xs, H b = some (.tup xs) → H' b = some (.tup xs)) (frzs : ∀ b o u, H b = some (.frz o u) → H' b = some (.frz o u)) (tbls : ∀ b ps, H b = some (.tbl ps) → ∃ more, H' b = some (.tbl (ps ++ more)))
    (ns : ∀ m, s.heap.Ns X.env.locals m → h'.Ns X.env.locals m) (hok : HOk X.prog X.w H' h') (hg : AllBare g') :
    Inv X pins σ H' { s with heap := h', gens := g', drawn := d', toks := t' } := by
  have neL : ∀ b o, X.s₀.heap.get? b = some o → b ≠ X.env.locals := fun b o e => Nat.ne_of_lt (Nat.lt_of_lt_of_le (Heap.lt_size e) I.ok.above)
  have neC : ∀ b o, X.s₀.heap.get? b = some o → b ∉ X.ex → b ∉ ch := fun b o e hx hb => by
    rcases (hch b hb).1 with z | z
    · exact hx z
    · exact absurd (Nat.lt_of_lt_of_le (Heap.lt_size e) z) (Nat.lt_irrefl _)
  have cellK : ∀ x c, X.env.cells.lookup x = some c → ∀ v, s.heap.IsCell c v → h'.IsCell c v := fun x c e v ⟨o, ho, hd⟩ => by
    have nch : c ∉ ch := fun z => (hch c z).2.2.1 x c e rfl
    by_cases hc : c ∈ X.fs
    · obtain ⟨sl, q⟩ := slot c o (I.cne x c e) hc nch ho (I.freeC x c e)
      exact ⟨_, q, hd⟩
    · exact ⟨o, keep c o (I.cne x c e) hc nch ho (I.freeC x c e), hd⟩
  refine ⟨I.ok, I.os, hg, ⟨fun b o e n hb hx => ?_, fun b o e n hb hx => ?_, fun b o e n hx => ?_, fun b o e hx => ?_, fun b xs e => tups b xs (I.base.tups b xs e), fun b o xs e => frzs b o xs (I.base.frzs b o xs e), fun b ps e => ?_⟩, ?_, fun x c e => ?_, ?_, fun x c e => ?_, fun p hp => ?_, hok, I.len⟩
  · exact keep b o (neL b o e) hb (neC b o e hx) (I.base.keep b o e n hb hx) (I.base.free b o e n hx)
  · obtain ⟨sl, e1⟩ := I.base.slot b o e n hb hx
    obtain ⟨sl', e2⟩ := slot b _ (neL b o e) hb (neC b o e hx) e1 (I.base.free b o e n hx)
    exact ⟨sl', e2⟩
  · obtain ⟨o', e1⟩ := I.base.there b o e hx
    exact free b o' (neC b o e hx) e1 (I.base.free b o e n hx)
  · obtain ⟨o', e1⟩ := I.base.there b o e hx
    exact there b o' (neC b o e hx) e1
  · obtain ⟨m1, e1⟩ := I.base.tbls b ps e
    obtain ⟨m2, e2⟩ := tbls b _ e1
    exact ⟨m1 ++ m2, by rw [e2, Array.append_assoc]⟩
  · obtain ⟨m, hn, hl⟩ := I.loc
    refine ⟨m, ns m hn, fun i x v e1 e2 e3 => ?_⟩
    obtain ⟨u, r, l⟩ := hl i x v e1 e2 e3
    refine ⟨u, r, ?_⟩
    rcases l with l | ⟨k, c, e, z⟩
    · exact .inl l
    · exact .inr ⟨k, c, e, cellK x c e _ z⟩
  · obtain ⟨v, z⟩ := I.cell x c e
    exact ⟨v, cellK x c e v z⟩
  · obtain ⟨m, ⟨o, _, _, ho, _⟩, _⟩ := I.loc
    exact free _ o (fun z => (hch _ z).2.1 rfl) ho I.free
  · obtain ⟨v, o, ho, hd⟩ := I.cell x c e
    exact free c o (fun z => (hch c z).2.2.1 x c e rfl) ho (I.freeC x c e)
  · obtain ⟨e, n, ne, nf, d⟩ := I.pin p hp
    have nch : p.1 ∉ ch := fun z => (hch p.1 z).2.2.2 p hp rfl
    exact ⟨keep p.1 p.2 ne nf nch e n, free p.1 p.2 nch e n, ne, nf, d⟩
theorem Inv.un {t' : Nat} (I : Inv X pins σ H s) (u : Un X.fs [] H H' s.heap h') (hok : HOk X.prog X.w H' h') : Inv X pins σ H' { s with heap := h', toks := t' } := by
  obtain ⟨m, ⟨o, es, ep, ho, r⟩, _⟩ := id I.loc
  obtain ⟨sl, hL⟩ := u.any ho I.free (by simp)
  exact I.step (g' := s.gens) (d' := s.drawn) (ch := []) (fun _ z => nomatch z) (fun b o _ hb _ e n => u.keep b o e n hb (by simp)) (fun b o _ hb _ e n => u.slot b o e n hb (by simp)) (fun b o _ e n => u.free b o e n (by simp)) (fun b o _ e => u.there b o e (by simp)) u.tups u.frzs u.tbls (fun m' hm => by
    obtain ⟨o', es', ep', ho', r'⟩ := hm
    rw [ho] at ho'; cases ho'
    exact ⟨_, es', ep', hL, r'⟩) hok I.bare
theorem Inv.call {g' : Array GenState} {t' : Nat} {d' : Drawn} {ch : List Addr} (I : Inv X pins σ H s) (u : Un (frs X.stack) ch H H' s.heap h') (hok : HOk X.prog X.w H' h') (hg : AllBare g')
    (hch : ∀ b ∈ ch, (b ∈ X.ex ∨ X.s₀.heap.objs.size ≤ b) ∧ b ≠ X.env.locals ∧ (∀ x c, X.env.cells.lookup x = some c → c ≠ b) ∧ ∀ p ∈ X.pn ++ pins, p.1 ≠ b) :
    Inv X pins σ H' { s with heap := h', gens := g', drawn := d', toks := t' } := by
  obtain ⟨m, ⟨o, es, ep, ho, r⟩, _⟩ := id I.loc
  obtain ⟨sl, hL⟩ := u.any ho I.free fun z => (hch _ z).2.1 rfl
  exact I.step (ch := ch) hch (fun b o hL hb hc e n => u.keep b o e n (fun z => (List.mem_cons.mp (I.stkSub b z)).elim hL hb) hc) (fun b o _ _ hc e n => u.any e n hc) (fun b o hc e n => u.free b o e n hc) (fun b o hc e => u.there b o e hc) u.tups u.frzs u.tbls (fun m' hm => by
    obtain ⟨o', es', ep', ho', r'⟩ := hm
    rw [ho] at ho'; cases ho'
    exact ⟨_, es', ep', hL, r'⟩) hok hg
theorem Inv.turned {t' : Nat} {it : Addr} (I : Inv X pins σ H s) (k : ∀ b o, b ≠ it → s.heap.get? b = some o → h'.get? b = some o) (hn : H it = none) (hL : it ≠ X.env.locals)
    (h1 : it ∈ X.ex ∨ X.s₀.heap.objs.size ≤ it) (h2 : ∀ x c, X.env.cells.lookup x = some c → c ≠ it) (h3 : ∀ p ∈ X.pn ++ pins, p.1 ≠ it) : Inv X pins σ H { s with heap := h', toks := t' } := by
  have nit : ∀ b u, H b = some u → b ≠ it := fun b u e z => by rw [z, hn] at e; cases e
  refine I.step (g' := s.gens) (d' := s.drawn) (ch := [it]) (fun b hb => ?_) (fun b o _ _ hc e _ => k b o (fun z => hc (by simp [z])) e) (fun b o _ _ hc e _ => ⟨o.slots, k b o (fun z => hc (by simp [z])) e⟩) (fun _ _ _ _ n => n)
    (fun b o hc e => ⟨o, k b o (fun z => hc (by simp [z])) e⟩) (fun _ _ e => e) (fun _ _ _ e => e) (fun b ps e => ⟨#[], by rw [e]; simp⟩) (fun m hm => ?_) (fun b u e => ?_) I.bare
  · have e : b = it := by simpa using hb
    subst e
    exact ⟨h1, hL, h2, h3⟩
  · obtain ⟨o, es, ep, ho, r⟩ := hm
    exact ⟨o, es, ep, k _ o (Ne.symm hL) ho, r⟩
  · refine (I.hok b u e).stay (fun c v hc q => k c v ?_ q) (fun _ q => q) fun _ _ q => q
    rcases hc with z | z
    · rw [z]; exact nit b u e
    · exact nit c _ z
theorem Inv.tok (I : Inv X pins σ H s) (t : Nat) : Inv X pins σ H { s with toks := t } := I.un (h' := s.heap) (t' := t) Un.refl I.hok
theorem Inv.kept {t' : Nat} (I : Inv X pins σ H s) (k : ∀ b u, s.heap.get? b = some u → h'.get? b = some u) : Inv X pins σ H { s with heap := h', toks := t' } := I.un (Un.kept k) (I.hok.kept k)
theorem Inv.laid {a : Addr} {o : HO} {t' : Nat} (I : Inv X pins σ H s) (k : ∀ b u, s.heap.get? b = some u → h'.get? b = some u) (hp : s.heap.objs.size ≤ a) (new : ObjOk X.prog X.w (upd H a o) h' a o) :
    Inv X pins σ (upd H a o) { s with heap := h', toks := t' } := I.un (Un.laid k hp (I.hok.fresh hp)) (I.hok.laid k hp new)
theorem Inv.write {x e : Addr} {o : HO} {t' : Nat} (I : Inv X pins σ H s) (mu : Mut (H x)) (he : e = x ∨ H e = some (.own x)) (k : ∀ b u, b ≠ e → s.heap.get? b = some u → h'.get? b = some u) (heo : ∃ u, h'.get? e = some u)
    (new : ObjOk X.prog X.w (upd H x o) h' x o) : Inv X pins σ (upd H x o) { s with heap := h', toks := t' } := I.un (Un.write mu he k heo) (I.hok.write mu he k heo new)
theorem Inv.pins_of {pins' : List (Addr × Obj)} (I : Inv X pins σ H s) (h : ∀ p ∈ pins', s.heap.get? p.1 = some p.2 ∧ H p.1 = none ∧ p.1 ≠ X.env.locals ∧ p.1 ∉ X.fs ∧ ∀ v, p.2.data ≠ .cell v) : Inv X pins' σ H s :=
  ⟨I.ok, I.os, I.bare, I.base, I.loc, I.cell, I.free, I.freeC, fun p hp => (List.mem_append.mp hp).elim (fun z => I.pin p (List.mem_append_left _ z)) (h p), I.hok, I.len⟩
theorem nodup_ix {N : List Str} (hN : N.Nodup) {i j : Nat} {x : Str} (a : N[i]? = some x) (b : N[j]? = some x) : i = j := by
  obtain ⟨h1, e1⟩ := List.getElem?_eq_some_iff.mp a
  obtain ⟨h2, e2⟩ := List.getElem?_eq_some_iff.mp b
  exact (List.getElem_inj hN).mp (e1.trans e2.symm)
theorem store_ok2 {M : Model} {A : Around} {E : Value → Shared → Prop} {i : Nat} {x : Str} {v : V} {u : Value} {Q : Unit → Shared → Prop} (I : Inv X pins σ H s) (hN : X.N.Nodup) (hi : X.N[i]? = some x) (hx : Loc X.env.scope x) (r : RelV v u)
    (h : ∀ s', Inv X pins (σ.set i (some v)) H s' → (∃ a, Heap.SameBut a s.heap s'.heap ∧ (a = X.env.locals ∨ X.env.cells.lookup x = some a)) → Q () s') (hf : X.fn x = true ∨ X.env.scope.names.lookup x = some .local := by first | exact .inl rfl | exact .inr rfl | assumption) : wpAny M A (storeName X.env x u) Q E s := by
  obtain ⟨m, hn, hl⟩ := id I.loc
  have hcls : (X.env.scope.kind == .class || (X.env.scope.kind == .module && X.env.locals != X.env.globals)) = false := by rw [I.ok.kind]; rfl
  have hiσ : i < σ.length := by rw [I.len]; exact (List.getElem?_eq_some_iff.mp hi).1
  have cne := I.cne
  have tracked : ∀ {a : Addr} {h' : Heap}, (∃ o, s.heap.get? a = some o ∧ H a = none) → Heap.SameBut a s.heap h' → HOk X.prog X.w H h' := fun {a h'} ha hs b ob e => by
    obtain ⟨_, _, hfree⟩ := ha
    refine (I.hok b ob e).stay (fun c w' hc q => (hs.2 c ?_).trans q) (fun _ q => q) fun _ _ q => q
    rintro rfl
    rcases hc with rfl | hc
    · rw [hfree] at e; cases e
    · rw [hfree] at hc; cases hc
  rcases hx with hk | hk
  · refine wpAny_storeName_local hk hn (fun h' hn' hs => ?_) hcls
    obtain ⟨oL, _, _, hoL, _⟩ := id hn
    refine h _ ⟨I.ok, I.os, I.bare, ⟨fun b o e n hb hx => ?_, fun b o e n hb hx => ?_, I.base.free, fun b o e hx => ?_, I.base.tups, I.base.frzs, I.base.tbls⟩, ⟨_, hn', fun j y v' e1 e2 e3 => ?_⟩, fun y c e => ?_, I.free, I.freeC, fun p hp => ?_, tracked ⟨oL, hoL, I.free⟩ hs, by simpa using I.len⟩ ⟨_, hs, .inl rfl⟩
    · exact (hs.2 b (Nat.ne_of_lt (Nat.lt_of_lt_of_le (Heap.lt_size e) I.ok.above))).trans (I.base.keep b o e n hb hx)
    · obtain ⟨sl, e1⟩ := I.base.slot b o e n hb hx
      exact ⟨sl, (hs.2 b (Nat.ne_of_lt (Nat.lt_of_lt_of_le (Heap.lt_size e) I.ok.above))).trans e1⟩
    · obtain ⟨o', e1⟩ := I.base.there b o e hx
      exact ⟨o', (hs.2 b (Nat.ne_of_lt (Nat.lt_of_lt_of_le (Heap.lt_size e) I.ok.above))).trans e1⟩
    · by_cases hj : j = i
      · subst hj
        rw [hi] at e1; cases e1
        rw [List.getElem?_set_self hiσ] at e2
        cases e2
        exact ⟨u, r, .inl ⟨hk, by simp⟩⟩
      · rw [List.getElem?_set_ne (Ne.symm hj)] at e2
        obtain ⟨u', r', q⟩ := hl j y v' e1 e2 e3
        refine ⟨u', r', ?_⟩
        rcases q with ⟨k, e⟩ | ⟨k, c, e, z⟩
        · refine .inl ⟨k, ?_⟩
          have : y ≠ x := fun e => hj (nodup_ix hN e1 (e ▸ hi))
          simp [this, e]
        · exact .inr ⟨k, c, e, z.sameBut hs (cne y c e)⟩
    · obtain ⟨w', z⟩ := I.cell y c e
      exact ⟨w', z.sameBut hs (cne y c e)⟩
    · obtain ⟨e, n, ne, nf, d⟩ := I.pin p hp
      exact ⟨(hs.2 p.1 ne).trans e, n, ne, nf, d⟩
  · have hfn : X.fn x = true := by
      rcases hf with z | z
      · exact z
      · rw [z] at hk; cases hk
    obtain ⟨c, hc⟩ := I.ok.has x (.inl hk)
    obtain ⟨w', z⟩ := I.cell x c hc
    refine wpAny_storeName_cell I.ok.kind hk hc z (fun h' hc' hs => ?_)
    obtain ⟨oc, hoc, hocd⟩ := id z
    refine h { s with heap := h' } ⟨I.ok, I.os, I.bare, ⟨fun b o e n hb hx => ?_, fun b o e n hb hx => ?_, I.base.free, fun b o e hx => ?_, I.base.tups, I.base.frzs, I.base.tbls⟩, ⟨m, hn.sameBut hs (Ne.symm (cne x c hc)), fun j y v' e1 e2 e3 => ?_⟩, fun y c' e => ?_, I.free, I.freeC, fun p hp => ?_, tracked ⟨oc, hoc, I.freeC x c hc⟩ hs, by simpa using I.len⟩ ⟨c, hs, .inr hc⟩
    · exact (hs.2 b (Nat.ne_of_lt (Nat.lt_of_lt_of_le (Heap.lt_size e) (I.ok.cab x c hfn hc)))).trans (I.base.keep b o e n hb hx)
    · obtain ⟨sl, e1⟩ := I.base.slot b o e n hb hx
      exact ⟨sl, (hs.2 b (Nat.ne_of_lt (Nat.lt_of_lt_of_le (Heap.lt_size e) (I.ok.cab x c hfn hc)))).trans e1⟩
    · obtain ⟨o', e1⟩ := I.base.there b o e hx
      exact ⟨o', (hs.2 b (Nat.ne_of_lt (Nat.lt_of_lt_of_le (Heap.lt_size e) (I.ok.cab x c hfn hc)))).trans e1⟩
    · by_cases hj : j = i
      · subst hj
        rw [hi] at e1; cases e1
        rw [List.getElem?_set_self hiσ] at e2
        cases e2
        exact ⟨u, r, .inr ⟨.inl hk, c, hc, hc'⟩⟩
      · rw [List.getElem?_set_ne (Ne.symm hj)] at e2
        obtain ⟨u', r', q⟩ := hl j y v' e1 e2 e3
        refine ⟨u', r', ?_⟩
        rcases q with q | ⟨k, c', e, z'⟩
        · exact .inl q
        · refine .inr ⟨k, c', e, z'.sameBut hs ?_⟩
          rintro rfl
          exact hj (nodup_ix hN e1 (I.ok.inj _ _ _ e hc ▸ hi))
    · by_cases hcc : c' = c
      · subst hcc; exact ⟨_, hc'⟩
      · obtain ⟨w2, z2⟩ := I.cell y c' e
        exact ⟨w2, z2.sameBut hs hcc⟩
    · obtain ⟨e, n, ne, nf, d⟩ := I.pin p hp
      refine ⟨(hs.2 p.1 ?_).trans e, n, ne, nf, d⟩
      intro q
      rw [q, hoc] at e
      have q' : oc = p.2 := Option.some.inj e
      exact d w' (by rw [← q']; exact hocd)
theorem store_ok {M : Model} {A : Around} {E : Value → Shared → Prop} {i : Nat} {x : Str} {v : V} {u : Value} {Q : Unit → Shared → Prop} (I : Inv X pins σ H s) (hN : X.N.Nodup) (hi : X.N[i]? = some x) (hx : Loc X.env.scope x) (r : RelV v u)
    (h : ∀ s', Inv X pins (σ.set i (some v)) H s' → Q () s') (hf : X.fn x = true ∨ X.env.scope.names.lookup x = some .local := by first | exact .inl rfl | exact .inr rfl | assumption) : wpAny M A (storeName X.env x u) Q E s :=
  store_ok2 I hN hi hx r (fun s' I' _ => h s' I') hf
theorem Inv.call' {s' : Shared} {ch : List Addr} (I : Inv X pins σ H s) (ho : s'.os = s.os) (u : Un (frs X.stack) ch H H' s.heap s'.heap) (hok : HOk X.prog X.w H' s'.heap) (hg : AllBare s'.gens)
    (hch : ∀ b ∈ ch, (b ∈ X.ex ∨ X.s₀.heap.objs.size ≤ b) ∧ b ≠ X.env.locals ∧ (∀ x c, X.env.cells.lookup x = some c → c ≠ b) ∧ ∀ p ∈ X.pn ++ pins, p.1 ≠ b) : Inv X pins σ H' s' := by
  obtain ⟨h', g', d', t', o'⟩ := s'
  have e : o' = s.os := ho
  subst e
  exact I.call (g' := g') (t' := t') (d' := d') u hok hg hch
end
noncomputable abbrev XK := Value → Option Addr → Hp → Prop
noncomputable abbrev St := List (Option V)
noncomputable abbrev VK := V → Hp → Prop
noncomputable abbrev TE := St → Hp → VK → Prop
noncomputable abbrev TT := St → Hp → (Bool → Hp → Prop) → Prop
noncomputable abbrev TA := St → Hp → (List V → Hp → Prop) → Prop
structure Ends where
  nx : St → Hp → Prop
  rt : VK
  bk : St → Hp → Prop := fun _ _ => False
  ct : St → Hp → Prop := fun _ _ => False
noncomputable abbrev TS := Ends → St → Hp → Prop
noncomputable def EP (X : Cx) (pins : List (Addr × Obj)) (σ : St) (Q : VK) (u : Value) (s' : Shared) : Prop := ∃ v H', Inv X pins σ H' s' ∧ RelV v u ∧ Q v H'
noncomputable def TP (X : Cx) (pins : List (Addr × Obj)) (σ : St) (Q : Bool → Hp → Prop) (b : Bool) (s' : Shared) : Prop := ∃ H', Inv X pins σ H' s' ∧ Q b H'
noncomputable def AP (X : Cx) (pins : List (Addr × Obj)) (σ : St) (Q : List V → Hp → Prop) (us : List Value) (s' : Shared) : Prop := ∃ vs H', Inv X pins σ H' s' ∧ Vals vs us ∧ Q vs H'
noncomputable def SP (X : Cx) (pins : List (Addr × Obj)) (D : Ends) (f : Flow) (s' : Shared) : Prop :=
  match f with
  | .next => ∃ σ' H', Inv X pins σ' H' s' ∧ D.nx σ' H'
  | .brk => ∃ σ' H', Inv X pins σ' H' s' ∧ D.bk σ' H'
  | .cont => ∃ σ' H', Inv X pins σ' H' s' ∧ D.ct σ' H'
  | .ret u => ∃ v σ' H', Inv X pins σ' H' s' ∧ RelV v u ∧ D.rt v H'
noncomputable def PE (X : Cx) (e : Expr) (t : TE) : Prop :=
  ∀ (pins : List (Addr × Obj)) (s : Shared) (σ : St) (H : Hp) (Q : VK), Inv X pins σ H s → t σ H Q → wpAny (model X.prog X.w) X.A (eval e X.env) (EP X pins σ Q) X.xe s
noncomputable def PT (X : Cx) (e : Expr) (t : TT) : Prop :=
  ∀ (pins : List (Addr × Obj)) (s : Shared) (σ : St) (H : Hp) (Q : Bool → Hp → Prop), Inv X pins σ H s → t σ H Q → wpAny (model X.prog X.w) X.A (isTrue e X.env (eval e X.env)) (TP X pins σ Q) X.xe s
noncomputable def PW (X : Cx) (e : Expr) (t : TT) : Prop :=
  ∀ (whole : Sem Value) (pins : List (Addr × Obj)) (s : Shared) (σ : St) (H : Hp) (Q : Bool → Hp → Prop), Inv X pins σ H s → t σ H Q → wpAny (model X.prog X.w) X.A (isTrue e X.env whole) (TP X pins σ Q) X.xe s
theorem PW.pt {X : Cx} {e : Expr} {t : TT} (h : PW X e t) : PT X e t := h _
noncomputable def PA (X : Cx) (es : List Expr) (t : TA) : Prop :=
  ∀ (pos : Pos) (pins : List (Addr × Obj)) (s : Shared) (σ : St) (H : Hp) (Q : List V → Hp → Prop), Inv X pins σ H s → t σ H Q → wpAny (model X.prog X.w) X.A (spliced (backTo pos (starEach es X.env))) (AP X pins σ Q) X.xe s
noncomputable def PS (X : Cx) (st : Stmt) (t : TS) : Prop :=
  ∀ (pins : List (Addr × Obj)) (s : Shared) (σ : St) (H : Hp) (D : Ends), Inv X pins σ H s → t D σ H → wpAny (model X.prog X.w) X.A (exec st X.env) (SP X pins D) X.xe s
noncomputable def PSs (X : Cx) (st : List Stmt) (t : TS) : Prop :=
  ∀ (pins : List (Addr × Obj)) (s : Shared) (σ : St) (H : Hp) (D : Ends), Inv X pins σ H s → t D σ H → wpAny (model X.prog X.w) X.A (execs st X.env) (SP X pins D) X.xe s
theorem thn {α : Type} {t : Sem α} {Q Q' : α → Shared → Prop} {M : Model} {A : Around} {E : Value → Shared → Prop} {s : Shared} (h : wpAny M A t Q E s) (hQ : ∀ a s, Q a s → Q' a s) : wpAny M A t Q' E s := wpAny_mono h hQ fun _ _ x => x
end L2
namespace L2
open PySem PySem.Spec PyProof.Rows
section
variable {X : Cx}
noncomputable def tVar (i : Nat) : TE := fun σ H Q => ∃ v, σ[i]? = some (some v) ∧ Q v H
noncomputable def tC (v : V) : TE := fun _ H Q => Q v H
theorem pe_var {i : Nat} {x : Str} {pos : Pos} (hN : X.N[i]? = some x) (hv : Vis X.env.scope x) (hd : (x == ("__debug__" : Str)) = false := by decide) (hcd : (x == ("__classdict__" : Str)) = false := by decide) : PE X (.Name x pos) (tVar i) := by
  intro pins s σ H Q I h
  obtain ⟨v, e, h⟩ := h
  obtain ⟨m, hn, hl⟩ := I.loc
  obtain ⟨u, r, l⟩ := hl i x v hN e hv
  have fin : EP X pins σ Q u s := ⟨v, H, I, r, h⟩
  rcases l with ⟨hk, hm⟩ | ⟨hk, c, hc, hcell⟩
  · exact wpAny_Name (wpAny_loadName_local I.ok.kind hk hn hm fin) hd
  · rcases hk with hk | hk
    · exact wpAny_Name (wpAny_loadName_cell I.ok.kind hk hc hcell fin) hd
    · exact wpAny_Name (wpAny_loadName_free I.ok.kind hk hc hcell fin hcd) hd
theorem pe_int {i j pos} : PE X (.Constant (.int i) j pos) (tC (.int i)) := fun _ _ _ H _ I h => wpAny_Constant_int ⟨.int i, H, I.tok _, ⟨_, rfl⟩, h⟩
theorem pe_bl {b j pos} : PE X (.Constant (.bool b) j pos) (tC (.bl b)) := fun _ _ _ H _ I h => Constant_bool ⟨.bl b, H, I, rfl, h⟩
theorem pe_non {j pos} : PE X (.Constant .none j pos) (tC .non) := fun _ _ _ H _ I h => Constant_none ⟨.non, H, I, rfl, h⟩
noncomputable def Gl (X : Cx) (x : Str) : Prop := X.env.kindOf x = some .globalImplicit
theorem ld_glob {E : Value → Shared → Prop} {pins : List (Addr × Obj)} {s : Shared} {σ : St} {H : Hp} {x : Str} {u : Value} {pos : Pos} {Q : Value → Shared → Prop} (I : Inv X pins σ H s) (hg : Gl X x) (hm : X.mg x = some u) (h : Q u s)
    (hd : (x == ("__debug__" : Str)) = false := by decide) : wpAny (model X.prog X.w) X.A (eval (.Name x pos) X.env) Q E s :=
  Calls.Name_function_global I.ok.kind hg (Calls.loadGlobal_global (by rw [I.ok.glob]; exact I.mod.glob.keeps I.bk) hm h) hd
theorem ld_blt {E : Value → Shared → Prop} {pins : List (Addr × Obj)} {s : Shared} {σ : St} {H : Hp} {x : Str} {u : Value} {pos : Pos} {Q : Value → Shared → Prop} (I : Inv X pins σ H s) (hg : Gl X x) (hm : X.mg x = none) (hv : bootBuiltins x = some u) (h : Q u s)
    (hn : x ≠ "__name__" := by decide) (hd : (x == ("__debug__" : Str)) = false := by decide) : wpAny (model X.prog X.w) X.A (eval (.Name x pos) X.env) Q E s := by
  obtain ⟨mb, h1, h2⟩ := I.mod.blt
  exact Calls.Name_function_global I.ok.kind hg (Calls.loadGlobal_builtin (by rw [I.ok.glob]; exact I.mod.glob.keeps I.bk) hm (by rw [I.ok.blt]; exact h1.keeps I.bk) ((h2 x hn).trans hv) h) hd
theorem pe_glob {x : Str} {v : V} {u : Value} {pos : Pos} (hg : Gl X x) (hm : X.mg x = some u) (r : RelV v u) (hd : (x == ("__debug__" : Str)) = false := by decide) : PE X (.Name x pos) (tC v) :=
  fun _ _ _ H _ I h => ld_glob I hg hm ⟨v, H, I, r, h⟩ hd
theorem pe_bltn {x : Str} {v : V} {u : Value} {pos : Pos} (hg : Gl X x) (hm : X.mg x = none) (hv : bootBuiltins x = some u) (r : RelV v u) (hn : x ≠ "__name__" := by decide) (hd : (x == ("__debug__" : Str)) = false := by decide) : PE X (.Name x pos) (tC v) :=
  fun _ _ _ H _ I h => ld_blt I hg hm hv ⟨v, H, I, r, h⟩ hn hd
variable {a b : Expr} {ta tb : TE} {pos : Pos}
noncomputable def PC (X : Cx) (op : CmpOp) (a b : Expr) (t : TE) : Prop :=
  ∀ (pins : List (Addr × Obj)) (s : Shared) (σ : St) (H : Hp) (Q : VK), Inv X pins σ H s → t σ H Q →
    wpAny (model X.prog X.w) X.A (eval a X.env) (fun v s₁ => wpAny (model X.prog X.w) X.A (eval b X.env) (fun u s₂ => wpAny (model X.prog X.w) X.A (compareOp op v u) (EP X pins σ Q) X.xe s₂) X.xe s₁) X.xe s
noncomputable def tIsN (ta : TE) : TE := fun σ H Q => ta σ H fun x H1 => Q (.bl (decide (x = .non))) H1
noncomputable def tNotN (ta : TE) : TE := fun σ H Q => ta σ H fun x H1 => Q (.bl (!decide (x = .non))) H1
theorem RelV.none_iff {x : V} {v : Value} (r : RelV x v) : (v == Value.none) = decide (x = .non) := by
  cases x with
  | non => cases r; rfl
  | bl _ => cases r; rfl
  | int _ => obtain ⟨t, rfl⟩ := r; rfl
  | str _ => obtain ⟨t, rfl⟩ := r; rfl
  | byt _ => obtain ⟨t, rfl⟩ := r; rfl
  | flt _ => obtain ⟨t, rfl⟩ := r; rfl
  | ref _ => cases r; rfl
  | ty _ => cases r; rfl
theorem pc_isN {j pos'} (ha : PE X a ta) : PC X .Is a (.Constant .none j pos') (tIsN ta) := by
  intro pins s σ H Q I h
  refine thn (ha pins s σ H _ I h) fun v s1 ⟨x, H1, I1, r1, q1⟩ => ?_
  exact Constant_none (is_none_gen ⟨.bl _, H1, I1, by rw [r1.none_iff]; rfl, q1⟩)
theorem pc_notN {j pos'} (ha : PE X a ta) : PC X .IsNot a (.Constant .none j pos') (tNotN ta) := by
  intro pins s σ H Q I h
  refine thn (ha pins s σ H _ I h) fun v s1 ⟨x, H1, I1, r1, q1⟩ => ?_
  exact Constant_none (isnot_none_gen ⟨.bl _, H1, I1, by rw [r1.none_iff]; rfl, q1⟩)
noncomputable def tB (t : TE) : TT := fun σ H Q => t σ H fun x H1 => ∃ c, x = .bl c ∧ Q c H1
theorem pe_cmp {op : CmpOp} {t : TE} (h : PC X op a b t) (h1 : behindInMarks op b = false := by first | exact nobehind _ (by decide) (by decide) | rfl) : PE X (.Compare a [op] [b] pos) t := fun pins s σ H Q I hw => wpAny_Compare1 (h pins s σ H Q I hw) h1
theorem pt_cmp {op : CmpOp} {t : TE} (h : PC X op a b t) (h1 : behindInMarks op b = false := by first | exact nobehind _ (by decide) (by decide) | rfl) : PT X (.Compare a [op] [b] pos) (tB t) := by
  intro pins s σ H Q I hw
  refine wpAny_isTrue_Compare1 (thn (h pins s σ H _ I hw) fun v s1 h1 => thn h1 fun u s2 h2 => thn h2 fun c s3 ⟨x, H1, I1, r1, q1⟩ => ?_) h1
  obtain ⟨d, rfl, q⟩ := q1
  cases r1
  exact wpAny_truthy_bool ⟨H1, I1, q⟩
theorem pt_val {e : Expr} {t : TE} (h : PE X e t) (he : ∀ whole, isTrue e X.env whole = (do let v ← whole; standAt e.pos; holding [v] (truthy v)) := by intro _; rfl) : PT X e (tB t) := by
  intro pins s σ H Q I hw
  refine isTrue_plain (thn (h pins s σ H _ I hw) fun v s1 ⟨x, H1, I1, r1, q1⟩ => ?_) (he _)
  obtain ⟨d, rfl, q⟩ := q1
  cases r1
  exact wpAny_truthy_bool ⟨H1, I1, q⟩
variable {tA tB' : TT} {rest : List Expr}
noncomputable def tAnd (t u : TT) : TT := fun σ H Q => t σ H fun c H1 => if c = true then u σ H1 Q else Q false H1
noncomputable def tOr (t u : TT) : TT := fun σ H Q => t σ H fun c H1 => if c = true then Q true H1 else u σ H1 Q
noncomputable def tNot (t : TT) : TT := fun σ H Q => t σ H fun c H1 => Q (!c) H1
theorem pw_and1 (ha : PT X a tA) : PW X (.BoolOp .And [a] pos) tA := by
  intro wh pins s σ H Q I h
  refine isTrue_and (thn (ha pins s σ H Q I h) fun c s1 e => ?_)
  cases c with
  | true => exact isTrue_and_nil e
  | false => exact e
theorem pw_or1 (ha : PT X a tA) : PW X (.BoolOp .Or [a] pos) tA := by
  intro wh pins s σ H Q I h
  refine isTrue_or (thn (ha pins s σ H Q I h) fun c s1 e => ?_)
  cases c with
  | false => exact isTrue_or_nil e
  | true => exact e
theorem pw_and (ha : PT X a tA) (hb : PW X (.BoolOp .And (b :: rest) pos) tB') : PW X (.BoolOp .And (a :: b :: rest) pos) (tAnd tA tB') := by
  intro wh pins s σ H Q I h
  refine isTrue_and (thn (ha pins s σ H _ I h) fun c s1 ⟨H1, I1, q1⟩ => ?_)
  cases c with
  | true => exact hb wh pins s1 σ H1 Q I1 q1
  | false => exact ⟨H1, I1, q1⟩
theorem pw_or (ha : PT X a tA) (hb : PW X (.BoolOp .Or (b :: rest) pos) tB') : PW X (.BoolOp .Or (a :: b :: rest) pos) (tOr tA tB') := by
  intro wh pins s σ H Q I h
  refine isTrue_or (thn (ha pins s σ H _ I h) fun c s1 ⟨H1, I1, q1⟩ => ?_)
  cases c with
  | true => exact ⟨H1, I1, q1⟩
  | false => exact hb wh pins s1 σ H1 Q I1 q1
theorem pt_not (ha : PT X a tA) : PT X (.UnaryOp .Not a pos) (tNot tA) := by
  intro pins s σ H Q I h
  exact isTrue_not (ha pins s σ H (fun c H1 => Q (!c) H1) I h)
noncomputable def tAndV (ta tb : TE) : TE := fun σ H Q => ta σ H fun x H1 => ∃ c, x = .bl c ∧ if c = true then tb σ H1 Q else Q (.bl false) H1
noncomputable def tNotV (ta : TE) : TE := fun σ H Q => ta σ H fun x H1 => ∃ c, x = .bl c ∧ Q (.bl (!c)) H1
theorem pe_one {op} {t : TE} (h : PE X a t) : PE X (.BoolOp op [a] pos) t := fun pins s σ H Q I hw => BoolOp_one (h pins s σ H Q I hw)
theorem pe_and (ha : PE X a ta) (hb : PE X (.BoolOp .And (b :: rest) pos) tb) : PE X (.BoolOp .And (a :: b :: rest) pos) (tAndV ta tb) := by
  intro pins s σ H Q I h
  refine BoolOp_and (thn (ha pins s σ H _ I h) fun v s1 ⟨x, H1, I1, r1, q1⟩ => ?_)
  obtain ⟨c, rfl, q1⟩ := q1
  cases r1
  refine wpAny_truthy_bool ?_
  cases c with
  | true => exact hb pins s1 σ H1 Q I1 q1
  | false => exact ⟨.bl false, H1, I1, rfl, q1⟩
theorem pe_not (ha : PE X a ta) : PE X (.UnaryOp .Not a pos) (tNotV ta) := by
  intro pins s σ H Q I h
  refine UnaryOp_ (thn (ha pins s σ H _ I h) fun v s1 ⟨x, H1, I1, r1, q1⟩ => ?_)
  obtain ⟨c, rfl, q1⟩ := q1
  cases r1
  exact not_of (wpAny_truthy_bool ⟨.bl (!c), H1, I1, rfl, q1⟩)
end
end L2
namespace L2
open PySem PySem.Spec PyProof.Rows
noncomputable def SqL (K : PySem.W.Frag) (H : Hp) (a : Addr) (xs : List V) : Prop :=
  Rd H a (.lst xs) ∨
    ∃ (o : Obj) (its : Array Value) (n : Nat), K.lookup a = some o ∧ o.cls = .type "list" ∧ o.dict = none ∧ o.data = .seq its n ∧ its.size ≤ sizeLine ∧ Vals xs its.toList
noncomputable def SqT (K : PySem.W.Frag) (H : Hp) (a : Addr) (xs : List V) : Prop :=
  Rd H a (.tup xs) ∨
    ∃ (o : Obj) (its : Array Value) (n : Nat), K.lookup a = some o ∧ o.cls = .type "tuple" ∧ o.data = .seq its n ∧ its.size ≤ sizeLine ∧ Vals xs its.toList
noncomputable def absV : Value → Option V
  | .none => some .non
  | .bool b => some (.bl b)
  | .int i _ => some (.int i)
  | .str x _ => some (.str x)
  | .bytes b _ => some (.byt b)
  | .float b _ => some (.flt b)
  | .ref a => some (.ref a)
  | .type n => some (.ty n)
  | _ => none
theorem RelV.abs {x : V} {u : Value} (r : RelV x u) : absV u = some x := by
  cases x with
  | non => cases r; rfl
  | bl _ => cases r; rfl
  | int _ => obtain ⟨t, rfl⟩ := r; rfl
  | str _ => obtain ⟨t, rfl⟩ := r; rfl
  | byt _ => obtain ⟨t, rfl⟩ := r; rfl
  | flt _ => obtain ⟨t, rfl⟩ := r; rfl
  | ref _ => cases r; rfl
  | ty _ => cases r; rfl
theorem RelV.inj {x y : V} {u : Value} (r : RelV x u) (q : RelV y u) : x = y := Option.some.inj (r.abs.symm.trans q.abs)
theorem Vals.inj : ∀ {xs ys : List V} {us : List Value}, Vals xs us → Vals ys us → xs = ys
  | _, _, _, .nil, .nil => rfl
  | _, _, _, .cons r t, .cons r' t' => by rw [r.inj r', Vals.inj t t']
section
variable {X : Cx} {pins : List (Addr × Obj)} {σ : St} {H : Hp} {s : Shared} {a : Addr} {xs ys : List V}
theorem SqL.of {K : PySem.W.Frag} (h : H a = some (.lst xs)) : SqL K H a xs := .inl (.inl h)
theorem SqT.of {K : PySem.W.Frag} (h : H a = some (.tup xs)) : SqT K H a xs := .inl (.inl h)
theorem Inv.list (I : Inv X pins σ H s) (h : SqL X.K H a xs) : ∃ its : List Value, Vals xs its ∧ PlainL s.heap a its.toArray ∧ xs.length ≤ sizeLine := by
  rcases h with h | ⟨o, its, n, hk, hc, hd, hs, hz, r⟩
  · obtain ⟨z, its, n, r, e⟩ := h.ok I.hok
    exact ⟨its, r, ⟨_, n, e, rfl, rfl, rfl⟩, z⟩
  · refine ⟨its.toList, r, ⟨o, n, I.kIn a o hk, hc, hd, by simpa using hs⟩, ?_⟩
    have e := r.length
    simp only [Array.length_toList] at e
    omega
theorem Inv.tuple (I : Inv X pins σ H s) (h : SqT X.K H a xs) : ∃ its : List Value, Vals xs its ∧ IsTup s.heap a its.toArray ∧ xs.length ≤ sizeLine := by
  rcases h with h | ⟨o, its, n, hk, hc, hs, hz, r⟩
  · obtain ⟨z, its, r, p⟩ := h.ok I.hok
    exact ⟨its, r, p, z⟩
  · refine ⟨its.toList, r, ⟨o, I.kIn a o hk, hc, n, by simpa using hs⟩, ?_⟩
    have e := r.length
    simp only [Array.length_toList] at e
    omega
theorem Inv.list_inj (I : Inv X pins σ H s) (h : SqL X.K H a xs) (h' : SqL X.K H a ys) : xs = ys := by
  obtain ⟨its, r, ⟨o, n, e, _, _, d⟩, _⟩ := I.list h
  obtain ⟨its', r', ⟨o', n', e', _, _, d'⟩, _⟩ := I.list h'
  rw [e] at e'; cases e'
  rw [d] at d'
  injection d' with d1 _
  have : its = its' := by simpa using congrArg Array.toList d1
  subst this
  exact r.inj r'
theorem Inv.tuple_inj (I : Inv X pins σ H s) (h : SqT X.K H a xs) (h' : SqT X.K H a ys) : xs = ys := by
  obtain ⟨its, r, ⟨o, e, _, n, d⟩, _⟩ := I.tuple h
  obtain ⟨its', r', ⟨o', e', _, n', d'⟩, _⟩ := I.tuple h'
  rw [e] at e'; cases e'
  rw [d] at d'
  injection d' with d1 _
  have : its = its' := by simpa using congrArg Array.toList d1
  subst this
  exact r.inj r'
end
noncomputable abbrev Cx.wish (X : Cx) (E : Value → Shared → Prop) : Cx := { X with xe := E }
noncomputable abbrev Cx.nox (X : Cx) : Cx := X.wish fun _ _ => False
theorem Cx.Ok.wish {X : Cx} (ok : X.Ok) (E : Value → Shared → Prop) : (X.wish E).Ok :=
  ⟨ok.mod, ok.kind, ok.glob, ok.blt, ok.above, ok.inj, ok.has, ok.cab, ok.hd, ok.frames, ok.stk, ok.exf, ok.bs, ok.bsz, ok.noex, ok.exfs, ok.funs, ok.frf⟩
theorem Cx.Ok.unwish {X : Cx} {E : Value → Shared → Prop} (ok : (X.wish E).Ok) : X.Ok :=
  ⟨ok.mod, ok.kind, ok.glob, ok.blt, ok.above, ok.inj, ok.has, ok.cab, ok.hd, ok.frames, ok.stk, ok.exf, ok.bs, ok.bsz, ok.noex, ok.exfs, ok.funs, ok.frf⟩
section
variable {X : Cx} {pins : List (Addr × Obj)} {σ : St} {H : Hp} {s : Shared} {E : Value → Shared → Prop}
theorem Inv.wish (I : Inv X pins σ H s) (E : Value → Shared → Prop) : Inv (X.wish E) pins σ H s := ⟨I.ok.wish E, I.os, I.bare, I.base, I.loc, I.cell, I.free, I.freeC, I.pin, I.hok, I.len⟩
theorem Inv.unwish (I : Inv (X.wish E) pins σ H s) : Inv X pins σ H s := ⟨I.ok.unwish, I.os, I.bare, I.base, I.loc, I.cell, I.free, I.freeC, I.pin, I.hok, I.len⟩
theorem SP.unwish {D : Ends} {f : Flow} {s' : Shared} (h : SP (X.wish E) pins D f s') : SP X pins D f s' := by
  cases f with
  | next => obtain ⟨σ', H', I, q⟩ := h; exact ⟨σ', H', I.unwish, q⟩
  | brk => obtain ⟨σ', H', I, q⟩ := h; exact ⟨σ', H', I.unwish, q⟩
  | cont => obtain ⟨σ', H', I, q⟩ := h; exact ⟨σ', H', I.unwish, q⟩
  | ret u => obtain ⟨v, σ', H', I, r, q⟩ := h; exact ⟨v, σ', H', I.unwish, r, q⟩
theorem PSs.nox {st : List Stmt} {t : TS} (h : PSs X.nox st t) : PSs X st t := fun pins s σ H D I hw =>
  wpAny_mono (h pins s σ H D (I.wish _) hw) (fun _ _ q => q.unwish) fun _ _ z => False.elim z
end
section
variable {X : Cx} {st : Stmt} {rest : List Stmt} {t u : TS} {e : Expr} {te : TE} {pos : Pos}
noncomputable def tNext : TS := fun D σ H => D.nx σ H
noncomputable def tSeq (t u : TS) : TS := fun D σ H => t { D with nx := u D } σ H
theorem pss_nil : PSs X [] tNext := fun _ _ σ H _ I h => wpAny_execs_nil ⟨σ, H, I, h⟩
theorem pss_cons (h1 : PS X st t) (h2 : PSs X rest u) : PSs X (st :: rest) (tSeq t u) := by
  intro pins s σ H D I h
  refine wpAny_execs_cons (thn (h1 pins s σ H { D with nx := u D } I h) fun f s1 q => ?_)
  cases f with
  | next =>
    obtain ⟨σ', H', I', q⟩ := q
    exact h2 pins s1 σ' H' D I' q
  | ret v => exact q
  | brk => exact q
  | cont => exact q
theorem pss_one (h1 : PS X st t) : PSs X [st] t := by
  intro pins s σ H D I h
  refine wpAny_execs_cons (thn (h1 pins s σ H D I h) fun f s1 q => ?_)
  cases f with
  | next => exact wpAny_execs_nil q
  | ret v => exact q
  | brk => exact q
  | cont => exact q
theorem Inv.quiet {pins : List (Addr × Obj)} {σ : St} {H : Hp} {s : Shared} (I : Inv X pins σ H s) : interactive X.env = false := by simp [interactive, I.ok.kind]
noncomputable def tDrop (te : TE) : TS := fun D σ H => te σ H fun _ H1 => D.nx σ H1
theorem ps_expr (he : PE X e te) (hs : swapsWith e none pos.line X.env = pure false := by rfl) : PS X (.Expr e pos) (tDrop te) := by
  intro pins s σ H D I h
  exact wpAny_Expr_any (thn (he pins s σ H _ I h) fun v s1 ⟨x, H1, I1, r1, q1⟩ => ⟨σ, H1, I1, q1⟩) I.quiet hs
noncomputable def tRet (te : TE) : TS := fun D σ H => te σ H D.rt
theorem ps_ret (he : PE X e te) : PS X (.Return (some e) pos) (tRet te) := by
  intro pins s σ H D I h
  exact wpAny_Return_some (thn (he pins s σ H _ I h) fun v s1 ⟨x, H1, I1, r1, q1⟩ => ⟨x, σ, H1, I1, r1, q1⟩)
noncomputable def tIfS (c : TT) (t u : TS) : TS := fun D σ H => c σ H fun b H1 => if b = true then t D σ H1 else u D σ H1
theorem ps_if {c : Expr} {a b : List Stmt} {tc : TT} (hc : PT X c tc) (ha : PSs X a t) (hb : PSs X b u) : PS X (.If c a b pos) (tIfS tc t u) := by
  intro pins s σ H D I h
  refine wpAny_If (thn (hc pins s σ H _ I h) fun d s1 ⟨H1, I1, q1⟩ => ?_)
  cases d with
  | true => exact ha pins s1 σ H1 D I1 q1
  | false => exact hb pins s1 σ H1 D I1 q1
noncomputable def tNever : TS := fun _ _ _ => False
theorem ps_never : PS X st tNever := fun _ _ _ _ _ _ h => h.elim
end
noncomputable abbrev TG := V → St → Hp → (St → Hp → Prop) → Prop
noncomputable abbrev TGs := List V → St → Hp → (St → Hp → Prop) → Prop
noncomputable def PG (X : Cx) (target : Expr) (t : TG) : Prop :=
  ∀ (pins : List (Addr × Obj)) (s : Shared) (σ : St) (H : Hp) (v : V) (u : Value) (Q : St → Hp → Prop), Inv X pins σ H s → RelV v u → t v σ H Q →
    wpAny (model X.prog X.w) X.A (assign target X.env u) (fun _ s' => ∃ σ' H', Inv X pins σ' H' s' ∧ Q σ' H') X.xe s
noncomputable def PGs (X : Cx) (ts : List Expr) (t : TGs) : Prop :=
  ∀ (pins : List (Addr × Obj)) (s : Shared) (σ : St) (H : Hp) (vs : List V) (us : List Value) (Q : St → Hp → Prop), Inv X pins σ H s → Vals vs us → t vs σ H Q →
    wpAny (model X.prog X.w) X.A (assignInOrder ((assignEach ts X.env).map (·.2)) us) (fun _ s' => ∃ σ' H', Inv X pins σ' H' s' ∧ Q σ' H') X.xe s
section
variable {X : Cx} {pos : Pos}
noncomputable def gName (i : Nat) : TG := fun v σ H Q => Q (σ.set i (some v)) H
theorem pg_name {i : Nat} {x : Str} (hN : X.N.Nodup) (hi : X.N[i]? = some x) (hx : Loc X.env.scope x) (hf : X.fn x = true ∨ X.env.scope.names.lookup x = some .local := by first | exact .inl rfl | exact .inr rfl | assumption) : PG X (.Name x pos) (gName i) := by
  intro pins s σ H v u Q I r h
  exact wpAny_assign_Name (store_ok I hN hi hx r (fun s' I' => ⟨_, H, I', h⟩) hf)
noncomputable def gNil : TGs := fun vs σ H Q => vs = [] ∧ Q σ H
noncomputable def gCons (t : TG) (u : TGs) : TGs := fun vs σ H Q => ∃ v r, vs = v :: r ∧ t v σ H fun σ' H' => u r σ' H' Q
theorem pgs_nil : PGs X [] gNil := by
  intro pins s σ H vs us Q I r h
  obtain ⟨e, h⟩ := h
  subst e
  cases r
  exact assignInOrder_nil ⟨σ, H, I, h⟩
theorem pgs_cons {e : Expr} {es : List Expr} {t : TG} {u : TGs} (h1 : PG X e t) (h2 : PGs X es u)
    (hs : (assignEach (e :: es) X.env).map (·.2) = assign e X.env :: (assignEach es X.env).map (·.2) := by rfl) : PGs X (e :: es) (gCons t u) := by
  intro pins s σ H vs us Q I r h
  obtain ⟨v, vr, e1, h⟩ := h
  subst e1
  cases r with
  | cons r rr =>
    rw [hs]
    refine assignInOrder_cons (thn (h1 pins s σ H _ _ _ I r h) fun _ s1 ⟨σ1, H1, I1, q1⟩ => ?_)
    exact h2 pins s1 σ1 H1 _ _ Q I1 rr q1
noncomputable def gTup (K : PySem.W.Frag) (n : Nat) (t : TGs) : TG := fun v σ H Q => ∃ a xs, v = .ref a ∧ SqT K H a xs ∧ xs.length = n ∧ t xs σ H Q
theorem pg_tup {es : List Expr} {k : Nat} {t : TGs} {n : Nat} (hc : X.calm = true) (h : PGs X es t)
    (hn : (assignEach es X.env).length = n := by rfl) (hst : (assignEach es X.env).findIdx? (·.1) = none := by rfl) : PG X (.Tuple es k pos) (gTup X.K n t) := by
  intro pins s σ H v u Q I r hw
  obtain ⟨a, xs, e1, hq, hl, hw⟩ := hw
  subst e1
  cases r
  obtain ⟨its, rv, ht, hz⟩ := I.tuple hq
  refine assign_Tuple_tuple (I.ok.hd hc) ht (by simp [hn, ← hl, rv.length]) hst fun h' hx => ?_
  have I1 : Inv X pins σ H { s with heap := h' } := I.kept (t' := s.toks) fun b o e => hx b o (Nat.ne_of_lt (Heap.lt_size e)) e
  exact h pins _ σ H xs _ Q I1 (by simpa using rv) hw
noncomputable def tAsg (te : TE) (g : TG) : TS := fun D σ H => te σ H fun x H1 => g x σ H1 D.nx
theorem ps_asg {tg e : Expr} {te : TE} {g : TG} (he : PE X e te) (hg : PG X tg g) (hs : swapsWithSole [tg] e pos.line X.env = pure false := by rfl) (hw : swappedStores [tg] e X.env = pure none := by rfl)
    (h1 : (assignEach [tg] X.env).map (·.2) = [assign tg X.env] := by rfl) : PS X (.Assign [tg] e pos) (tAsg te g) := by
  intro pins s σ H D I h
  refine wpAny_Assign_stores (thn (he pins s σ H _ I h) fun v s1 ⟨x, H1, I1, r1, q1⟩ => ?_) hs hw
  rw [h1]
  exact thn (hg pins s1 σ H1 x v _ I1 r1 q1) fun _ s2 q => q
theorem ps_set {i : Nat} {x : Str} {e : Expr} {te : TE} {pos' : Pos} (hN : X.N.Nodup) (hi : X.N[i]? = some x) (hx : Loc X.env.scope x) (he : PE X e te) (hs : swapsWith e (some (.Name x pos')) pos.line X.env = pure false := by rfl) (hf : X.fn x = true ∨ X.env.scope.names.lookup x = some .local := by first | exact .inl rfl | exact .inr rfl | assumption) :
    PS X (.Assign [.Name x pos'] e pos) (tAsg te (gName i)) := by
  intro pins s σ H D I h
  refine wpAny_Assign_Name (thn (he pins s σ H _ I h) fun v s1 ⟨y, H1, I1, r1, q1⟩ => ?_) hs
  exact store_ok I1 hN hi hx r1 (fun s2 I2 => ⟨_, H1, I2, q1⟩) hf
end
section
variable {X : Cx} {pos : Pos}
noncomputable def tWhile (c : TT) (tb : TS) : TS := fun D σ H => ∃ W : Nat → St → Hp → Prop, (∃ m, W m σ H) ∧ ∀ m σ H, W m σ H →
  c σ H fun b H1 => if b = true then ∃ N : St → Hp → Prop, (∀ σ' H', N σ' H' → ∃ m', m' < m ∧ W m' σ' H') ∧ tb { D with nx := N, ct := N, bk := D.nx } σ H1 else D.nx σ H1
theorem ps_while {c : Expr} {body : List Stmt} {tc : TT} {tb : TS} (hp : PassesOwn (model X.prog X.w) X.A X.env X.xe) (hc : PT X c tc) (hb : PSs X body tb) : PS X (.While c body [] pos) (tWhile tc tb) := by
  intro pins s σ H D I h
  obtain ⟨W, ⟨m0, w0⟩, turn⟩ := h
  refine wpAny_While (codeAny_whileLoop (fun n s' => ∃ σ' H', Inv X pins σ' H' s' ∧ W n σ' H') ?_ m0 ⟨σ, H, I, w0⟩)
  rintro n s1 ⟨σ1, H1, I1, w1⟩
  refine wpAny_passesOwn hp (thn (hc pins s1 σ1 H1 _ I1 (turn n σ1 H1 w1)) fun b s2 ⟨H2, I2, q2⟩ => ?_)
  cases b with
  | true =>
    obtain ⟨N, hN, q2⟩ := q2
    rw [if_pos rfl]
    refine wpAny_passesOwn hp (thn (hb pins s2 σ1 H2 _ I2 q2) fun f s3 q3 => ?_)
    cases f with
    | next =>
      obtain ⟨σ3, H3, I3, n3⟩ := q3
      obtain ⟨m', hm, w3⟩ := hN σ3 H3 n3
      exact ⟨m', hm, σ3, H3, I3, w3⟩
    | cont =>
      obtain ⟨σ3, H3, I3, n3⟩ := q3
      obtain ⟨m', hm, w3⟩ := hN σ3 H3 n3
      exact ⟨m', hm, σ3, H3, I3, w3⟩
    | brk => exact q3
    | ret v => exact q3
  | false =>
    rw [if_neg Bool.false_ne_true]
    exact wpAny_execs_nil ⟨σ1, H2, I2, q2⟩
end
structure It where
  go : Nat → Hp → Prop
  yld : Nat → Hp → V → Hp → Prop
  stop : Nat → Hp → Prop
noncomputable def FpOk (X : Cx) (pins : List (Addr × Obj)) (H : Hp) (b : Addr) : Prop :=
  H b = none ∧ b ≠ X.env.locals ∧ b ∉ X.fs ∧ (b ∈ X.ex ∨ X.s₀.heap.objs.size ≤ b) ∧ (∀ x c, X.env.cells.lookup x = some c → c ≠ b) ∧ ∀ p ∈ X.pn ++ pins, p.1 ≠ b
theorem Inv.fpOk {X : Cx} {pins : List (Addr × Obj)} {σ : St} {H H' : Hp} {s : Shared} {b : Addr} (I : Inv X pins σ H s) (hb : s.heap.objs.size ≤ b) (hn : H' b = none) : FpOk X pins H' b := by
  refine ⟨hn, Nat.ne_of_gt (Nat.lt_of_lt_of_le I.lt hb), I.nofs hb, .inr (Nat.le_trans I.sz hb), fun x c e z => ?_, fun p hp z => ?_⟩
  · obtain ⟨v, q⟩ := I.cell x c e
    exact absurd (Nat.lt_of_lt_of_le q.lt (by rw [z]; exact hb)) (Nat.lt_irrefl _)
  · exact absurd (Nat.lt_of_lt_of_le (Heap.lt_size (I.pin p hp).1) (by rw [z]; exact hb)) (Nat.lt_irrefl _)
structure Turn (P : Program) (w : World) (K : PySem.W.Frag) (tg : Expr) (J : It) (fp : List Addr) (it : Addr) (tn : Nat → Heap → Prop) : Prop where
  mem : it ∈ fp
  obj : ∀ i h, tn i h → ∀ b ∈ fp, ∃ o, h.get? b = some o ∧ ∀ v, o.data ≠ .cell v
  keep : ∀ i h h', tn i h → (∀ b ∈ fp, ∀ o, h.get? b = some o → h'.get? b = some o) → tn i h'
  item : ∀ (X : Cx), X.prog = P → X.w = w → X.K = K → X.calm = true → ∀ (i : Nat) (pins : List (Addr × Obj)) (s : Shared) (σ : St) (H : Hp) (E : Value → Shared → Prop), Inv X pins σ H s → (∀ b ∈ fp, FpOk X pins H b) → tn i s.heap → J.go i H →
    wpAny (model P w) X.A (pyNext (.ref it)) (fun r s1 => ∃ u, r = some u ∧
      wpAny (model P w) X.A (letOwnedTupleGo tg (.ref it) u) (fun _ s2 => ∃ x H', Inv X pins σ H' s2 ∧ RelV x u ∧ J.yld i H x H' ∧ tn (i + 1) s2.heap ∧ ∀ b ∈ fp, H' b = none) E s1) E s
  done : ∀ (X : Cx), X.prog = P → X.w = w → X.K = K → X.calm = true → ∀ (i : Nat) (pins : List (Addr × Obj)) (s : Shared) (σ : St) (H : Hp) (E : Value → Shared → Prop), Inv X pins σ H s → (∀ b ∈ fp, FpOk X pins H b) → tn i s.heap → J.stop i H →
    wpAny (model P w) X.A (pyNext (.ref it)) (fun r s1 => r = none ∧ Inv X pins σ H s1) E s
  self : ∀ (A : Around) (i : Nat) (s : Shared) (Q : Value → Shared → Prop) (E : Value → Shared → Prop), tn i s.heap → Q (.ref it) s → wpAny (model P w) A (pyIter (.ref it)) Q E s
noncomputable abbrev TI := St → Hp → (It → Hp → Prop) → Prop
noncomputable def PIE (X : Cx) (pins : List (Addr × Obj)) (σ : St) (tg : Expr) (R : It → Hp → Prop) (itv : Value) (s2 : Shared) : Prop :=
  ∃ (it : Addr) (fp : List Addr) (tn : Nat → Heap → Prop) (J : It) (H' : Hp), itv = .ref it ∧ Inv X pins σ H' s2 ∧ Turn X.prog X.w X.K tg J fp it tn ∧ tn 0 s2.heap ∧ (∀ b ∈ fp, FpOk X pins H' b) ∧ R J H'
noncomputable def PI (X : Cx) (tg iter : Expr) (wi : TI) : Prop :=
  ∀ (pins : List (Addr × Obj)) (s : Shared) (σ : St) (H : Hp) (R : It → Hp → Prop), Inv X pins σ H s → wi σ H R →
    wpAny (model X.prog X.w) X.A (eval iter X.env) (fun v s1 => wpAny (model X.prog X.w) X.A (pyIter v) (PIE X pins σ tg R) X.xe s1) X.xe s
theorem go_of {M : Model} {A : Around} {E : Value → Shared → Prop} {s : Shared} {tg : Expr} {it : Addr} {u : Value} {o : Obj} {n : String} {vs : Array Value} {Q : Unit → Shared → Prop} (ho : s.heap.get? it = some o) (hc : o.cls = .type n) (hd : o.data = .fields vs)
    (hn : ["enumerate", "zip", "dict_itemiterator", "dict_reverseitemiterator", "odict_iterator", "itertools.zip_longest", "itertools.pairwise"].contains n = false) (hQ : Q () s) : wpAny M A (letOwnedTupleGo tg (.ref it) u) Q E s := by
  unfold letOwnedTupleGo
  cases tg <;> first
    | exact wpAny_pure hQ
    | (cases u <;> first
        | exact wpAny_pure hQ
        | (refine wpAny_bind (wpAny_load ho ?_)
           rw [hc, hd]
           show wpAny M A (if (["enumerate", "zip", "dict_itemiterator", "dict_reverseitemiterator", "odict_iterator", "itertools.zip_longest", "itertools.pairwise"].contains n && vs[0]? == some (rawInt _)) = true then _ else _) Q E s
           rw [if_neg (by intro h; rw [hn, Bool.false_and] at h; cases h)]
           exact wpAny_pure hQ))
noncomputable def Itl (K : PySem.W.Frag) (a : Addr) : It :=
  ⟨fun i H => ∃ xs x, SqL K H a xs ∧ xs[i]? = some x, fun i H x H' => H' = H ∧ ∀ xs, SqL K H a xs → xs[i]? = some x, fun i H => ∃ xs, SqL K H a xs ∧ xs.length ≤ i⟩
noncomputable def Itt (K : PySem.W.Frag) (a : Addr) : It :=
  ⟨fun i H => ∃ xs x, SqT K H a xs ∧ xs[i]? = some x, fun i H x H' => H' = H ∧ ∀ xs, SqT K H a xs → xs[i]? = some x, fun i H => ∃ xs, SqT K H a xs ∧ xs.length ≤ i⟩
noncomputable def Itr (lo : Int) (n : Nat) : It := ⟨fun i _ => i < n, fun i H x H' => H' = H ∧ x = .int (lo + i), fun i _ => n ≤ i⟩
theorem turn_list {P : Program} {w : World} {K : PySem.W.Frag} {tg : Expr} (a it : Addr) : Turn P w K tg (Itl K a) [it] it (fun i h => h.IsListIter it a i) where
  mem := by simp
  obj := fun i h st b hb => by
    have e : b = it := by simpa using hb
    subst e
    obtain ⟨o, e, c, d⟩ := st
    exact ⟨o, e, fun v z => by rw [d] at z; cases z⟩
  keep := fun i h h' st k => st.at fun o e => k it (by simp) o e
  item := by
    intro X hP hw hK hc i pins s σ H E I hf st hg
    subst hP hw hK
    obtain ⟨xs, x, hq, hx⟩ := hg
    obtain ⟨its, rv, p, hz⟩ := I.list hq
    obtain ⟨u, hu, ru⟩ := rv.get hx
    obtain ⟨f0, f1, f2, f3, f4, f5⟩ := hf it (by simp)
    refine wpAny_pyNext_list_item st p.isList (x := u) (by simpa using hu) fun h' st' sb => ?_
    have I1 : Inv X pins σ H { s with heap := h' } := I.turned (t' := s.toks) (fun b o hb e => (sb.2 b hb).trans e) f0 f1 f3 f4 f5
    obtain ⟨o, e, c, d⟩ := id st'
    exact ⟨u, rfl, go_of (s := { s with heap := h' }) e c d (by decide) ⟨x, H, I1, ru, ⟨rfl, fun ys hy => by rw [I.list_inj hy hq]; exact hx⟩, st', fun b hb => (hf b hb).1⟩⟩
  done := by
    intro X hP hw hK hc i pins s σ H E I hf st hg
    subst hP hw hK
    obtain ⟨xs, hq, hx⟩ := hg
    obtain ⟨its, rv, p, hz⟩ := I.list hq
    obtain ⟨f0, f1, f2, f3, f4, f5⟩ := hf it (by simp)
    have hl := rv.length
    exact wpAny_pyNext_list_end (I.ok.hd hc) st p.isList (by simp; omega) fun h' eb => ⟨rfl, I.turned (t' := s.toks) (fun b o hb e => eb b o hb e) f0 f1 f3 f4 f5⟩
  self := fun _ _ _ _ _ st h => wpAny_pyIter_listiter st h
theorem turn_tuple {P : Program} {w : World} {K : PySem.W.Frag} {tg : Expr} (a it : Addr) : Turn P w K tg (Itt K a) [it] it (fun i h => h.IsTupleIter it a i) where
  mem := by simp
  obj := fun i h st b hb => by
    have e : b = it := by simpa using hb
    subst e
    obtain ⟨o, e, c, d⟩ := st
    exact ⟨o, e, fun v z => by rw [d] at z; cases z⟩
  keep := fun i h h' st k => st.at fun o e => k it (by simp) o e
  item := by
    intro X hP hw hK hc i pins s σ H E I hf st hg
    subst hP hw hK
    obtain ⟨xs, x, hq, hx⟩ := hg
    obtain ⟨its, rv, p, hz⟩ := I.tuple hq
    obtain ⟨u, hu, ru⟩ := rv.get hx
    obtain ⟨f0, f1, f2, f3, f4, f5⟩ := hf it (by simp)
    refine wpAny_pyNext_tuple_item st (show s.heap.IsTuple a its.toArray from p) (x := u) (by simpa using hu) fun h' st' sb => ?_
    have I1 : Inv X pins σ H { s with heap := h' } := I.turned (t' := s.toks) (fun b o hb e => (sb.2 b hb).trans e) f0 f1 f3 f4 f5
    obtain ⟨o, e, c, d⟩ := id st'
    exact ⟨u, rfl, go_of (s := { s with heap := h' }) e c d (by decide) ⟨x, H, I1, ru, ⟨rfl, fun ys hy => by rw [I.tuple_inj hy hq]; exact hx⟩, st', fun b hb => (hf b hb).1⟩⟩
  done := by
    intro X hP hw hK hc i pins s σ H E I hf st hg
    subst hP hw hK
    obtain ⟨xs, hq, hx⟩ := hg
    obtain ⟨its, rv, p, hz⟩ := I.tuple hq
    obtain ⟨f0, f1, f2, f3, f4, f5⟩ := hf it (by simp)
    have hl := rv.length
    exact wpAny_pyNext_tuple_end (I.ok.hd hc) st (show s.heap.IsTuple a its.toArray from p) (by simp; omega) fun h' eb => ⟨rfl, I.turned (t' := s.toks) (fun b o hb e => eb b o hb e) f0 f1 f3 f4 f5⟩
  self := fun _ _ _ _ _ st h => wpAny_pyIter_tupleiter st h
theorem turn_range {P : Program} {w : World} {K : PySem.W.Frag} {tg : Expr} (it : Addr) (lo : Int) (n : Nat) : Turn P w K tg (Itr lo n) [it] it (fun i h => IsRangeIter h it (lo + (i : Nat) * 1) ((n : Int) - (i : Nat)) 1) where
  mem := by simp
  obj := fun i h st b hb => by
    have e : b = it := by simpa using hb
    subst e
    exact ⟨_, st, fun v z => by
      have z' : Data.fields _ = Data.cell v := z
      cases z'⟩
  keep := fun i h h' st k => k it (by simp) _ st
  item := by
    intro X hP hw hK hc i pins s σ H E I hf st hg
    subst hP hw hK
    obtain ⟨f0, f1, f2, f3, f4, f5⟩ := hf it (by simp)
    have W := Walks.range (prog := X.prog) (w := X.w) (I.ok.hd hc) it lo 1 n
    refine W.item i s _ _ hg st fun v h' tk hv st' kk => ?_
    obtain ⟨t, rfl⟩ := hv
    have I1 : Inv X pins σ H { s with heap := h', toks := tk } := I.turned (fun b o hb e => kk b o (by simpa using hb) e) f0 f1 f3 f4 f5
    refine ⟨_, rfl, go_of (s := { s with heap := h', toks := tk }) (n := "range_iterator") st' rfl rfl (by decide) ⟨.int (lo + i), H, I1, ⟨t, ?_⟩, ⟨rfl, rfl⟩, st', fun b hb => (hf b hb).1⟩⟩
    rw [Int.mul_one]
  done := by
    intro X hP hw hK hc i pins s σ H E I hf st hg
    subst hP hw hK
    obtain ⟨f0, f1, f2, f3, f4, f5⟩ := hf it (by simp)
    exact wpAny_pyNext_range_end (I.ok.hd hc) st (by have : n ≤ i := hg; omega) fun h' eb => ⟨rfl, I.turned (t' := s.toks) (fun b o hb e => eb b o hb e) f0 f1 f3 f4 f5⟩
  self := fun _ _ _ _ _ st h => wpAny_pyIter_rangeiter st h
end L2
namespace L2
open PySem PySem.Spec PyProof.Rows
section
variable {X : Cx} {tg : Expr}
noncomputable def iList (K : PySem.W.Frag) (tl : TE) : TI := fun σ H R => tl σ H fun x H1 => ∃ a, x = .ref a ∧ (∃ xs, SqL K H1 a xs) ∧ R (Itl K a) H1
noncomputable def iTup (K : PySem.W.Frag) (tl : TE) : TI := fun σ H R => tl σ H fun x H1 => ∃ a, x = .ref a ∧ (∃ xs, SqT K H1 a xs) ∧ R (Itt K a) H1
theorem pi_list {l : Expr} {tl : TE} (hl : PE X l tl) : PI X tg l (iList X.K tl) := by
  intro pins s σ H R I h
  refine thn (hl pins s σ H _ I h) fun v s1 ⟨x, H1, I1, r1, q1⟩ => ?_
  obtain ⟨a, e, ⟨xs, hq⟩, q⟩ := q1
  subst e
  cases r1
  obtain ⟨its, rv, p, hz⟩ := I1.list hq
  refine wpAny_pyIter_list p.isList ?_
  refine ⟨s1.heap.objs.size, [s1.heap.objs.size], _, _, H1, rfl, I1.kept (t' := s1.toks) fun b o e => Heap.get?_push_of_some _ e, turn_list a _, ⟨_, Heap.get?_push_size _ rfl, rfl, rfl⟩, fun b hb => ?_, q⟩
  have e : b = s1.heap.objs.size := by simpa using hb
  subst e
  exact I1.fpOk (Nat.le_refl _) (I1.hok.fresh (Nat.le_refl _))
theorem pi_tup {l : Expr} {tl : TE} (hl : PE X l tl) : PI X tg l (iTup X.K tl) := by
  intro pins s σ H R I h
  refine thn (hl pins s σ H _ I h) fun v s1 ⟨x, H1, I1, r1, q1⟩ => ?_
  obtain ⟨a, e, ⟨xs, hq⟩, q⟩ := q1
  subst e
  cases r1
  obtain ⟨its, rv, p, hz⟩ := I1.tuple hq
  refine wpAny_pyIter_tuple (show s1.heap.IsTuple a its.toArray from p) ?_
  refine ⟨s1.heap.objs.size, [s1.heap.objs.size], _, _, H1, rfl, I1.kept (t' := s1.toks) fun b o e => Heap.get?_push_of_some _ e, turn_tuple a _, ⟨_, Heap.get?_push_size _ rfl, rfl, rfl⟩, fun b hb => ?_, q⟩
  have e : b = s1.heap.objs.size := by simpa using hb
  subst e
  exact I1.fpOk (Nat.le_refl _) (I1.hok.fresh (Nat.le_refl _))
theorem range_it {pins : List (Addr × Obj)} {σ : St} {H : Hp} {s : Shared} {R : It → Hp → Prop} {E : Value → Shared → Prop} {lo hi : Int} {t u v : Tok} {tk : Nat} (I : Inv X pins σ H s) (h1 : -(2 ^ 62) ≤ lo) (h2 : lo < 2 ^ 62) (h3 : -(2 ^ 62) ≤ hi) (h4 : hi < 2 ^ 62)
    (q : R (Itr lo (hi - lo).toNat) H) : wpAny (model X.prog X.w) X.A (pyIter (.ref s.heap.objs.size)) (PIE X pins σ tg R) E { s with heap := s.heap.push { cls := .type "range", data := .fields #[.int lo t, .int hi u, .int 1 v] }, toks := tk } := by
  refine wpAny_pyIter_range (IsRange.new ..) (small_one h1 h2 h3 h4) ?_
  have I1 : Inv X pins σ H { s with heap := s.heap.push { cls := .type "range", data := .fields #[.int lo t, .int hi u, .int 1 v] }, toks := tk } := I.kept fun b o e => Heap.get?_push_of_some _ e
  refine ⟨(s.heap.push { cls := .type "range", data := .fields #[.int lo t, .int hi u, .int 1 v] }).objs.size, [(s.heap.push { cls := .type "range", data := .fields #[.int lo t, .int hi u, .int 1 v] }).objs.size], _, _, H, rfl,
    I1.kept (t' := tk) fun b o e => Heap.get?_push_of_some _ e, turn_range _ lo (hi - lo).toNat, ?_, fun b hb => ?_, q⟩
  · have e1 : lo + ((0 : Nat) : Int) * 1 = lo := by simp
    have e2 : (((hi - lo).toNat : Nat) : Int) - ((0 : Nat) : Int) = Builtin.Range.rangeSize lo hi 1 := by rw [rangeSize_one]; split <;> omega
    show IsRangeIter _ _ (lo + ((0 : Nat) : Int) * 1) ((((hi - lo).toNat : Nat) : Int) - ((0 : Nat) : Int)) 1
    rw [e1, e2]
    exact Heap.get?_push_size _ rfl
  · have e : b = (s.heap.push { cls := .type "range", data := .fields #[.int lo t, .int hi u, .int 1 v] }).objs.size := by simpa using hb
    subst e
    exact I1.fpOk (Nat.le_refl _) (I1.hok.fresh (Nat.le_refl _))
noncomputable def iRng1 (ta : TA) : TI := fun σ H R => ta σ H fun vs H1 => ∃ j : Int, vs = [.int j] ∧ -(2 ^ 62) ≤ j ∧ j < 2 ^ 62 ∧ R (Itr 0 j.toNat) H1
noncomputable def iRng2 (ta : TA) : TI := fun σ H R => ta σ H fun vs H1 => ∃ i j : Int, vs = [.int i, .int j] ∧ (-(2 ^ 62) ≤ i ∧ i < 2 ^ 62 ∧ -(2 ^ 62) ≤ j ∧ j < 2 ^ 62) ∧ R (Itr i (j - i).toNat) H1
theorem pi_range1 {a : Expr} {ta : TA} {p pos : Pos} (hg : Gl X "range") (hm : X.mg "range" = none) (ha : PA X [a] ta) (hs : starEach [a] X.env = [(false, eval a X.env)] := by rfl) : PI X tg (.Call (.Name "range" p) [a] [] pos) (iRng1 ta) := by
  intro pins s σ H R I h
  refine Call_ (ld_blt I hg hm boot_range (PyProof.Rows.callWith_type1 (thn (ha pos pins s σ H _ I h) fun us s1 ⟨vs, H1, I1, r1, q1⟩ => ?_) hs rfl))
  obtain ⟨j, e, q1, q2, q⟩ := q1
  subst e
  cases r1 with
  | cons r rr =>
    cases rr
    obtain ⟨t, rfl⟩ := r
    exact call_range_1 (range_it I1 (by omega) (by omega) q1 q2 (by simpa using q))
noncomputable def tFor (wi : TI) (g : TG) (tb : TS) : TS := fun D σ H => wi σ H fun J H1 => ∃ W : Nat → Nat → St → Hp → Prop, (∃ m, W 0 m σ H1) ∧ ∀ i m σ H, W i m σ H →
  (J.stop i H ∧ D.nx σ H) ∨ (J.go i H ∧ ∃ N : St → Hp → Prop, (∀ σ' H', N σ' H' → ∃ m', m' < m ∧ W (i + 1) m' σ' H') ∧ ∀ x H', J.yld i H x H' → g x σ H' fun σ2 H2 => tb { D with nx := N, ct := N, bk := D.nx } σ2 H2)
noncomputable def pinsAt (fp : List Addr) (h : Heap) : List (Addr × Obj) := fp.filterMap fun b => (h.get? b).map fun o => (b, o)
theorem mem_pinsAt {fp : List Addr} {h : Heap} {b : Addr} {o : Obj} (hb : b ∈ fp) (e : h.get? b = some o) : (b, o) ∈ pinsAt fp h := List.mem_filterMap.mpr ⟨b, hb, by rw [e]; rfl⟩
theorem of_pinsAt {fp : List Addr} {h : Heap} {p : Addr × Obj} (hp : p ∈ pinsAt fp h) : p.1 ∈ fp ∧ h.get? p.1 = some p.2 := by
  obtain ⟨b, hb, e⟩ := List.mem_filterMap.mp hp
  cases q : h.get? b with
  | none => rw [q] at e; cases e
  | some o =>
    rw [q] at e
    have e' : (b, o) = p := Option.some.inj e
    subst e'
    exact ⟨hb, q⟩
theorem Inv.pinned {pins : List (Addr × Obj)} {σ : St} {H : Hp} {s : Shared} {fp : List Addr} (I : Inv X pins σ H s) (hf : ∀ b ∈ fp, FpOk X pins H b) (ho : ∀ b ∈ fp, ∃ o, s.heap.get? b = some o ∧ ∀ v, o.data ≠ .cell v) : Inv X (pins ++ pinsAt fp s.heap) σ H s :=
  I.pins_of fun p hp => (List.mem_append.mp hp).elim (fun z => I.pin p (List.mem_append_right _ z)) fun z => by
    obtain ⟨hb, e⟩ := of_pinsAt z
    obtain ⟨f0, f1, f2, _⟩ := hf p.1 hb
    obtain ⟨o, e', d⟩ := ho p.1 hb
    rw [e] at e'; cases e'
    exact ⟨e, f0, f1, f2, d⟩
theorem Inv.unpinned {pins pl : List (Addr × Obj)} {σ : St} {H : Hp} {s : Shared} (I : Inv X (pins ++ pl) σ H s) : Inv X pins σ H s := I.pins_of fun p hp => I.pin p (List.mem_append_right _ (List.mem_append_left _ hp))
theorem ps_for {iter : Expr} {body : List Stmt} {wi : TI} {g : TG} {tb : TS} {pos : Pos} (hp : PassesOwn (model X.prog X.w) X.A X.env X.xe) (hc : X.calm = true) (hi : PI X tg iter wi) (hg : PG X tg g) (hb : PSs X body tb)
    (hs : ∀ x, foldedSetIterable iter X.env x = pure x := by intro _; rfl) : PS X (.For tg iter body [] pos) (tFor wi g tb) := by
  intro pins s σ H D I h
  refine wpAny_For (thn (hi pins s σ H _ I h) fun v s1 h1 => thn h1 fun itv s2 h2 => ?_) hs
  obtain ⟨it, fp, tn, J, H2, e, I2, T, st2, f2, W, ⟨m0, w0⟩, turn⟩ := h2
  subst e
  have stat : ∀ {H' : Hp}, (∀ b ∈ fp, H' b = none) → ∀ b ∈ fp, FpOk X pins H' b := fun hn b hb => ⟨hn b hb, (f2 b hb).2⟩
  refine codeAny_forLoop_any (fun n s' => ∃ i σ' H', Inv X pins σ' H' s' ∧ tn i s'.heap ∧ (∀ b ∈ fp, H' b = none) ∧ W i n σ' H') ?_ m0 ⟨0, σ, H2, I2, st2, fun b hb => (f2 b hb).1, w0⟩
  rintro n s3 ⟨i, σ3, H3, I3, st3, fr3, w3⟩
  rcases turn i n σ3 H3 w3 with ⟨stop, qn⟩ | ⟨go, N, hN, step⟩
  · refine wpAny_passesOwn hp (thn (T.done X rfl rfl rfl hc i pins s3 σ3 H3 X.xe I3 (stat fr3) st3 stop) fun r s4 ⟨hr, I4⟩ => ?_)
    subst hr
    exact wpAny_execs_nil ⟨σ3, H3, I4, qn⟩
  · refine wpAny_passesOwn hp (thn (T.item X rfl rfl rfl hc i pins s3 σ3 H3 X.xe I3 (stat fr3) st3 go) fun r s4 ⟨u, hr, h4⟩ => ?_)
    subst hr
    refine wpAny_passesOwn hp (thn h4 fun _ s5 ⟨x, H5, I5, r5, y5, st5, fr5⟩ => ?_)
    have I5' := I5.pinned (stat fr5) (T.obj _ _ st5)
    refine wpAny_passesOwn hp (thn (hg _ s5 σ3 H5 x u _ I5' r5 (step x H5 y5)) fun _ s6 ⟨σ6, H6, I6, q6⟩ => ?_)
    refine wpAny_passesOwn hp (thn (hb _ s6 σ6 H6 _ I6 q6) fun f s7 q7 => ?_)
    have again : ∀ {σ7 : St} {H7 : Hp}, Inv X (pins ++ pinsAt fp s5.heap) σ7 H7 s7 → N σ7 H7 → ∃ m, m < n ∧ ∃ i σ' H', Inv X pins σ' H' s7 ∧ tn i s7.heap ∧ (∀ b ∈ fp, H' b = none) ∧ W i m σ' H' := fun {σ7 H7} I7 n7 => by
      obtain ⟨m', hm, w7⟩ := hN σ7 H7 n7
      refine ⟨m', hm, i + 1, σ7, H7, I7.unpinned, T.keep _ _ _ st5 fun b hb o e => (I7.pin (b, o) (List.mem_append_right _ (List.mem_append_right _ (mem_pinsAt hb e)))).1, fun b hb => ?_, w7⟩
      obtain ⟨o, e, d⟩ := T.obj _ _ st5 b hb
      exact (I7.pin (b, o) (List.mem_append_right _ (List.mem_append_right _ (mem_pinsAt hb e)))).2.1
    cases f with
    | next => obtain ⟨σ7, H7, I7, n7⟩ := q7; exact again I7 n7
    | cont => obtain ⟨σ7, H7, I7, n7⟩ := q7; exact again I7 n7
    | brk => obtain ⟨σ7, H7, I7, q7⟩ := q7; exact ⟨σ7, H7, I7.unpinned, q7⟩
    | ret v => obtain ⟨x7, σ7, H7, I7, r7, q7⟩ := q7; exact ⟨x7, σ7, H7, I7.unpinned, r7, q7⟩
end
end L2
namespace L2
open PySem PySem.Spec PyProof.Rows
noncomputable abbrev R2 := V → V → Hp → VK → Prop
noncomputable def OpR (X : Cx) (f : Value → Value → Sem Value) (r : R2) : Prop :=
  ∀ (pins : List (Addr × Obj)) (s : Shared) (σ : St) (H : Hp) (x y : V) (v u : Value) (Q : VK), Inv X pins σ H s → RelV x v → RelV y u → r x y H Q →
    wpAny (model X.prog X.w) X.A (f v u) (EP X pins σ Q) X.xe s
noncomputable def UnR (X : Cx) (f : Value → Sem Value) (r : V → Hp → VK → Prop) : Prop :=
  ∀ (pins : List (Addr × Obj)) (s : Shared) (σ : St) (H : Hp) (x : V) (v : Value) (Q : VK), Inv X pins σ H s → RelV x v → r x H Q →
    wpAny (model X.prog X.w) X.A (f v) (EP X pins σ Q) X.xe s
noncomputable def CallR (X : Cx) (f : Value) (r : List V → Hp → VK → Prop) : Prop :=
  ∀ (pins : List (Addr × Obj)) (s : Shared) (σ : St) (H : Hp) (xs : List V) (us : List Value) (Q : VK), Inv X pins σ H s → Vals xs us → r xs H Q →
    wpAny (model X.prog X.w) X.A (call f us) (EP X pins σ Q) X.xe s
noncomputable def tOp (r : R2) (ta tb : TE) : TE := fun σ H Q => ta σ H fun x H1 => tb σ H1 fun y H2 => r x y H2 Q
noncomputable def tUn (r : V → Hp → VK → Prop) (ta : TE) : TE := fun σ H Q => ta σ H fun x H1 => r x H1 Q
noncomputable def rI (C : Int → Int → Prop) (g : Int → Int → V) : R2 := fun x y H Q => ∃ i j, x = .int i ∧ y = .int j ∧ C i j ∧ Q (g i j) H
noncomputable def rI0 (g : Int → Int → V) : R2 := fun x y H Q => ∃ i j, x = .int i ∧ y = .int j ∧ Q (g i j) H
noncomputable def rU (g : Int → V) : V → Hp → VK → Prop := fun x H Q => ∃ i, x = .int i ∧ Q (g i) H
section
variable {X : Cx} {a b c : Expr} {ta tb tc : TE} {pos : Pos}
theorem binT (ha : PE X a ta) (hb : PE X b tb) {pins : List (Addr × Obj)} {s : Shared} {σ : St} {H : Hp} {R : V → V → Hp → Prop} (I : Inv X pins σ H s)
    (h : ta σ H fun x H1 => tb σ H1 fun y H2 => R x y H2) {Q : Value → Shared → Prop} {f : Value → Value → Sem Value}
    (hf : ∀ v u s2 x y H2, Inv X pins σ H2 s2 → RelV x v → RelV y u → R x y H2 → wpAny (model X.prog X.w) X.A (f v u) Q X.xe s2) :
    wpAny (model X.prog X.w) X.A (eval a X.env) (fun v s₁ => wpAny (model X.prog X.w) X.A (eval b X.env) (fun u s₂ => wpAny (model X.prog X.w) X.A (f v u) Q X.xe s₂) X.xe s₁) X.xe s := by
  refine thn (ha pins s σ H _ I h) fun v s1 ⟨x, H1, I1, r1, q1⟩ => ?_
  refine thn (hb pins s1 σ H1 _ I1 q1) fun u s2 ⟨y, H2, I2, r2, q2⟩ => ?_
  exact hf v u s2 x y H2 I2 r1 r2 q2
theorem pe_op {op : Operator} {r : R2} (ho : OpR X (binaryOp op) r) (ha : PE X a ta) (hb : PE X b tb) : PE X (.BinOp a op b pos) (tOp r ta tb) := by
  intro pins s σ H Q I h
  exact wpAny_BinOp (binT ha hb I h fun v u s2 x y H2 I2 rx ry q => ho pins s2 σ H2 x y v u Q I2 rx ry q)
theorem pe_un {op : UnaryOp} {r : V → Hp → VK → Prop} (ho : UnR X (unaryOp op) r) (ha : PE X a ta) : PE X (.UnaryOp op a pos) (tUn r ta) := by
  intro pins s σ H Q I h
  exact UnaryOp_ (thn (ha pins s σ H _ I h) fun v s1 ⟨x, H1, I1, r1, q1⟩ => ho pins s1 σ H1 x v Q I1 r1 q1)
theorem opI {f : Value → Value → Sem Value} {C : Int → Int → Prop} {g : Int → Int → Int}
    (rule : ∀ (i j : Int) (t u : Tok) (s : Shared) (Q : Value → Shared → Prop) (E : Value → Shared → Prop), C i j → Q (.int (g i j) s.toks) { s with toks := s.toks + 1 } → wpAny (model X.prog X.w) X.A (f (.int i t) (.int j u)) Q E s) :
    OpR X f (rI C fun i j => .int (g i j)) := by
  intro pins s σ H x y v u Q I rx ry h
  obtain ⟨i, j, rfl, rfl, hc, q⟩ := h
  obtain ⟨t, rfl⟩ := rx
  obtain ⟨t', rfl⟩ := ry
  exact rule i j t t' s _ _ hc ⟨.int (g i j), H, I.tok _, ⟨_, rfl⟩, q⟩
theorem opI0 {f : Value → Value → Sem Value} {g : Int → Int → Int}
    (rule : ∀ (i j : Int) (t u : Tok) (s : Shared) (Q : Value → Shared → Prop) (E : Value → Shared → Prop), Q (.int (g i j) s.toks) { s with toks := s.toks + 1 } → wpAny (model X.prog X.w) X.A (f (.int i t) (.int j u)) Q E s) :
    OpR X f (rI0 fun i j => .int (g i j)) := by
  intro pins s σ H x y v u Q I rx ry h
  obtain ⟨i, j, rfl, rfl, q⟩ := h
  obtain ⟨t, rfl⟩ := rx
  obtain ⟨t', rfl⟩ := ry
  exact rule i j t t' s _ _ ⟨.int (g i j), H, I.tok _, ⟨_, rfl⟩, q⟩
theorem opB0 {f : Value → Value → Sem Value} {g : Int → Int → Bool}
    (rule : ∀ (i j : Int) (t u : Tok) (s : Shared) (Q : Value → Shared → Prop) (E : Value → Shared → Prop), Q (.bool (g i j)) s → wpAny (model X.prog X.w) X.A (f (.int i t) (.int j u)) Q E s) :
    OpR X f (rI0 fun i j => .bl (g i j)) := by
  intro pins s σ H x y v u Q I rx ry h
  obtain ⟨i, j, rfl, rfl, q⟩ := h
  obtain ⟨t, rfl⟩ := rx
  obtain ⟨t', rfl⟩ := ry
  exact rule i j t t' s _ _ ⟨.bl (g i j), H, I, rfl, q⟩
noncomputable def CDiv (i j : Int) : Prop := 0 < j ∧ j < 1073741824
noncomputable def CMul (i j : Int) : Prop := (-(2 ^ 64) < i ∧ i < 2 ^ 64) ∨ (-(2 ^ 64) < j ∧ j < 2 ^ 64)
theorem CMul.ok {i j : Int} (h : CMul i j) : IntMulOk i j := by
  rcases h with ⟨h1, h2⟩ | ⟨h1, h2⟩
  · exact .of_left (intBits_le_64 h1 h2)
  · exact .of_right (intBits_le_64 h1 h2)
theorem op_add : OpR X (binaryOp .Add) (rI0 fun i j => .int (i + j)) := opI0 fun _ _ _ _ _ _ _ q => add_int q
theorem op_sub : OpR X (binaryOp .Sub) (rI0 fun i j => .int (i - j)) := opI0 fun _ _ _ _ _ _ _ q => sub_int q
theorem op_mul : OpR X (binaryOp .Mult) (rI CMul fun i j => .int (i * j)) := opI fun _ _ _ _ _ _ _ hc q => mul_int q hc.ok
theorem op_fdiv : OpR X (binaryOp .FloorDiv) (rI CDiv fun i j => .int (i / j)) := opI fun i j _ _ _ _ _ hc q => by
  have h1 : (0 : Int) < j := hc.1
  have h2 : j < 1073741824 := hc.2
  exact floordiv_int (by omega) (by rw [Int.fdiv_eq_ediv_of_nonneg i (by omega)]; exact q) (.inl (PyProof.noPylong_small (by omega)))
theorem op_mod : OpR X (binaryOp .Mod) (rI (fun _ j => 0 < j) fun i j => .int (i % j)) := opI fun i j _ _ _ _ _ hc q => by
  have h1 : (0 : Int) < j := hc
  exact mod_int' (by omega) (by rw [Int.fmod_eq_emod_of_nonneg i (by omega)]; exact q)
theorem unI {f : Value → Sem Value} {g : Int → Int}
    (rule : ∀ (i : Int) (t : Tok) (s : Shared) (Q : Value → Shared → Prop) (E : Value → Shared → Prop), Q (.int (g i) s.toks) { s with toks := s.toks + 1 } → wpAny (model X.prog X.w) X.A (f (.int i t)) Q E s) :
    UnR X f (rU fun i => .int (g i)) := by
  intro pins s σ H x v Q I rx h
  obtain ⟨i, rfl, q⟩ := h
  obtain ⟨t, rfl⟩ := rx
  exact rule i t s _ _ ⟨.int (g i), H, I.tok _, ⟨_, rfl⟩, q⟩
theorem un_neg : UnR X (unaryOp .USub) (rU fun i => .int (-i)) := unI fun _ _ _ _ _ q => neg_int q
end
section
variable {X : Cx} {a b c : Expr} {ta tb tc : TE} {pos : Pos}
theorem op_lt : OpR X (compareOp .Lt) (rI0 fun i j => .bl (decide (i < j))) := opB0 fun _ _ _ _ _ _ _ q => lt_int q
theorem op_le : OpR X (compareOp .LtE) (rI0 fun i j => .bl (decide (i ≤ j))) := opB0 fun _ _ _ _ _ _ _ q => le_int q
theorem op_gt : OpR X (compareOp .Gt) (rI0 fun i j => .bl (decide (j < i))) := opB0 fun _ _ _ _ _ _ _ q => gt_int q
theorem OpR.or {f : Value → Value → Sem Value} {r r' : R2} (h : OpR X f r) (h' : OpR X f r') : OpR X f (fun x y H Q => r x y H Q ∨ r' x y H Q) := by
  intro pins s σ H x y v u Q I rx ry q
  rcases q with q | q
  · exact h pins s σ H x y v u Q I rx ry q
  · exact h' pins s σ H x y v u Q I rx ry q
theorem nomark (b : Expr) {op : CmpOp} (h : op ≠ .In := by decide) (h2 : op ≠ .NotIn := by decide) : behindInMarks op b = false := by
  have e1 : (op == CmpOp.In) = false := by cases op <;> first | rfl | exact absurd rfl h
  have e2 : (op == CmpOp.NotIn) = false := by cases op <;> first | rfl | exact absurd rfl h2
  cases b <;> simp [behindInMarks, e1, e2]
theorem pe_cmpR {op : CmpOp} {r : R2} (ho : OpR X (compareOp op) r) (ha : PE X a ta) (hb : PE X b tb) (hm : behindInMarks op b = false) : PE X (.Compare a [op] [b] pos) (tOp r ta tb) := by
  intro pins s σ H Q I h
  exact wpAny_Compare1 (binT ha hb I h fun v u s2 x y H2 I2 rx ry q => ho pins s2 σ H2 x y v u Q I2 rx ry q) hm
noncomputable def tTest (t : TE) : TT := fun σ H Q => t σ H fun x H' => ∃ k, x = .bl k ∧ Q k H'
theorem pt_cmpR {op : CmpOp} {r : R2} (ho : OpR X (compareOp op) r) (ha : PE X a ta) (hb : PE X b tb) (hm : behindInMarks op b = false) : PT X (.Compare a [op] [b] pos) (tTest (tOp r ta tb)) := by
  intro pins s σ H Q I h
  refine wpAny_isTrue_Compare1 (thn (ha pins s σ H _ I h) fun v s1 ⟨x, H1, I1, r1, q1⟩ => thn (hb pins s1 σ H1 _ I1 q1) fun u s2 ⟨y, H2, I2, r2, q2⟩ =>
    thn (ho pins s2 σ H2 x y v u _ I2 r1 r2 q2) fun c s3 ⟨z, H3, I3, r3, k, e, q3⟩ => ?_) hm
  subst e
  cases r3
  exact wpAny_truthy_bool ⟨H3, I3, q3⟩
noncomputable def tChain (r r' : R2) (ta tb tc : TE) : TE := fun σ H Q => ta σ H fun x H1 => tb σ H1 fun y H2 => r x y H2 fun z H3 => ∃ k, z = .bl k ∧
  (if k = true then tc σ H3 fun w' H4 => r' y w' H4 Q else Q (.bl false) H3)
theorem pe_chain {op op' : CmpOp} {r r' : R2} (ho : OpR X (compareOp op) r) (ho' : OpR X (compareOp op') r') (ha : PE X a ta) (hb : PE X b tb) (hc : PE X c tc)
    (hm : lastMarks [op, op'] [b, c] = false := by with_unfolding_all rfl) : PE X (.Compare a [op, op'] [b, c] pos) (tChain r r' ta tb tc) := by
  intro pins s σ H Q I h
  refine Compare_chain (thn (ha pins s σ H _ I h) fun v s1 ⟨x, H1, I1, r1, q1⟩ => chain_link (thn (hb pins s1 σ H1 _ I1 q1) fun u s2 ⟨y, H2, I2, r2, q2⟩ =>
    thn (ho pins s2 σ H2 x y v u _ I2 r1 r2 q2) fun d s3 ⟨z, H3, I3, r3, k, e, q3⟩ => ?_)) hm
  subst e
  cases r3
  refine wpAny_truthy_bool ?_
  cases k with
  | false => exact ite_ff ⟨.bl false, H3, I3, rfl, q3⟩
  | true => exact ite_tt (chain_last (thn (hc pins s3 σ H3 _ I3 q3) fun w' s4 ⟨z', H4, I4, r4, q4⟩ => ho' pins s4 σ H4 y z' u w' Q I4 r2 r4 q4))
theorem line63 : (sizeLine : Nat) < 2 ^ 63 := by rw [sizeLine_eq]; decide
theorem vals1 {x : V} {us : List Value} (r : Vals [x] us) : ∃ u, us = [u] ∧ RelV x u := by
  cases r with
  | cons r1 r2 => cases r2; exact ⟨_, rfl, r1⟩
theorem vals2 {x y : V} {us : List Value} (r : Vals [x, y] us) : ∃ u w', us = [u, w'] ∧ RelV x u ∧ RelV y w' := by
  cases r with
  | cons r1 r2 =>
    cases r2 with
    | cons r3 r4 => cases r4; exact ⟨_, _, rfl, r1, r3⟩
end
end L2
namespace L2
open PySem PySem.Spec PyProof.Rows
structure ObjM (h : Heap) (x dx C : Addr) (mA : Str → Option Value) : Prop where
  obj : h.get? x = some (PySem.W.instObj C dx)
  ns : h.Ns1 dx mA
  ne : dx ≠ x
theorem lookIn_ns {h : Heap} {dx : Addr} {mA : Str → Option Value} (n : h.Ns1 dx mA) : ∃ od, h.get? dx = some od ∧ ∀ name, PySem.W.lookIn name od = some (mA name) := by
  obtain ⟨o, es, ep, ho, hd, hk, _, hm⟩ := n
  refine ⟨o, ho, fun name => ?_⟩
  have e := hm name
  unfold nsFind findBy at e
  rw [← Array.find?_toList] at e
  unfold PySem.W.lookIn
  rw [hd]
  dsimp only
  split
  · rename_i y q
    rw [q] at e
    exact congrArg some e
  · rename_i q
    rw [q] at e
    have a : es.toList.any (·.refKey) = false := by
      rw [List.any_eq_false]
      intro y hy
      obtain ⟨z, t, hkey⟩ := hk y (Array.mem_toList_iff.mp hy)
      simp [DictEntry.refKey, hkey]
    have a' : ¬ es.toList.any (·.refKey) = true := by rw [a]; exact Bool.false_ne_true
    rw [if_neg a']
    exact congrArg some e
theorem ObjM.look {h : Heap} {x dx C : Addr} {mA : Str → Option Value} (I : ObjM h x dx C mA) : ∃ od, PySem.W.InstAt h x (PySem.W.instObj C dx) C (some od) ∧ ∀ name, PySem.W.lookIn name od = some (mA name) :=
  let ⟨od, ho, hl⟩ := lookIn_ns I.ns
  ⟨od, ⟨I.obj, rfl, rfl, ho⟩, hl⟩
section
variable {prog : Program} {w : World} {A : Around} {E : Value → Shared → Prop} {s : Shared} {K : PySem.W.Frag} {x dx C f : Addr} {mA : Str → Option Value} {name : Str} {v : Value}
theorem get_map {expr : Bool} {Q : Value → Shared → Prop} (X : K.In s.heap) (I : ObjM s.heap x dx C mA) (hg : PySem.W.plainGet K C name = true) (hh : PySem.W.hasDictIn K C = true)
    (ha : PySem.W.findIn K (.ref C) name = some none) (hv : mA name = some v) (hv' : PySem.W.handedIn v = true) (h : Q v { s with toks := s.toks + 1 }) :
    wpAny (model prog w) A (getAttr (.ref x) name expr) Q E s := by
  obtain ⟨od, J, hl⟩ := I.look
  exact PySem.W.get_value X J (PySem.W.plainGet_of hg).1 (PySem.W.findObj_own hh ha rfl (by rw [hl, hv])) hv' h
theorem get_meth {pl : Sem Bool} {Q : Value × List Value → Shared → Prop} (X : K.In s.heap) (I : ObjM s.heap x dx C mA) (hg : PySem.W.plainGet K C name = true)
    (hf : PySem.W.findIn K (.ref C) name = some (some (.ref f))) (ht : PySem.W.isFn K (.ref f) = true) (hv : mA name = none) (h : Q (.ref f, [.ref x]) s) :
    wpAny (model prog w) A (getMethod (.ref x) name pl) Q E s := by
  obtain ⟨od, J, hl⟩ := I.look
  exact PySem.W.method_fn X J (PySem.W.plainGet_of hg).1 (PySem.W.plainGet_of hg).2 hf (beq_iff_eq.mp ht) (by show (PySem.W.lookIn name od).map (·.isSome) = some false; rw [hl, hv]; rfl) h
theorem set_map {ns : List Str} {Q : Unit → Shared → Prop} (X : K.In s.heap) (I : ObjM s.heap x dx C mA)
    (hs : PySem.W.findIn K (.ref C) "__setattr__" = some (some (.builtin "object.__setattr__"))) (hp : PySem.W.plainOver K C = true) (ht : PySem.W.takerIn K C name = some none) (hh : PySem.W.hasDictIn K C = true)
    (hw : PySem.Within mA ns) (hsz : ns.length ≤ sizeLine)
    (h : ∀ h', ObjM h' x dx C (fun y => if y = name then some v else mA y) → Heap.SameBut dx s.heap h' → Q () { s with heap := h', toks := s.toks + 2 }) :
    wpAny (model prog w) A (setAttr (.ref x) name v) Q E s := by
  obtain ⟨od, J, hl⟩ := I.look
  refine PySem.W.set_plain X J hs (PySem.W.osa_open (s := { s with toks := s.toks + 1 }) (r := none) X J hp ht fun b => ?_)
  obtain ⟨cd, hc, hd'⟩ := PySem.W.any_some hh
  have hx : s.heap.get? x = some ⟨.ref C, some dx, .plain, #[]⟩ := I.obj
  refine wpAny_bind (wpAny_pure (wpAny_bind (wpAny_bind (wpAny_loadPart hx (wpAny_bind (PySem.W.Looks.here (s := { s with toks := s.toks + 1 }) (PySem.W.looks_clsIn X hc) ?_))))))
  rw [hd']
  refine wpAny_pure (a := some dx) (wpAny_bind (wpAny_pure (wpAny_bind ?_)))
  refine wpAny_nsSet1 (s := { s with toks := s.toks + 1 }) I.ns fun h' hn2 hs2 => ?_
  obtain ⟨oD, esD, epD, hoD, hdD, hcD⟩ := hn2.count (PySem.Within.cons name v hw)
  refine wpAny_bind (wpAny_lookBehind hoD (by rw [hdD]; exact pastItsLine_dict (Nat.le_trans hcD (by rw [List.length_cons]; omega))) ?_)
  exact wpAny_pure (h _ ⟨(hs2.2 _ (Ne.symm I.ne)).trans I.obj, hn2, I.ne⟩ hs2)
theorem make_map {R : Result → Shared → Prop} {vs : List Value} {kw : List (Str × Value)} (X : K.In s.heap) (hm : PySem.W.makesIn K C = true)
    (hi : PySem.W.findIn K (.ref C) "__init__" = some (some (.ref f))) (hf : PySem.W.typeIn K (.ref f) = some (.type "function"))
    (h : codeAny (model prog w) (A.under (.builtin "type.__call__" ⟨.ref C :: vs, kw⟩)) (.call (.ref f) ⟨.ref (s.heap.objs.size + 1) :: vs, kw⟩) (PySem.W.InitBack (s.heap.objs.size + 1) R)
      { s with heap := (s.heap.push PySem.W.emptyDict).push (PySem.W.instObj C s.heap.objs.size) }) :
    codeAny (model prog w) A (.call (.ref C) ⟨vs, kw⟩) R s := by
  obtain ⟨hh, g, d, t, os⟩ := s
  exact PySem.W.make_core (PySem.W.makes_of X hm) (PySem.W.looks_findIn X hi) (fun self => PySem.W.bind_fn X self hf) (.inl rfl) h
end
noncomputable def putF (f : Str) (v : V) : List (Str × V) → List (Str × V)
  | [] => [(f, v)]
  | (g, x) :: r => if g = f then (g, v) :: r else (g, x) :: putF f v r
theorem lookup_putF (f g : Str) (v : V) : ∀ fs : List (Str × V), (putF f v fs).lookup g = if g = f then some v else fs.lookup g
  | [] => by
    show List.lookup g [(f, v)] = _
    by_cases h : g = f
    · have hb : (g == f) = true := beq_iff_eq.mpr h
      simp only [List.lookup, hb, if_pos h]
    · have hb : (g == f) = false := beq_eq_false_iff_ne.mpr h
      simp only [List.lookup, hb, if_neg h]
  | (k, x) :: r => by
    have ih := lookup_putF f g v r
    rw [show putF f v ((k, x) :: r) = (if k = f then (k, v) :: r else (k, x) :: putF f v r) from rfl]
    by_cases hk : k = f
    · rw [if_pos hk]
      by_cases h : g = k
      · have hb : (g == k) = true := beq_iff_eq.mpr h
        simp only [List.lookup, hb, if_pos (h.trans hk)]
      · have hb : (g == k) = false := beq_eq_false_iff_ne.mpr h
        simp only [List.lookup, hb, if_neg (fun e : g = f => h (e.trans hk.symm))]
    · rw [if_neg hk]
      by_cases h : g = k
      · have hb : (g == k) = true := beq_iff_eq.mpr h
        simp only [List.lookup, hb, if_neg (fun e : g = f => hk (h.symm.trans e))]
      · have hb : (g == k) = false := beq_eq_false_iff_ne.mpr h
        simp only [List.lookup, hb]
        exact ih
theorem keys_putF (f : Str) (v : V) : ∀ fs : List (Str × V), f ∈ (putF f v fs).map (·.1) ∧ ∀ g, g ∈ fs.map (·.1) → g ∈ (putF f v fs).map (·.1)
  | [] => ⟨by simp [putF], fun g h => by simp at h⟩
  | (k, x) :: r => by
    obtain ⟨i1, i2⟩ := keys_putF f v r
    rw [show putF f v ((k, x) :: r) = (if k = f then (k, v) :: r else (k, x) :: putF f v r) from rfl]
    by_cases hk : k = f
    · rw [if_pos hk]
      subst hk
      exact ⟨by simp, fun g h => by simpa using h⟩
    · rw [if_neg hk]
      refine ⟨?_, fun g h => ?_⟩
      · rw [List.map_cons]
        exact List.mem_cons_of_mem _ i1
      · rw [List.map_cons] at h ⊢
        rcases List.mem_cons.mp h with e | e
        · exact List.mem_cons.mpr (.inl e)
        · exact List.mem_cons_of_mem _ (i2 g e)
theorem length_putF (f : Str) (v : V) : ∀ fs : List (Str × V), (putF f v fs).length ≤ fs.length + 1
  | [] => by simp [putF]
  | (k, x) :: r => by
    have ih := length_putF f v r
    rw [show putF f v ((k, x) :: r) = (if k = f then (k, v) :: r else (k, x) :: putF f v r) from rfl]
    by_cases hk : k = f
    · rw [if_pos hk, List.length_cons, List.length_cons]; omega
    · rw [if_neg hk, List.length_cons, List.length_cons]; omega
theorem RelO.some_of {v : V} {o : Option Value} (r : RelO (some v) o) : ∃ u, o = some u ∧ RelV v u := by
  cases o with
  | none => exact (show False from r).elim
  | some u => exact ⟨u, rfl, r⟩
theorem RelO.none_of {o : Option Value} (r : RelO none o) : o = none := by
  cases o with
  | none => rfl
  | some u => exact (show False from r).elim
theorem handed_of {v : V} {u : Value} (r : RelV v u) : PySem.W.handedIn u = true := by
  cases v with
  | non => cases (show u = Value.none from r); rfl
  | bl b => cases (show u = Value.bool b from r); rfl
  | int i => obtain ⟨t, e⟩ := (show ∃ t, u = Value.int i t from r); cases e; rfl
  | str x => obtain ⟨t, e⟩ := (show ∃ t, u = Value.str x t from r); cases e; rfl
  | byt b => obtain ⟨t, e⟩ := (show ∃ t, u = Value.bytes b t from r); cases e; rfl
  | flt b => obtain ⟨t, e⟩ := (show ∃ t, u = Value.float b t from r); cases e; rfl
  | ref a => cases (show u = Value.ref a from r); rfl
  | ty n => cases (show u = Value.type n from r); rfl
section
variable {P : Program} {w : World} {H H' : Hp} {h h' : Heap} {a C dx : Addr} {fs fs' : List (Str × V)}
theorem ins_get (hok : HOk P w H h) (e : H a = some (.ins C dx fs)) : ∃ mA, ObjM h a dx C mA ∧ (∀ f, RelO (fs.lookup f) (mA f)) ∧ PySem.Within mA (fs.map (·.1)) ∧ fs.length ≤ 1000 ∧ H dx = some (.own a) := by
  obtain ⟨d, z, ne, ob, mA, n, r, q⟩ := (show ObjOk P w H h a (.ins C dx fs) from hok a _ e)
  exact ⟨mA, ⟨ob, n, ne⟩, r, q, z, d⟩
end
structure Cls (K : PySem.W.Frag) (C : Addr) : Prop where
  pg : PySem.W.plainGet K C Str.empty = true
  hd : PySem.W.hasDictIn K C = true
  po : PySem.W.plainOver K C = true
  sa : PySem.W.findIn K (.ref C) "__setattr__" = some (some (.builtin "object.__setattr__"))
theorem Cls.get {K : PySem.W.Frag} {C : Addr} (c : Cls K C) (f : Str) : PySem.W.plainGet K C f = true := c.pg
noncomputable def NoAttr (K : PySem.W.Frag) (C : Addr) (f : Str) : Prop := PySem.W.findIn K (.ref C) f = some none
theorem NoAttr.taker {K : PySem.W.Frag} {C : Addr} {f : Str} (n : NoAttr K C f) : PySem.W.takerIn K C f = some none := by
  unfold PySem.W.takerIn
  rw [show PySem.W.findIn K (.ref C) f = some none from n]
  rfl
structure Meth (K : PySem.W.Frag) (C : Addr) (m : Str) (f : Addr) : Prop where
  at_ : PySem.W.findIn K (.ref C) m = some (some (.ref f))
  fn : PySem.W.isFn K (.ref f) = true
  kp : PySem.W.keepIn K (.ref f) = true
section
variable {X : Cx} {pins : List (Addr × Obj)} {σ : St} {H : Hp} {s : Shared} {a C dx : Addr} {fs : List (Str × V)} {f : Str} {v : V} {A : Around} {E : Value → Shared → Prop}
theorem getattr_ok {b : Bool} {Q : Value → Shared → Prop} (I : Inv X pins σ H s) (e : H a = some (.ins C dx fs)) (c : Cls X.K C) (n : NoAttr X.K C f) (l : fs.lookup f = some v)
    (h : ∀ u s', Inv X pins σ H s' → RelV v u → Q u s') : wpAny (model X.prog X.w) A (getAttr (.ref a) f b) Q E s := by
  obtain ⟨mA, O, r, _, _, _⟩ := ins_get I.hok e
  obtain ⟨u, hu, ru⟩ := RelO.some_of (v := v) (o := mA f) (by rw [← l]; exact r f)
  exact get_map I.kIn O (c.get f) c.hd n hu (handed_of ru) (h u _ (I.tok _) ru)
theorem getmeth_ok {m : Str} {g : Addr} {pl : Sem Bool} {Q : Value × List Value → Shared → Prop} (I : Inv X pins σ H s) (e : H a = some (.ins C dx fs)) (c : Cls X.K C) (k : Meth X.K C m g) (l : fs.lookup m = none)
    (h : Q (.ref g, [.ref a]) s) : wpAny (model X.prog X.w) A (getMethod (.ref a) m pl) Q E s := by
  obtain ⟨mA, O, r, _, _, _⟩ := ins_get I.hok e
  have hn : mA m = none := RelO.none_of (by rw [← l]; exact r m)
  exact get_meth I.kIn O (c.get m) k.at_ k.fn hn h
theorem setattr_ok {y : V} {u : Value} {Q : Unit → Shared → Prop} (I : Inv X pins σ H s) (e : H a = some (.ins C dx fs)) (c : Cls X.K C) (n : NoAttr X.K C f) (hl : fs.length < 1000) (ry : RelV y u)
    (h : ∀ s', Inv X pins σ (upd H a (.ins C dx (putF f y fs))) s' → Q () s') : wpAny (model X.prog X.w) A (setAttr (.ref a) f u) Q E s := by
  obtain ⟨mA, O, r, wi, _, ho⟩ := ins_get I.hok e
  have hz : (fs.map (·.1)).length ≤ sizeLine := by rw [List.length_map, sizeLine_eq]; omega
  refine set_map I.kIn O c.sa c.po n.taker c.hd wi hz fun h' O' sb => h _ ?_
  have hd : ∃ o, h'.get? dx = some o := let ⟨o, _, _, e', _⟩ := O'.ns; ⟨o, e'⟩
  refine I.write (x := a) (e := dx) (by rw [e]; exact True.intro) (.inr ho) (fun b q hb z => (sb.2 b hb).trans z) hd ?_
  refine ⟨by rw [upd_ne O.ne]; exact ho, ?_, O.ne, O'.obj, _, O'.ns, fun g => ?_, fun g hg => ?_⟩
  · have := length_putF f y fs; omega
  · show RelO ((putF f y fs).lookup g) (if g = f then some u else mA g)
    rw [lookup_putF]
    by_cases q : g = f
    · rw [if_pos q, if_pos q]; exact ry
    · rw [if_neg q, if_neg q]; exact r g
  · by_cases q : g = f
    · rw [q]; exact (keys_putF f y fs).1
    · refine (keys_putF f y fs).2 g (wi g fun z => hg ?_)
      show (if g = f then some u else mA g) = none
      rw [if_neg q]; exact z
theorem Inv.made (I : Inv X pins σ H s) : Inv X pins σ (upd (upd H s.heap.objs.size (.own (s.heap.objs.size + 1))) (s.heap.objs.size + 1) (.ins C s.heap.objs.size []))
    { s with heap := (s.heap.push PySem.W.emptyDict).push (PySem.W.instObj C s.heap.objs.size) } := by
  have e1 : (s.heap.push PySem.W.emptyDict).get? s.heap.objs.size = some PySem.W.emptyDict := Heap.get?_push_size s.heap rfl
  have e2 : ((s.heap.push PySem.W.emptyDict).push (PySem.W.instObj C s.heap.objs.size)).get? (s.heap.objs.size + 1) = some (PySem.W.instObj C s.heap.objs.size) := by
    have := Heap.get?_push_size (s.heap.push PySem.W.emptyDict) (o := PySem.W.instObj C s.heap.objs.size) rfl
    rwa [Heap.size_push] at this
  have e3 : (s.heap.push PySem.W.emptyDict).Ns s.heap.objs.size (fun _ => none) := ⟨PySem.W.emptyDict, #[], _, e1, rfl, (fun e he => absurd he (by simp)), fun _ => rfl⟩
  have I1 := I.laid (a := s.heap.objs.size) (o := .own (s.heap.objs.size + 1)) (h' := s.heap.push PySem.W.emptyDict) (t' := s.toks) (fun b u q => Heap.get?_push_of_some _ q) (Nat.le_refl _) ⟨_, e1⟩
  refine I1.laid (a := s.heap.objs.size + 1) (o := .ins C s.heap.objs.size []) (t' := s.toks) (fun b u q => Heap.get?_push_of_some _ q) (Nat.le_of_eq (Heap.size_push _ _)) ?_
  have ne : s.heap.objs.size ≠ s.heap.objs.size + 1 := Nat.ne_of_lt (Nat.lt_succ_self _)
  refine ⟨by rw [upd_ne ne, upd_same], Nat.zero_le _, ne, e2, fun _ => none, (Heap.Ns1.of_empty e3).at fun o q => Heap.get?_push_of_some _ q, fun _ => True.intro, fun y hy => absurd rfl hy⟩
theorem attr_of {prog : Program} {w : World} {env : Env} {e : Expr} {f : Str} {pos : Pos} {s : Shared} {Q : Value → Shared → Prop} (hb : attributeBase e f env (eval e env) = eval e env)
    (h : wpAny (model prog w) A (eval e env) (fun o s₁ => wpAny (model prog w) A (getAttr o f true) Q E s₁) E s) : wpAny (model prog w) A (eval (.Attribute e f pos) env) Q E s :=
  Attribute_any_ h (by rw [arm_eval_Attribute, hb])
end
noncomputable def tFld (K : PySem.W.Frag) (ta : TE) (f : Str) : TE := fun σ H Q => ta σ H fun x H1 => ∃ a C dx fs v, x = .ref a ∧ H1 a = some (.ins C dx fs) ∧ Cls K C ∧ NoAttr K C f ∧ fs.lookup f = some v ∧ Q v H1
noncomputable def sFld (K : PySem.W.Frag) (ta tv : TE) (f : Str) : TS := fun D σ H => tv σ H fun y H1 => ta σ H1 fun x H2 => ∃ a C dx fs, x = .ref a ∧ H2 a = some (.ins C dx fs) ∧ Cls K C ∧ NoAttr K C f ∧ fs.length < 1000 ∧
  D.nx σ (upd H2 a (.ins C dx (putF f y fs)))
section
variable {X : Cx} {o e value : Expr} {f : Str} {pos pos' tpos : Pos} {ta tv : TE}
theorem pe_fld (he : PE X e ta) (hb : attributeBase e f X.env (eval e X.env) = eval e X.env) : PE X (.Attribute e f pos) (tFld X.K ta f) := by
  intro pins s σ H Q I h
  refine attr_of hb (thn (he pins s σ H _ I h) fun u s1 ⟨x, H1, I1, rx, a, C, dx, fs, v, ex, ea, c, n, l, q⟩ => ?_)
  subst ex
  obtain rfl : u = Value.ref a := rx
  exact getattr_ok I1 ea c n l fun u' s2 I2 ru => ⟨v, H1, I2, ru, q⟩
theorem ps_fld (ha : PE X o ta) (hv : PE X value tv) (hs : swapsWith value (some (.Attribute o f pos')) pos.line X.env = pure false) : PS X (.Assign [.Attribute o f pos'] value pos) (sFld X.K ta tv f) := by
  intro pins s σ H D I h
  refine plainObj_wpAny_Assign_Attribute (thn (hv pins s σ H _ I h) fun u s1 ⟨y, H1, I1, ry, q⟩ => thn (ha pins s1 σ H1 _ I1 q) fun ov s2 ⟨x, H2, I2, rx, a, C, dx, fs, ex, ea, c, n, l, q2⟩ => ?_) hs
  subst ex
  obtain rfl : ov = Value.ref a := rx
  exact setattr_ok I2 ea c n l ry fun s3 I3 => ⟨σ, _, I3, q2⟩
end
section
variable {X : Cx} {pins : List (Addr × Obj)} {σ : St} {H : Hp} {s : Shared} {A : Around} {E : Value → Shared → Prop} {Q : Value → Shared → Prop} {c : Value} {b : Bool}
inductive TyOf (K : PySem.W.Frag) (H : Hp) : V → Value → Prop where
  | non : TyOf K H .non (.type "NoneType")
  | bl (x : Bool) : TyOf K H (.bl x) (.type "bool")
  | int (i : Int) : TyOf K H (.int i) (.type "int")
  | str (x : Str) : TyOf K H (.str x) (.type "str")
  | flt (x : UInt64) : TyOf K H (.flt x) (.type "float")
  | lst {a : Addr} {xs : List V} (e : H a = some (.lst xs)) : TyOf K H (.ref a) (.type "list")
  | frz {a : Addr} {o : Obj} {xs : List V} (e : H a = some (.frz o (.lst xs))) : TyOf K H (.ref a) (.type "list")
  | tup {a : Addr} {xs : List V} (e : H a = some (.tup xs)) : TyOf K H (.ref a) (.type "tuple")
  | dK {a : Addr} {kvs : List (Key × V)} (e : H a = some (.dK kvs)) : TyOf K H (.ref a) (.type "dict")
  | dT {a : Addr} {kvs : List (List Key × V)} (e : H a = some (.dT kvs)) : TyOf K H (.ref a) (.type "dict")
  | ins {a C dx : Addr} {fs : List (Str × V)} (e : H a = some (.ins C dx fs)) (cl : Cls K C) (ha : PySem.W.findIn K (.ref C) "__class__" = some (some (.builtin "object.__class__")))
      (hn : PySem.W.specialIn K (.builtin "object.__class__") "__get__" = some (some (.builtin "getset_descriptor.__get__"))) (htk : PySem.W.takesIn K (.builtin "object.__class__") = some true)
      (hm : PySem.W.mroIn K C (.type "object") = some true) : TyOf K H (.ref a) (.ref C)
theorem isinst_ok {x : V} {u t : Value} (I : Inv X pins σ H s) (rx : RelV x u) (ty : TyOf X.K H x t) (e : PySem.W.kitOne X.K t c = some b) (h : ∀ tk, Q (.bool b) { s with toks := tk }) :
    wpAny (model X.prog X.w) A (call (.builtin "isinstance") [u, c]) Q E s := by
  cases ty with
  | non => cases (show u = Value.none from rx); exact PySem.W.kia_one PySem.W.kitx_none I.kIn True.intro e (fun z => nomatch z) h
  | bl y => cases (show u = Value.bool y from rx); exact PySem.W.kia_one PySem.W.kitx_bool I.kIn True.intro e (fun z => nomatch z) h
  | int i => obtain ⟨t, q⟩ := (show ∃ t, u = Value.int i t from rx); cases q; exact PySem.W.kia_one PySem.W.kitx_int I.kIn True.intro e (fun z => nomatch z) h
  | str y => obtain ⟨t, q⟩ := (show ∃ t, u = Value.str y t from rx); cases q; exact PySem.W.kia_one PySem.W.kitx_str I.kIn True.intro e (fun z => nomatch z) h
  | flt y => obtain ⟨t, q⟩ := (show ∃ t, u = Value.float y t from rx); cases q; exact PySem.W.kia_one PySem.W.kitx_float I.kIn True.intro e (fun z => nomatch z) h
  | @lst a xs ea =>
    cases (show u = Value.ref a from rx)
    obtain ⟨_, _, n, _, h1⟩ := (show ObjOk X.prog X.w H s.heap a (.lst xs) from I.hok a _ ea)
    exact PySem.W.kia_one PySem.W.kitx_list I.kIn ⟨_, h1, rfl⟩ e (fun z => nomatch z) h
  | @frz a ob xs ea =>
    cases (show u = Value.ref a from rx)
    obtain ⟨_, _, _, n, _, h1⟩ := (show ObjOk X.prog X.w H s.heap a (.frz ob (.lst xs)) from I.hok a _ ea)
    exact PySem.W.kia_one PySem.W.kitx_list I.kIn ⟨_, h1, rfl⟩ e (fun z => nomatch z) h
  | @tup a xs ea =>
    cases (show u = Value.ref a from rx)
    obtain ⟨_, _, _, p⟩ := (show ObjOk X.prog X.w H s.heap a (.tup xs) from I.hok a _ ea)
    obtain ⟨o, h1, h2, _⟩ := p
    exact PySem.W.kia_one PySem.W.kitx_tuple I.kIn ⟨o, h1, h2⟩ e (fun z => nomatch z) h
  | @dK a kvs ea =>
    cases (show u = Value.ref a from rx)
    obtain ⟨_, _, vs, _, p⟩ := (show ObjOk X.prog X.w H s.heap a (.dK kvs) from I.hok a _ ea)
    obtain ⟨o, es, ep, h1, h2, _⟩ := p
    exact PySem.W.kia_one PySem.W.kitx_dict I.kIn ⟨o, h1, h2.1⟩ e (fun z => nomatch z) h
  | @dT a kvs ea =>
    cases (show u = Value.ref a from rx)
    obtain ⟨_, _, xs, _, o, es, ep, h1, h2, _⟩ := (show ObjOk X.prog X.w H s.heap a (.dT kvs) from I.hok a _ ea)
    exact PySem.W.kia_one PySem.W.kitx_dict I.kIn ⟨o, h1, h2.1⟩ e (fun z => nomatch z) h
  | @ins a C dx fs ea cl ha hn htk hm =>
    cases (show u = Value.ref a from rx)
    obtain ⟨mA, O, _⟩ := ins_get I.hok ea
    obtain ⟨od, J, _⟩ := O.look
    exact PySem.W.kia_one (PySem.W.kitx_own (cl.get _) cl.hd ha hn htk hm) I.kIn J e (fun z => nomatch z) h
end
end L2
namespace L2
open PySem PySem.Spec PyProof.Rows
structure Room (k : Nat) (A : Around) : Prop where
  hd : A.handled = none
  dp : A.depth + 3 * k + 5 < recursionLimit
  un : A.units + 16 * k + 200 < cLine
theorem Room.mono {j k : Nat} {A : Around} (r : Room k A) (h : j ≤ k) : Room j A := ⟨r.hd, by have := r.dp; omega, by have := r.un; omega⟩
theorem Room.deeper {k : Nat} {A : Around} (r : Room (k + 1) A) (env : Env) : Room k (A.deeper env) :=
  ⟨r.hd, by have := r.dp; show A.depth + 1 + 3 * k + 5 < _; omega, by have := r.un; show A.units + 3 + 16 * k + 200 < _; omega⟩
theorem Room.in1 {k : Nat} {A : Around} (r : Room (k + 1) A) : Room k A.in1 :=
  ⟨r.hd, by have := r.dp; show A.depth + 3 * k + 5 < _; omega, by have := r.un; show A.units + 1 + 16 * k + 200 < _; omega⟩
theorem make_depth {A : Around} {C : Addr} {us : List Value} {kw : List (Str × Value)} : (A.under (.builtin "type.__call__" ⟨.ref C :: us, kw⟩)).depth = A.depth + 1 := by
  first | rfl | simp [Around.under, Code.weight, Code.isCreation, Code.isGuard, Code.isCaller, Code.frames, Code.isFrame, guardIds]
theorem make_units {A : Around} {C : Addr} {us : List Value} {kw : List (Str × Value)} : (A.under (.builtin "type.__call__" ⟨.ref C :: us, kw⟩)).units = A.units + 1 := by
  first | rfl | simp [Around.under, Code.cUnits, Code.frames, Code.isFrame]
theorem Room.make {k : Nat} {A : Around} (r : Room (k + 1) A) (C : Addr) (us : List Value) (kw : List (Str × Value)) : Room k (A.under (.builtin "type.__call__" ⟨.ref C :: us, kw⟩)) :=
  ⟨r.hd, by have := r.dp; rw [make_depth]; omega, by have := r.un; rw [make_units]; omega⟩
theorem Room.depth {k : Nat} {A : Around} (r : Room k A) : A.depth < recursionLimit := by have := r.dp; omega
theorem Room.units {k : Nat} {A : Around} (r : Room k A) : A.units + 64 < cLine := by have := r.un; omega
noncomputable def tNil : TA := fun _ H Q => Q [] H
noncomputable def tCons (ta : TE) (tr : TA) : TA := fun σ H Q => ta σ H fun x H1 => tr σ H1 fun xs H2 => Q (x :: xs) H2
section
variable {X : Cx} {e : Expr} {es : List Expr} {te : TE} {t : TA} {pos : Pos}
theorem pa_nil : PA X [] tNil := fun _ _ _ _ H Q I h => Calls.spliced_nil ⟨[], H, I, .nil, h⟩
theorem pa_cons (ha : PE X e te) (hr : PA X es t) (hs : starEach (e :: es) X.env = (false, eval e X.env) :: starEach es X.env := by rfl) : PA X (e :: es) (tCons te t) := by
  intro pos pins s σ H Q I h
  rw [hs]
  show wpAny _ _ (spliced ((false, eval e X.env) :: backTo pos (starEach es X.env))) _ _ s
  refine Calls.spliced_cons (thn (ha pins s σ H _ I h) fun u s1 ⟨x, H1, I1, r1, q1⟩ => ?_)
  exact thn (hr pos pins s1 σ H1 _ I1 q1) fun us s2 ⟨xs, H2, I2, r2, q2⟩ => ⟨x :: xs, H2, I2, .cons r1 r2, q2⟩
noncomputable def tTup (t : TA) : TE := fun σ H Q => t σ H fun xs H1 => xs.length ≤ sizeLine ∧ ∀ p, H1 p = none → Q (.ref p) (upd H1 p (.tup xs))
noncomputable def tLst (t : TA) : TE := fun σ H Q => t σ H fun xs H1 => xs.length ≤ sizeLine ∧ ∀ p, H1 p = none → Q (.ref p) (upd H1 p (.lst xs))
theorem pe_tup {x1} (h : PA X es t) : PE X (.Tuple es x1 pos) (tTup t) := by
  intro pins s σ H Q I hq
  refine wpAny_Tuple_spliced (thn (h pos pins s σ H _ I hq) fun us s1 ⟨xs, H1, I1, r, z, q⟩ => ⟨by rw [← r.length]; exact z, ?_⟩)
  have hf : H1 s1.heap.objs.size = none := I1.hok.fresh (Nat.le_refl _)
  refine ⟨.ref s1.heap.objs.size, upd H1 s1.heap.objs.size (.tup xs), I1.laid (t' := s1.toks) (fun b u e => Heap.get?_push_of_some _ e) (Nat.le_refl _) ?_, rfl, q _ hf⟩
  exact ⟨z, us, r, ⟨_, Heap.get?_push_size _ rfl, rfl, _, rfl⟩⟩
theorem pe_lst (h : PA X es t) : PE X (.List es pos) (tLst t) := by
  intro pins s σ H Q I hq
  refine wpAny_List_spliced (thn (h pos pins s σ H _ I hq) fun us s1 ⟨xs, H1, I1, r, z, q⟩ => ⟨by rw [← r.length]; exact z, ?_⟩)
  have hf : H1 s1.heap.objs.size = none := I1.hok.fresh (Nat.le_refl _)
  refine ⟨.ref s1.heap.objs.size, upd H1 s1.heap.objs.size (.lst xs), I1.laid (t' := s1.toks) (fun b u e => Heap.get?_push_of_some _ e) (Nat.le_refl _) ?_, rfl, q _ hf⟩
  exact ⟨z, us, 0, r, Heap.get?_push_size _ rfl⟩
end
noncomputable abbrev Sp := List V → Hp → VK → XK → Prop
noncomputable abbrev CXT := List Env → Hp → Shared → XK → Value → Shared → Prop
structure Env0 (P : Program) (w : World) (K : PySem.W.Frag) (mg : Str → Option Value) (base : Heap) (A : Around) (outer : List Env) (s : Shared) (H : Hp) : Prop where
  frames : A.frames = some outer
  mod : Mod K mg base
  bs : ∀ b o, base.get? b = some o → s.heap.get? b = some o ∧ H b = none
  bsz : base.objs.size ≤ s.heap.objs.size
  funs : s.heap.FunFrames base outer
  frf : ∀ b ∈ frs outer, H b = none
  hok : HOk P w H s.heap
  bare : AllBare s.gens
noncomputable def CE (outer : List Env) (P : Program) (w : World) (H : Hp) (s : Shared) (Q : VK) (u : Value) (s' : Shared) : Prop :=
  ∃ v H', s'.os = s.os ∧ AllBare s'.gens ∧ Un (frs outer) [] H H' s.heap s'.heap ∧ HOk P w H' s'.heap ∧ RelV v u ∧ Q v H'
noncomputable def CR (CX : CXT) (outer : List Env) (P : Program) (w : World) (H : Hp) (s : Shared) (Q : VK) (E : XK) (r : Result) (s' : Shared) : Prop :=
  match r with
  | .ok (.ret u) => CE outer P w H s Q u s'
  | .ok _ => False
  | .error e => CX outer H s E e s'
structure FnOk (P : Program) (w : World) (K : PySem.W.Frag) (mg : Str → Option Value) (base : Heap) (CX : CXT) (k : Nat) (f : Addr) (fd : FuncData) (ps : List Str) (sp : Sp) : Prop where
  len : ∀ vs H Q E, sp vs H Q E → vs.length = ps.length
  run : ∀ (A : Around) (outer : List Env) (s : Shared) (H : Hp) (args : Args) (us : List Value) (vs : List V) (Q : VK) (E : XK), Room k A → Env0 P w K mg base A outer s H → BindsTo s fd args (ps.zip us) → Vals vs us → sp vs H Q E →
    codeAny (model P w) A (.call (.ref f) args) (CR CX outer P w H s Q E) s
theorem FnOk.imp {P : Program} {w : World} {K : PySem.W.Frag} {mg : Str → Option Value} {base : Heap} {CX : CXT} {k : Nat} {f : Addr} {fd : FuncData} {ps : List Str} {sp sp' : Sp} (F : FnOk P w K mg base CX k f fd ps sp)
    (h : ∀ vs H Q E, sp' vs H Q E → sp vs H Q E) : FnOk P w K mg base CX k f fd ps sp' :=
  ⟨fun vs H Q E q => F.len vs H Q E (h _ _ _ _ q), fun A outer s H args us vs Q E hr he hb hv hs => F.run A outer s H args us vs Q E hr he hb hv (h _ _ _ _ hs)⟩
theorem Env0.make {P : Program} {w : World} {K : PySem.W.Frag} {mg : Str → Option Value} {base : Heap} {A : Around} {outer : List Env} {s : Shared} {H : Hp} (e : Env0 P w K mg base A outer s H) (C : Addr) (us : List Value) (kw : List (Str × Value)) :
    Env0 P w K mg base (A.under (.builtin "type.__call__" ⟨.ref C :: us, kw⟩)) outer s H := ⟨by first | exact e.frames | (simpa [Around.under, Code.envs, Code.isFrame, pushEnvs] using e.frames), e.mod, e.bs, e.bsz, e.funs, e.frf, e.hok, e.bare⟩
theorem Env0.in1 {P : Program} {w : World} {K : PySem.W.Frag} {mg : Str → Option Value} {base : Heap} {A : Around} {outer : List Env} {s : Shared} {H : Hp} (e : Env0 P w K mg base A outer s H) :
    Env0 P w K mg base A.in1 outer s H := ⟨e.frames, e.mod, e.bs, e.bsz, e.funs, e.frf, e.hok, e.bare⟩
section
variable {X : Cx} {pins : List (Addr × Obj)} {σ : St} {H : Hp} {s s' : Shared}
theorem Inv.env0 (I : Inv X pins σ H s) : Env0 X.prog X.w X.K X.mg X.base X.A X.stack s H :=
  ⟨I.ok.frames, I.ok.mod, I.bs, Nat.le_trans I.ok.bsz I.sz, I.stack, I.stkFree, I.hok, I.bare⟩
theorem Inv.after {Q : VK} {u : Value} (I : Inv X pins σ H s) (h : CE X.stack X.prog X.w H s Q u s') : EP X pins σ Q u s' := by
  obtain ⟨v, H', os, bare, un, hok, r, q⟩ := h
  obtain ⟨hh, g, d, t, os'⟩ := s'
  obtain rfl : os' = s.os := os
  exact ⟨v, H', I.call (h' := hh) (g' := g) (d' := d) (t' := t) (ch := []) un hok bare (fun b z => absurd z (by simp)), r, q⟩
end
noncomputable def tCall (sp : Sp) (dvs : List V) (E : XK) (t : TA) : TE := fun σ H Q => t σ H fun vs H1 => sp (vs ++ dvs) H1 Q E
noncomputable def tMeth (C : Addr) (m : Str) (sp : Sp) (dvs : List V) (E : XK) (ta : TE) (t : TA) : TE := fun σ H Q => ta σ H fun x H1 => ∃ a dx fs, x = .ref a ∧ H1 a = some (.ins C dx fs) ∧ fs.lookup m = none ∧
  t σ H1 fun vs H2 => sp (x :: (vs ++ dvs)) H2 Q E
noncomputable def tMake (C : Addr) (sp : Sp) (dvs : List V) (E : XK) (t : TA) : TE := fun σ H Q => t σ H fun vs H1 => ∀ x dx, H1 x = none → H1 dx = none → dx ≠ x →
  sp (.ref x :: (vs ++ dvs)) (upd (upd H1 dx (.own x)) x (.ins C dx [])) (fun v H2 => v = .non ∧ Q (.ref x) H2) E
noncomputable def Binds (K : PySem.W.Frag) (fd : FuncData) (ps : List Str) (ds : List Value) : Prop :=
  ∀ (s : Shared) (us : List Value), K.In s.heap → (us ++ ds).length = ps.length → BindsTo s fd ⟨us, []⟩ (ps.zip (us ++ ds))
theorem Binds.all {K : PySem.W.Frag} {fd : FuncData} {ps : List Str} (h : ∀ us : List Value, us.length = ps.length → bindArgs fd ⟨us, []⟩ = pure (ps.zip us)) : Binds K fd ps [] := fun s us _ hl => by
  rw [List.append_nil] at hl ⊢
  exact .of_eq (h us hl)
noncomputable def Passes (CX : CXT) (X : Cx) (E : XK) : Prop := ∀ (pins : List (Addr × Obj)) (σ : St) (H : Hp) (s : Shared) (e : Value) (s' : Shared), Inv X pins σ H s → CX X.stack H s E e s' → X.xe e s'
section
variable {X : Cx} {CX : CXT} {k : Nat} {f C : Addr} {fd : FuncData} {ps : List Str} {sp : Sp} {dvs : List V} {ds : List Value} {E : XK} {x m : Str} {p pos apos : Pos} {e o : Expr} {es : List Expr} {ta : TE} {t : TA}
theorem run_fn {pins : List (Addr × Obj)} {σ : St} {H : Hp} {s : Shared} {Q : VK} {us : List Value} {vs : List V} (F : FnOk X.prog X.w X.K X.mg X.base CX k f fd ps sp) (hr : Room k X.A) (hb : Binds X.K fd ps ds) (hd : Vals dvs ds) (hx : Passes CX X E)
    (I : Inv X pins σ H s) (r : Vals vs us) (h : sp (vs ++ dvs) H Q E) : wpAny (model X.prog X.w) X.A (call (.ref f) us) (EP X pins σ Q) X.xe s := by
  have r2 : Vals (vs ++ dvs) (us ++ ds) := r.append hd
  have hl : (us ++ ds).length = ps.length := by rw [← r2.length]; exact F.len _ _ _ _ h
  refine wpAny_call (codeAny_mono (F.run X.A X.stack s H ⟨us, []⟩ (us ++ ds) (vs ++ dvs) Q E hr I.env0 (hb s us I.kIn hl) r2 h) fun r s' hq => ?_)
  cases r with
  | error e => exact hx pins σ H s e s' I hq
  | ok fl =>
    cases fl with
    | ret u => exact I.after hq
    | next => exact False.elim hq
    | brk => exact False.elim hq
    | cont => exact False.elim hq
theorem pe_call (F : FnOk X.prog X.w X.K X.mg X.base CX k f fd ps sp) (hr : Room k X.A) (hg : Gl X x) (hm : X.mg x = some (.ref f)) (hk : PySem.W.keepIn X.K (.ref f) = true) (hb : Binds X.K fd ps ds) (hd : Vals dvs ds) (hx : Passes CX X E)
    (ha : PA X (e :: es) t) (hdb : (x == ("__debug__" : Str)) = false := by decide) (he : starEach (e :: es) X.env = (false, eval e X.env) :: starEach es X.env := by rfl) (hpl : (backTo pos (starEach es X.env)).any (·.1) = false := by rfl) :
    PE X (.Call (.Name x p) (e :: es) [] pos) (tCall sp dvs E t) := by
  intro pins s σ H Q I h
  refine wpAny_Call_Name_kw (ld_glob I hg hm ?_ hdb)
  refine PySem.W.callWith_K (h₀ := X.base) I.ok.mod.kin hk (thn (ha pos pins s σ H _ I h) fun us s1 ⟨vs, H1, I1, r, q⟩ => ⟨I1.kIn, ?_⟩) he hpl
  exact run_fn F hr hb hd hx I1 r q
theorem pe_meth {pl : Sem Bool} (he : PE X o ta) (c : Cls X.K C) (hm : Meth X.K C m f) (F : FnOk X.prog X.w X.K X.mg X.base CX k f fd ps sp) (hr : Room k X.A) (hb : Binds X.K fd ps ds) (hd : Vals dvs ds) (hx : Passes CX X E) (ha : PA X (e :: es) t)
    (hst : starEach (e :: es) X.env = (false, eval e X.env) :: starEach es X.env := by rfl) (hpl : (backTo pos (starEach es X.env)).any (·.1) = false := by rfl)
    (ht : eval (.Call (.Attribute o m apos) (e :: es) [] pos) X.env = (do
      let ov ← eval o X.env
      standAt apos.atName
      let (f, first) ← holding [ov] (getMethod ov m pl)
      callWith pos f first (backTo pos (starEach (e :: es) X.env)) (backToKw pos (keywordEach [] X.env))) := by rfl) :
    PE X (.Call (.Attribute o m apos) (e :: es) [] pos) (tMeth C m sp dvs E ta t) := by
  intro pins s σ H Q I h
  refine PySem.W.methodCall_KW (pl := pl) (thn (he pins s σ H _ I h) fun u s1 ⟨x, H1, I1, rx, a, dx, fs, ex, ea, l, q⟩ => ?_) ht
  subst ex
  obtain rfl : u = Value.ref a := rx
  refine getmeth_ok I1 ea c hm l ?_
  refine PySem.W.callWith_K (first := [.ref a]) (h₀ := X.base) I.ok.mod.kin hm.kp (thn (ha pos pins s1 σ H1 _ I1 q) fun us s2 ⟨vs, H2, I2, r, q2⟩ => ⟨I2.kIn, ?_⟩) hst hpl
  exact run_fn (us := .ref a :: us) (vs := .ref a :: vs) F hr hb hd hx I2 (.cons rfl r) q2
structure Mk (K : PySem.W.Frag) (C f : Addr) : Prop where
  makes : PySem.W.makesIn K C = true
  init : PySem.W.findIn K (.ref C) "__init__" = some (some (.ref f))
  fn : PySem.W.isFn K (.ref f) = true
  kp : PySem.W.keepIn K (.ref C) = true
theorem run_make {pins : List (Addr × Obj)} {σ : St} {H : Hp} {s : Shared} {Q : VK} {us : List Value} {vs : List V} (M : Mk X.K C f) (F : FnOk X.prog X.w X.K X.mg X.base CX k f fd ps sp) (hr : Room (k + 1) X.A) (hb : Binds X.K fd ps ds) (hd : Vals dvs ds)
    (hx : Passes CX X E) (I : Inv X pins σ H s) (r : Vals vs us)
    (h : ∀ x dx, H x = none → H dx = none → dx ≠ x → sp (.ref x :: (vs ++ dvs)) (upd (upd H dx (.own x)) x (.ins C dx [])) (fun v H2 => v = .non ∧ Q (.ref x) H2) E) :
    wpAny (model X.prog X.w) X.A (call (.ref C) us) (EP X pins σ Q) X.xe s := by
  have hq := h (s.heap.objs.size + 1) s.heap.objs.size (I.hok.fresh (Nat.le_succ _)) (I.hok.fresh (Nat.le_refl _)) (Nat.ne_of_lt (Nat.lt_succ_self _))
  have I2 := Inv.made (C := C) I
  have r2 : Vals (V.ref (s.heap.objs.size + 1) :: (vs ++ dvs)) (Value.ref (s.heap.objs.size + 1) :: (us ++ ds)) := .cons rfl (r.append hd)
  have hl : (Value.ref (s.heap.objs.size + 1) :: us ++ ds).length = ps.length := by
    have e := r2.length
    rw [F.len _ _ _ _ hq] at e
    exact e.symm
  refine wpAny_call (make_map (f := f) I.kIn M.makes M.init (beq_iff_eq.mp M.fn) (codeAny_mono (F.run _ X.stack _ _ ⟨Value.ref (s.heap.objs.size + 1) :: us, []⟩ (Value.ref (s.heap.objs.size + 1) :: (us ++ ds)) _ _ E (hr.make C us [])
    (I2.env0.make C us []) (hb _ (Value.ref (s.heap.objs.size + 1) :: us) I2.kIn hl) r2 hq) fun r s' hq' => ?_))
  cases r with
  | error e => exact hx pins σ _ _ e s' I2 hq'
  | ok fl =>
    cases fl with
    | ret u =>
      obtain ⟨v, H', I3, rv, ev, q3⟩ := I2.after hq'
      subst ev
      exact ⟨rv, ⟨V.ref (s.heap.objs.size + 1), H', I3, rfl, q3⟩⟩
    | next => exact False.elim hq'
    | brk => exact False.elim hq'
    | cont => exact False.elim hq'
theorem pe_make (M : Mk X.K C f) (F : FnOk X.prog X.w X.K X.mg X.base CX k f fd ps sp) (hr : Room (k + 1) X.A) (hg : Gl X x) (hm : X.mg x = some (.ref C)) (hb : Binds X.K fd ps ds) (hd : Vals dvs ds) (hx : Passes CX X E)
    (ha : PA X (e :: es) t) (hdb : (x == ("__debug__" : Str)) = false := by decide) (he : starEach (e :: es) X.env = (false, eval e X.env) :: starEach es X.env := by rfl) (hpl : (backTo pos (starEach es X.env)).any (·.1) = false := by rfl) :
    PE X (.Call (.Name x p) (e :: es) [] pos) (tMake C sp dvs E t) := by
  intro pins s σ H Q I h
  refine wpAny_Call_Name_kw (ld_glob I hg hm ?_ hdb)
  refine PySem.W.callWith_K (h₀ := X.base) I.ok.mod.kin M.kp (thn (ha pos pins s σ H _ I h) fun us s1 ⟨vs, H1, I1, r, q⟩ => ⟨I1.kIn, ?_⟩) he hpl
  exact run_make M F hr hb hd hx I1 r q
end
section
variable {X : Cx} {CX : CXT} {k : Nat} {f C : Addr} {fd : FuncData} {ps ks : List Str} {sp : Sp} {E : XK} {x m : Str} {p pos apos kpos : Pos} {e o : Expr} {es : List Expr} {kws : List Keyword} {te ta : TE} {t tk : TA} {nm : Option Str}
variable {g : List Value → List Value → List Value} {gV : List V → List V → List V}
end
structure FnScope (N P : List Str) (sc : Scope) : Prop where
  kind : sc.kind = .function
  co : sc.isCoroutine = false
  gen : sc.isGenerator = false
  nd : N.Nodup
  pre : N.take P.length = P
  par : ∀ x ∈ P, sc.names.lookup x = some .local ∨ sc.names.lookup x = some .cell
  nofree : ∀ y ∈ sc.names, y.2 ≠ .free
theorem bindL_out {kindOf : Str → Option NameKind} {x : Str} : ∀ {binds : List (Str × Value)} {m : Str → Option Value}, (∀ v, (x, v) ∉ binds) → bindL kindOf binds m x = m x
  | [], _, _ => rfl
  | (n, v) :: r, m, h => by
    unfold bindL
    rw [bindL_out fun w hw => h w (List.mem_cons_of_mem _ hw)]
    split
    · have : x ≠ n := by rintro rfl; exact h v List.mem_cons_self
      simp [this]
    · rfl
theorem bindC_out {kindOf : Str → Option NameKind} {x : Str} : ∀ {binds : List (Str × Value)} {m : Str → Option Value}, (∀ v, (x, v) ∉ binds) → bindC kindOf binds m x = m x
  | [], _, _ => rfl
  | (n, v) :: r, m, h => by
    unfold bindC
    rw [bindC_out fun w hw => h w (List.mem_cons_of_mem _ hw)]
    split
    · rfl
    · have : x ≠ n := by rintro rfl; exact h v List.mem_cons_self
      simp [this]
theorem bindL_get {kindOf : Str → Option NameKind} {x : Str} {v : Value} : ∀ {P : List Str} {vs : List Value} {i : Nat} {m : Str → Option Value}, P.Nodup → P[i]? = some x → vs[i]? = some v → kindOf x = some .local →
    bindL kindOf (P.zip vs) m x = some v
  | [], _, _, _, _, h, _, _ => by simp at h
  | _ :: _, [], _, _, _, _, h, _ => by simp at h
  | p :: P, w :: vs, 0, m, nd, h1, h2, hk => by
    simp at h1 h2; subst h1; subst h2
    show bindL kindOf ((p, w) :: P.zip vs) m p = _
    unfold bindL
    rw [bindL_out fun v hv => (List.nodup_cons.mp nd).1 (List.of_mem_zip hv).1, if_pos hk]
    simp
  | p :: P, w :: vs, i + 1, m, nd, h1, h2, hk => by
    show bindL kindOf ((p, w) :: P.zip vs) m x = _
    unfold bindL
    exact bindL_get (i := i) (List.nodup_cons.mp nd).2 (by simpa using h1) (by simpa using h2) hk
theorem bindC_get {kindOf : Str → Option NameKind} {x : Str} {v : Value} : ∀ {P : List Str} {vs : List Value} {i : Nat} {m : Str → Option Value}, P.Nodup → P[i]? = some x → vs[i]? = some v → kindOf x ≠ some .local →
    bindC kindOf (P.zip vs) m x = some v
  | [], _, _, _, _, h, _, _ => by simp at h
  | _ :: _, [], _, _, _, _, h, _ => by simp at h
  | p :: P, w :: vs, 0, m, nd, h1, h2, hk => by
    simp at h1 h2; subst h1; subst h2
    show bindC kindOf ((p, w) :: P.zip vs) m p = _
    unfold bindC
    rw [bindC_out fun v hv => (List.nodup_cons.mp nd).1 (List.of_mem_zip hv).1, if_neg hk]
    simp
  | p :: P, w :: vs, i + 1, m, nd, h1, h2, hk => by
    show bindC kindOf ((p, w) :: P.zip vs) m x = _
    unfold bindC
    exact bindC_get (i := i) (List.nodup_cons.mp nd).2 (by simpa using h1) (by simpa using h2) hk
noncomputable def start (N : List Str) (vs : List V) : St := vs.map some ++ List.replicate (N.length - vs.length) none
noncomputable def cxOf (CX : CXT) (P : Program) (w : World) (K : PySem.W.Frag) (mg : Str → Option Value) (base : Heap) (N : List Str) (qual : Str) (scope : Scope) (f : Addr) (cd : Value) (A : Around) (outer : List Env) (s : Shared) (H : Hp) (E : XK) : Cx where
  prog := P
  w := w
  K := K
  mg := mg
  base := base
  A := A.deeper (envOfC qual scope s.heap.objs.size f cd)
  N := N
  s₀ := s
  H₀ := H
  env := envOfC qual scope s.heap.objs.size f cd
  outer := outer
  stack := envOfC qual scope s.heap.objs.size f cd :: outer
  ex := []
  calm := true
  fn := fun _ => true
  pn := []
  xe := fun e s' => wpAny (model P w) (A.deeper (envOfC qual scope s.heap.objs.size f cd)) (leaving (envOfC qual scope s.heap.objs.size f cd) e) (fun _ s'' => CX outer H s E e s'') (fun e' s'' => CX outer H s E e' s'') s'
theorem cell_has {sc : Scope} {n : Nat} {x : Str} (h : sc.names.lookup x = some .cell) : ∃ c, (cellsFrom n sc.names []).lookup x = some c := by
  have q := PySem.W.cellsFrom_some sc.names n [] (.inl h)
  exact Option.isSome_iff_exists.mp q
theorem inv_start {CX : CXT} {P : Program} {w : World} {K : PySem.W.Frag} {mg : Str → Option Value} {base : Heap} {N ps : List Str} {qual : Str} {scope : Scope} {f : Addr} {cd : Value} {A : Around} {outer : List Env} {s s1 : Shared} {H : Hp} {E : XK} {us : List Value} {vs : List V}
    (S : FnScope N ps scope) (hd : A.handled = none) (e0 : Env0 P w K mg base A outer s H) (hl : vs.length = ps.length) (r : Vals vs us)
    (x : InCallC s s.heap.objs.size (bindL (envOfC qual scope s.heap.objs.size f cd).kindOf (ps.zip us) fun _ => none) (cellsFrom (s.heap.objs.size + 1) scope.names []) (bindC (envOfC qual scope s.heap.objs.size f cd).kindOf (ps.zip us) fun _ => none) s1) :
    Inv (cxOf CX P w K mg base N qual scope f cd A outer s H E) [] (start N vs) H s1 := by
  have hpl : ps.length ≤ N.length := by have := congrArg List.length S.pre; rw [List.length_take] at this; omega
  obtain ⟨h1, tk, rfl, hk⟩ := x.done
  have noA : ∀ b : Addr, b ∉ (cxOf CX P w K mg base N qual scope f cd A outer s H E).ex := fun b z => absurd (show b ∈ ([] : List Addr) from z) (by simp)
  refine ⟨⟨e0.mod, S.kind, rfl, rfl, Nat.le_refl _, fun y z c h1 h2 => ?_, fun y hy => ?_, fun y c _ h => ?_, fun _ => hd, Around.frames_deeper e0.frames, .inr ⟨rfl, rfl⟩, fun b z => absurd z (noA b), e0.bs, e0.bsz, fun b _ _ => noA b, fun b z => absurd z (noA b), e0.funs, e0.frf⟩,
    rfl, e0.bare, Un.kept hk, ⟨_, x.toInCall.ns, fun i y v h1 h2 h3 => ?_⟩, fun y c h => ⟨_, x.cell y c h⟩, e0.hok.fresh (Nat.le_refl _), fun y c h => ?_, fun p hp => absurd (show p ∈ ([] : List (Addr × Obj)) from hp) (by simp), e0.hok.kept hk, ?_⟩
  · exact name_of_addr x.apart (PySem.mem_of_lookup h1) (PySem.mem_of_lookup h2)
  · have hy : scope.names.lookup y = some .cell ∨ scope.names.lookup y = some .free := hy
    rcases hy with hy | hy
    · exact cell_has hy
    · exact absurd rfl (S.nofree _ (PySem.mem_of_lookup hy))
  · exact Nat.le_of_lt (x.above y c (PySem.mem_of_lookup h))
  · have hi : i < vs.length := by
      unfold start at h2
      by_cases hi : i < vs.length
      · exact hi
      · rw [List.getElem?_append_right (by simpa using hi)] at h2
        rw [List.getElem?_replicate] at h2
        split at h2 <;> cases h2
    have ha : vs[i]? = some v := by
      unfold start at h2
      rw [List.getElem?_append_left (by simpa using hi), List.getElem?_map] at h2
      cases e : vs[i]? with
      | none => rw [e] at h2; cases h2
      | some a => rw [e] at h2; cases h2; rfl
    obtain ⟨u, hu, rv⟩ := r.get ha
    have hp : ps[i]? = some y := by
      rw [← S.pre, List.getElem?_take_of_lt (by omega)]; exact h1
    have ndP : ps.Nodup := by rw [← S.pre]; exact S.nd.sublist (List.take_sublist _ _)
    refine ⟨u, rv, ?_⟩
    rcases S.par y (List.mem_of_getElem? hp) with k | k
    · exact .inl ⟨k, bindL_get ndP hp hu k⟩
    · obtain ⟨c, e⟩ := cell_has (n := s.heap.objs.size + 1) k
      refine .inr ⟨.inl k, c, e, ?_⟩
      have q := x.cell y c e
      rw [bindC_get ndP hp hu (by show scope.names.lookup y ≠ _; rw [k]; decide)] at q
      exact q
  · exact e0.hok.fresh (Nat.le_of_lt (x.above y c (PySem.mem_of_lookup h)))
  · unfold start
    show _ = N.length
    rw [List.length_append, List.length_map, List.length_replicate]
    omega
theorem fn_of {CX : CXT} {P : Program} {w : World} {K : PySem.W.Frag} {mg : Str → Option Value} {base : Heap} {k : Nat} {f : Addr} {name qual : Str} {params : Arguments} {body : List Stmt} {scope : Scope} {dV kV doc pm cdv ct oc : Value} {an od : Option Addr}
    {osl : Array (Option Value)} {N ps : List Str} {sp : Sp} (lk : K.lookup f = some ⟨oc, od, .func (PySem.W.fnOf name qual params body scope dV kV doc pm an cdv ct), osl⟩) (hcd : PySem.W.codeIn K cdv qual = true) (S : FnScope N ps scope)
    (len : ∀ vs H Q E, sp vs H Q E → vs.length = ps.length)
    (hbody : ∀ (A : Around) (outer : List Env) (s : Shared) (H : Hp) (vs : List V) (Q : VK) (E : XK), Room k (A.deeper (envOfC qual scope s.heap.objs.size f cdv)) → sp vs H Q E →
      ∃ t, PSs (cxOf CX P w K mg base N qual scope f cdv A outer s H E) body t ∧ t { nx := fun _ H' => Q .non H', rt := Q } (start N vs) H) :
    FnOk P w K mg base CX (k + 1) f (PySem.W.fnOf name qual params body scope dV kV doc pm an cdv ct) ps sp := by
  refine ⟨len, fun A outer s H args us vs Q E hr e0 hb r hsp => ?_⟩
  have hl := len _ _ _ _ hsp
  have KX : K.In s.heap := e0.mod.kin.keeps fun b o e => (e0.bs b o e).1
  have lim : s.heap.NoLimit := e0.mod.nolimit.keeps fun b o e => (e0.bs b o e).1
  have hkind : ∀ y ∈ ps.zip us, scope.names.lookup y.1 = some .local ∨ (scope.names.lookup y.1 = some .cell ∧ ((cellsFrom (s.heap.objs.size + 1) scope.names []).lookup y.1).isSome = true) := fun ⟨n, v⟩ hy => by
    rcases S.par n (List.of_mem_zip hy).1 with q | q
    · exact .inl q
    · exact .inr ⟨q, PySem.W.cellsFrom_some _ _ _ (.inl q)⟩
  refine codeAny_call_function hr.depth (KX _ _ lk) rfl S.co S.gen rfl (PySem.W.codeRec_of KX hcd) (hb _ _ _ _ ?_)
  refine wpAny_newFunctionEnv_cells S.kind hkind fun env he s1 x => ?_
  subst he
  refine ⟨lim.keeps x.toInCall.keep, codeAny_func ?_⟩
  obtain ⟨t, ht, hq⟩ := hbody A outer s H vs Q E (hr.deeper _) hsp
  have I : Inv (cxOf CX P w K mg base N qual scope f cdv A outer s H E) [] (start N vs) H s1 := inv_start S hr.hd e0 hl r x
  refine wpAny_mono (ht [] s1 (start N vs) H _ I hq) (fun fl s' hs => ?_) fun e s' hs => hs
  have fin : ∀ {σ' : St} {H' : Hp} {v : V} {u : Value}, Inv (cxOf CX P w K mg base N qual scope f cdv A outer s H E) [] σ' H' s' → RelV v u → Q v H' → CE outer P w H s Q u s' :=
    fun {σ' H' v u} J rv q => ⟨v, H', J.os, J.bare, J.base, J.hok, rv, q⟩
  cases fl with
  | ret u =>
    obtain ⟨v, σ', H', J, rv, q⟩ := hs
    exact fin J rv q
  | next =>
    obtain ⟨σ', H', J, q⟩ := hs
    exact fin (v := V.non) (u := Value.none) J rfl q
  | brk =>
    obtain ⟨_, _, _, q⟩ := hs
    exact False.elim q
  | cont =>
    obtain ⟨_, _, _, q⟩ := hs
    exact False.elim q
end L2
namespace L2
open PySem PySem.Spec PyProof.Rows
section
variable {X : Cx} {x : Str} {p pos : Pos} {e : Expr} {es : List Expr} {t : TA} {id T : String} {r : List V → Hp → VK → Prop}
noncomputable def tCB (r : List V → Hp → VK → Prop) (t : TA) : TE := fun σ H Q => t σ H fun vs H1 => r vs H1 Q
theorem pe_callB (hc : CallR X (.builtin id) r) (hg : Gl X x) (hm : X.mg x = none) (hv : bootBuiltins x = some (.builtin id)) (ha : PA X (e :: es) t) (hn : x ≠ "__name__" := by decide) (hdb : (x == ("__debug__" : Str)) = false := by decide)
    (he : starEach (e :: es) X.env = (false, eval e X.env) :: starEach es X.env := by rfl) (hpl : (backTo pos (starEach es X.env)).any (·.1) = false := by rfl) : PE X (.Call (.Name x p) (e :: es) [] pos) (tCB r t) := by
  intro pins s σ H Q I h
  refine wpAny_Call_Name_kw (ld_blt I hg hm hv ?_ hn hdb)
  exact PyProof.Rows.callWith_builtin1 (thn (ha pos pins s σ H _ I h) fun us s1 ⟨vs, H1, I1, r1, q1⟩ => hc pins s1 σ H1 vs us Q I1 r1 q1) he hpl
end
end L2
namespace HT
open PySem PyProof.Rows
noncomputable def lexLt : List Int → List Int → Bool
  | [], [] => false
  | [], _ :: _ => true
  | _ :: _, [] => false
  | x :: xs, y :: ys => if x = y then lexLt xs ys else decide (x < y)
section
open PySem.SeqAt
open PySem.AutoSeq1 (wpAny_loadPart')
open PySem.MeetsSeq PySem.MeetsSeq2 PySem.MeetsSeq3
end
section
variable {prog : Program} {w : World} {A : Around} {E : Value → Shared → Prop} {s : Shared}
theorem cat_tup {t b : Addr} {vs ws : List Value} {Q : Value → Shared → Prop} (ht : IsTup s.heap t vs.toArray) (hb : IsTup s.heap b ws.toArray) (hv : vs ≠ [])
    (h1 : ws = [] → Q (.ref t) s) (h2 : ws ≠ [] → Q (.ref s.heap.objs.size) { s with heap := s.heap.push { cls := .type "tuple", data := .seq (vs ++ ws).toArray } })
    (hsz : vs.length + ws.length ≤ sizeLine) : wpAny (model prog w) A (binaryOp .Add (.ref t) (.ref b)) Q E s := by
  obtain ⟨⟨cls, dd, data, sl⟩, ho, hc, n, hd⟩ := id ht
  obtain ⟨⟨cls2, dd2, data2, sl2⟩, ho2, hc2, n2, hd2⟩ := id hb
  simp only at hc hd hc2 hd2
  subst hc hd hc2 hd2
  have e : vs.toArray ++ ws.toArray = (vs ++ ws).toArray := by simp
  by_cases hw : ws = []
  · exact concat_meets ⟨_, ho, rfl⟩ ⟨_, ho2, rfl⟩ noFill_tuple_add seq_tuple_add PySem.F.slot_tuple_add PySem.F.entry_tuple_add (PySem.F.args_tuple_add_2 _ _)
      (tuple_addW1 t b vs.toArray ws.toArray n n2 dd dd2 sl sl2 (by simpa using hv) (by simp [hw])) ⟨ho, ho2, h1 hw⟩
  · refine concat_meets ⟨_, ho, rfl⟩ ⟨_, ho2, rfl⟩ noFill_tuple_add seq_tuple_add PySem.F.slot_tuple_add PySem.F.entry_tuple_add (PySem.F.args_tuple_add_2 _ _)
      (tuple_addW2 t b vs.toArray ws.toArray n n2 dd dd2 sl sl2 (by simpa using hv) (by simpa using hw) (by rw [List.size_toArray, List.size_toArray]; exact hsz)) ⟨ho, ho2, ?_⟩
    rw [e]
    exact h2 hw
noncomputable def sIx (n d : Nat) : Option Int → Nat
  | none => d
  | some v => if v < 0 then (v + (n : Int)).toNat else min v.toNat n
theorem sIx_le (n d : Nat) (hd : d ≤ n) (o : Option Int) : sIx n d o ≤ n := by
  cases o with
  | none => exact hd
  | some v =>
    show (if v < 0 then (v + (n : Int)).toNat else min v.toNat n) ≤ n
    by_cases hv : v < 0
    · rw [if_pos hv]; omega
    · rw [if_neg hv]; exact Nat.min_le_right _ _
theorem clip_eq (v : Int) (n d : Nat) : (if v < 0 then max (v + (n : Int)) 0 else min v (n : Int)) = ((sIx n d (some v) : Nat) : Int) := by
  show (if v < 0 then max (v + (n : Int)) 0 else min v (n : Int)) = (((if v < 0 then (v + (n : Int)).toNat else min v.toNat n) : Nat) : Int)
  by_cases hv : v < 0
  · simp only [if_pos hv]; omega
  · simp only [if_neg hv]; omega
theorem adjust_gen (lo hi : Option Int) (n : Nat) : Builtin.Slice.sliceAdjust lo hi 1 (n : Int) = (((sIx n 0 lo : Nat) : Int), ((sIx n n hi : Nat) : Int)) := by
  have h1 : ¬ ((1 : Int) < 0) := by omega
  unfold Builtin.Slice.sliceAdjust
  simp only [h1, if_false]
  refine Prod.ext ?_ ?_
  · cases lo with
    | none => rfl
    | some v => exact clip_eq v n 0
  · cases hi with
    | none => rfl
    | some v => exact clip_eq v n n
theorem places_gen (i j : Nat) : Builtin.Slice.slicePlaces (i : Int) (j : Int) 1 = j - i := by
  unfold Builtin.Slice.slicePlaces
  have h1 : (1 : Int) > 0 := by omega
  simp only [h1, if_true, Int.ediv_one]
  split <;> omega
theorem slicePart_ {v : Value} {o : Option Int} {Q : Option Int → Shared → Prop} (p : IsPart v o) (h : Q o s) : wpAny (model prog w) A (Builtin.Slice.slicePartIndex v) Q E s := by
  cases p with
  | none => exact slicePart_none h
  | int i t => exact slicePart_int h
theorem sliceApplied_gen {sl : Addr} {vl vu : Value} {lo hi : Option Int} {n : Nat} {Q : Int × Int × Nat → Shared → Prop} (hs : s.heap.IsSliceOf sl vl vu .none) (pl : IsPart vl lo) (pu : IsPart vu hi)
    (h : Q (((sIx n 0 lo : Nat) : Int), 1, sIx n n hi - sIx n 0 lo) s) : wpAny (model prog w) A (Builtin.Slice.sliceApplied (.ref sl) (pure (n : Int))) Q E s := by
  obtain ⟨os, hos, hcs, hds⟩ := id hs
  unfold Builtin.Slice.sliceApplied Builtin.Slice.sliceFields
  refine wpAny_bind (wpAny_bind (wpAny_field hos hds (x := vl) rfl (wpAny_bind (wpAny_field hos hds (x := vu) rfl (wpAny_bind (wpAny_field hos hds (x := .none) rfl (wpAny_pure ?_)))))))
  refine wpAny_bind (slicePart_none ?_)
  show wpAny _ _ (if ((1 : Int) == 0) = true then _ else _) _ _ s
  rw [if_neg (by decide)]
  refine wpAny_bind (slicePart_ pl (wpAny_bind (slicePart_ pu (wpAny_bind (wpAny_pure ?_)))))
  show wpAny _ _ (match Builtin.Slice.sliceAdjust lo hi 1 (n : Int) with | (lo, hi) => pure (lo, (1 : Int), Builtin.Slice.slicePlaces lo hi 1)) _ _ s
  rw [adjust_gen lo hi n]
  show wpAny _ _ (pure (((sIx n 0 lo : Nat) : Int), (1 : Int), Builtin.Slice.slicePlaces ((sIx n 0 lo : Nat) : Int) ((sIx n n hi : Nat) : Int) 1)) _ _ s
  rw [places_gen]
  exact wpAny_pure h
theorem pick_gen (xs : Array Value) (i k : Nat) : ((List.range k).filterMap fun (m : Nat) => xs[((i : Int) + (m : Int) * 1).toNat]?).toArray = ((xs.toList.drop i).take k).toArray := by
  have e : (fun (m : Nat) => xs[((i : Int) + (m : Int) * 1).toNat]?) = fun m => xs[i + m]? := by
    funext m
    have : ((i : Int) + (m : Int) * 1).toNat = i + m := by omega
    rw [this]
  rw [e]
  have := pick_run xs i k
  rw [List.filterMap_map] at this
  have e2 : ((fun x => xs[x]?) ∘ fun x => i + x) = fun m => xs[i + m]? := rfl
  rw [e2] at this
  rw [this]
theorem getItem_tuple_cut {t sl : Addr} {items : Array Value} {vl vu : Value} {lo hi : Option Int} {Q : Value → Shared → Prop} (ht : IsTup s.heap t items) (hs : s.heap.IsSliceOf sl vl vu .none) (pl : IsPart vl lo) (pu : IsPart vu hi)
    (hw : ¬ (sIx items.size 0 lo = 0 ∧ sIx items.size items.size hi = items.size))
    (h : Q (.ref s.heap.objs.size) { s with heap := s.heap.push { cls := .type "tuple", data := .seq ((items.toList.drop (sIx items.size 0 lo)).take (sIx items.size items.size hi - sIx items.size 0 lo)).toArray } })
    (hsz : items.size ≤ sizeLine) : wpAny (model prog w) A (getItem (.ref t) (.ref sl)) Q E s := by
  have htake : sizeOk (.seq ((items.toList.drop (sIx items.size 0 lo)).take (sIx items.size items.size hi - sIx items.size 0 lo)).toArray) := by
    show ((items.toList.drop (sIx items.size 0 lo)).take (sIx items.size items.size hi - sIx items.size 0 lo)).toArray.size ≤ sizeLine
    rw [List.size_toArray, List.length_take, List.length_drop, Array.length_toList]
    omega
  have hj : sIx items.size items.size hi ≤ items.size := sIx_le _ _ (Nat.le_refl _) hi
  obtain ⟨os, hos, hcs, hds⟩ := id hs
  have hTs : s.TypeIs (.ref sl) "slice" := ⟨os, hos, hcs⟩
  unfold getItem
  try with_reducible refine wpAny_holding ?_
  first | refine wpAny_bind (wpAny_pure ?_) | skip
  refine wpAny_bind (wpAny_sequenceKey ht.typeIs (by decide) ?_)
  refine wpAny_bind (wpAny_callSpecial?_slot (name := Str.ofString "__getitem__") ht.typeIs PyProof.Rows.slot_tuple_getitem
    (wpAny_call_entry PyProof.Rows.slot_tuple_getitem ht.typeIs entry_tuple_getitem ?_ (args_tuple_getitem _ _)))
  show wpAny _ _ (Builtin.Tuple.tupleItemsOf (.ref t) >>= _) _ _ s
  refine wpAny_bind (tupleItemsOf_ ht ?_)
  refine wpAny_bind (wpAny_typeOf hTs ?_)
  rw [if_pos (by decide)]
  refine wpAny_bind (sliceApplied_gen hs pl pu ?_)
  have hno : ¬ ((((sIx items.size 0 lo : Nat) : Int) == 0 && (1 : Int) == 1 && (sIx items.size items.size hi - sIx items.size 0 lo) == items.size) = true) := by
    intro q
    rw [Bool.and_eq_true, Bool.and_eq_true] at q
    have q1 : ((sIx items.size 0 lo : Nat) : Int) = 0 := eq_of_beq q.1.1
    have q2 : sIx items.size items.size hi - sIx items.size 0 lo = items.size := eq_of_beq q.2
    exact hw ⟨by omega, by omega⟩
  show wpAny _ _ (if (((sIx items.size 0 lo : Nat) : Int) == 0 && (1 : Int) == 1 && (sIx items.size items.size hi - sIx items.size 0 lo) == items.size) = true then _ else _) _ _ s
  rw [if_neg hno, pick_gen]
  first
    | exact wpAny_bind (m := Builtin.Tuple.tupleExact _) (wpAny_newObj_type (wpAny_pure ⟨_, rfl, wpAny_pure h⟩) htake)
    | exact wpAny_bind (m := Builtin.Tuple.tupleExact _) (wpAny_newObj_type (wpAny_bind (wpAny_pure (wpAny_pure ⟨_, rfl, wpAny_pure h⟩))) htake)
    | exact wpAny_bind (wpAny_bind (m := Builtin.Tuple.tupleExact _) (wpAny_newObj_type (wpAny_pure (wpAny_pure ⟨_, rfl, wpAny_pure h⟩)) htake))
    | exact wpAny_bind (wpAny_bind (m := Builtin.Tuple.tupleExact _) (wpAny_newObj_type (wpAny_pure ⟨_, rfl, wpAny_pure h⟩) htake))
end
end HT
namespace L2
open PySem PySem.Spec PyProof.Rows
noncomputable abbrev TO := St → Hp → (Option Int → Hp → Prop) → Prop
noncomputable def PO (X : Cx) (e : Option Expr) (t : TO) : Prop :=
  ∀ (pins : List (Addr × Obj)) (s : Shared) (σ : St) (H : Hp) (Q : Option Int → Hp → Prop), Inv X pins σ H s → t σ H Q →
    wpAny (model X.prog X.w) X.A (evalPart e X.env) (fun u s' => ∃ o H', Inv X pins σ H' s' ∧ IsPart u o ∧ Q o H') X.xe s
noncomputable def tNoPart : TO := fun _ H Q => Q none H
noncomputable def tPart (t : TE) : TO := fun σ H Q => t σ H fun x H1 => ∃ i, x = .int i ∧ Q (some i) H1
theorem intsAre_of {ns : List Int} : ∀ {us : List Value}, Vals (ns.map V.int) us → IntsAre us ns := by
  induction ns with
  | nil => intro us r; rw [List.map_nil] at r; cases r; exact .nil
  | cons n ns ih =>
    intro us r
    rw [List.map_cons] at r
    cases r with
    | cons r1 r2 =>
      obtain ⟨t, e⟩ := r1
      subst e
      exact .cons n t (ih r2)
section
variable {X : Cx} {e : Expr} {te : TE} {lo hi : Option Expr} {tl th : TO} {pos p2 : Pos}
theorem po_none : PO X none tNoPart := by
  intro pins s σ H Q I h
  rw [evalPart_none]
  exact wpAny_pure ⟨none, H, I, .none, h⟩
theorem po_some (h : PE X e te) : PO X (some e) (tPart te) := by
  intro pins s σ H Q I hw
  rw [evalPart_some]
  refine thn (h pins s σ H _ I hw) fun u s1 ⟨x, H1, I1, r1, q1⟩ => ?_
  obtain ⟨i, rfl, q⟩ := q1
  obtain ⟨t, rfl⟩ := r1
  exact ⟨some i, H1, I1, .int i t, q⟩
noncomputable def SlR (X : Cx) (r : V → Option Int → Option Int → Hp → VK → Prop) : Prop :=
  ∀ (pins : List (Addr × Obj)) (s : Shared) (σ : St) (H : Hp) (x : V) (v vl vu : Value) (lo hi : Option Int) (sl : Addr) (Q : VK), Inv X pins σ H s → RelV x v → s.heap.IsSliceOf sl vl vu .none → IsPart vl lo → IsPart vu hi → r x lo hi H Q →
    ∃ T id, typeLookup (.type T) "__getitem__" = pure (some (.builtin id)) ∧ s.TypeIs v T ∧ wpAny (model X.prog X.w) X.A (getItem v (.ref sl)) (EP X pins σ Q) X.xe s
theorem SlR.or {r r' : V → Option Int → Option Int → Hp → VK → Prop} (h : SlR X r) (h' : SlR X r') : SlR X (fun x lo hi H Q => r x lo hi H Q ∨ r' x lo hi H Q) := by
  intro pins s σ H x v vl vu lo hi sl Q I rx hs pl pu q
  rcases q with q | q
  · exact h pins s σ H x v vl vu lo hi sl Q I rx hs pl pu q
  · exact h' pins s σ H x v vl vu lo hi sl Q I rx hs pl pu q
noncomputable def tSl (r : V → Option Int → Option Int → Hp → VK → Prop) (te : TE) (tl th : TO) : TE := fun σ H Q => te σ H fun x H1 => tl σ H1 fun l H2 => th σ H2 fun u H3 => r x l u H3 Q
theorem pe_slice {r : V → Option Int → Option Int → Hp → VK → Prop} (hr : SlR X r) (he : PE X e te) (hl : PO X lo tl) (hu : PO X hi th) : PE X (.Subscript e (.Slice lo hi none p2) pos) (tSl r te tl th) := by
  intro pins s σ H Q I h
  refine Subscript_ (thn (he pins s σ H _ I h) fun v s1 ⟨x, H1, I1, r1, q1⟩ => ?_)
  refine wpAny_Slice (thn (hl pins s1 σ H1 _ I1 q1) fun vl s2 ⟨l, H2, I2, pl, q2⟩ => thn (hu pins s2 σ H2 _ I2 q2) fun vu s3 ⟨u, H3, I3, pu, q3⟩ => ?_)
  rw [evalPart_none]
  refine wpAny_pure ?_
  have I4 : Inv X pins σ H3 { s3 with heap := s3.heap.push { cls := .type "slice", data := .fields #[vl, vu, .none] } } := I3.kept (t' := s3.toks) fun b ob q => Heap.get?_push_of_some _ q
  obtain ⟨T, id, hT, ht, hg⟩ := hr pins { s3 with heap := s3.heap.push { cls := .type "slice", data := .fields #[vl, vu, .none] } } σ H3 x v vl vu l u s3.heap.objs.size Q I4 r1 (Heap.IsSliceOf.new ..) pl pu q3
  show wpAny (model X.prog X.w) X.A (subscriptTail e (.Slice lo hi none p2) v (.ref s3.heap.objs.size)) (EP X pins σ Q) X.xe { s3 with heap := s3.heap.push { cls := .type "slice", data := .fields #[vl, vu, .none] } }
  exact tail_any (ops := [.ref s3.heap.objs.size, v]) ht hT hg (by with_unfolding_all rfl)
noncomputable def cutV (xs : List V) (lo hi : Option Int) : List V := (xs.drop (HT.sIx xs.length 0 lo)).take (HT.sIx xs.length xs.length hi - HT.sIx xs.length 0 lo)
theorem cutV_length (xs : List V) (lo hi : Option Int) : (cutV xs lo hi).length ≤ xs.length := by
  unfold cutV
  rw [List.length_take, List.length_drop]
  omega
noncomputable def rSlT (K : PySem.W.Frag) : V → Option Int → Option Int → Hp → VK → Prop := fun x lo hi H Q => ∃ a xs, x = .ref a ∧ SqT K H a xs ∧
  ¬ (HT.sIx xs.length 0 lo = 0 ∧ HT.sIx xs.length xs.length hi = xs.length) ∧ ∀ p, H p = none → Q (.ref p) (upd H p (.tup (cutV xs lo hi)))
theorem sl_tup : SlR X (rSlT X.K) := by
  intro pins s σ H x v vl vu lo hi sl Q I rx hs pl pu h
  obtain ⟨a, xs, rfl, hx, hw, q⟩ := h
  cases rx
  obtain ⟨its, r, ht, hz⟩ := I.tuple hx
  have hlen : its.toArray.size = xs.length := by rw [List.size_toArray]; exact r.length.symm
  refine ⟨"tuple", _, PyProof.Rows.slot_tuple_getitem.lookup, ht.typeIs, ?_⟩
  refine HT.getItem_tuple_cut ht hs pl pu (by rw [hlen]; exact hw) ?_ (by rw [hlen]; exact hz)
  rw [hlen]
  refine ⟨.ref s.heap.objs.size, _, I.laid (t' := s.toks) (o := .tup (cutV xs lo hi)) (fun b ob q => Heap.get?_push_of_some _ q) (Nat.le_refl _) ?_, rfl, q _ (I.hok.fresh (Nat.le_refl _))⟩
  exact ⟨Nat.le_trans (cutV_length xs lo hi) hz, _, (r.drop (HT.sIx xs.length 0 lo)).take (HT.sIx xs.length xs.length hi - HT.sIx xs.length 0 lo), IsTup.new _ _⟩
noncomputable def rCatT (K : PySem.W.Frag) : R2 := fun x y H Q => ∃ a b xs ys, x = .ref a ∧ y = .ref b ∧ SqT K H a xs ∧ SqT K H b ys ∧ xs ≠ [] ∧ xs.length + ys.length ≤ sizeLine ∧
  (ys = [] → Q (.ref a) H) ∧ (ys ≠ [] → ∀ p, H p = none → Q (.ref p) (upd H p (.tup (xs ++ ys))))
theorem Vals.nil_iff {xs : List V} {us : List Value} (r : Vals xs us) : us = [] ↔ xs = [] := by
  cases r with
  | nil => simp
  | cons _ _ => simp
theorem op_catT : OpR X (binaryOp .Add) (rCatT X.K) := by
  intro pins s σ H x y v u Q I rx ry h
  obtain ⟨a, b, xs, ys, rfl, rfl, ha, hb, hx, hz, q1, q2⟩ := h
  cases rx
  cases ry
  obtain ⟨its, r1, p1, _⟩ := I.tuple ha
  obtain ⟨its2, r2, p2, _⟩ := I.tuple hb
  refine HT.cat_tup p1 p2 (fun z => hx (r1.nil_iff.mp z)) (fun z => ⟨.ref a, H, I, rfl, q1 (r2.nil_iff.mp z)⟩) (fun z => ?_) (by rw [← r1.length, ← r2.length]; exact hz)
  refine ⟨.ref s.heap.objs.size, _, I.laid (t' := s.toks) (o := .tup (xs ++ ys)) (fun b ob q => Heap.get?_push_of_some _ q) (Nat.le_refl _) ?_, rfl, q2 (fun w => z (r2.nil_iff.mpr w)) _ (I.hok.fresh (Nat.le_refl _))⟩
  exact ⟨by rw [List.length_append]; exact hz, _, r1.append r2, IsTup.new _ _⟩
end
end L2
namespace L2
open PySem PySem.Spec PyProof.Rows
noncomputable def ixN (n : Nat) (i : Int) : Option Nat := if 0 ≤ i then (if i < n then some i.toNat else none) else if -(n : Int) ≤ i then some (i + n).toNat else none
noncomputable def atI {α : Type} (xs : List α) (i : Int) : Option α := (ixN xs.length i).bind fun j => xs[j]?
theorem ixN_seq {n : Nat} {i : Int} {j : Nat} (h : ixN n i = some j) : seqIndex? i n = some j ∧ j < n ∧ -(n : Int) ≤ i ∧ i < n := by
  unfold ixN at h
  by_cases h0 : 0 ≤ i
  · rw [if_pos h0] at h
    by_cases h1 : i < n
    · rw [if_pos h1] at h
      have e : i.toNat = j := Option.some.inj h
      exact ⟨by rw [seqIndex_of h0 h1, e], by omega, by omega, h1⟩
    · rw [if_neg h1] at h; cases h
  · rw [if_neg h0] at h
    by_cases h1 : -(n : Int) ≤ i
    · rw [if_pos h1] at h
      have e : (i + n).toNat = j := Option.some.inj h
      exact ⟨by rw [seqIndex_neg (by omega) h1, e], by omega, h1, by omega⟩
    · rw [if_neg h1] at h; cases h
theorem atI_get {α : Type} {xs : List α} {i : Int} {v : α} (h : atI xs i = some v) : ∃ j, seqIndex? i xs.length = some j ∧ xs[j]? = some v ∧ j < xs.length ∧ -(xs.length : Int) ≤ i ∧ i < xs.length := by
  unfold atI at h
  cases e : ixN xs.length i with
  | none => rw [e] at h; cases h
  | some j =>
    rw [e] at h
    obtain ⟨h1, h2, h3, h4⟩ := ixN_seq e
    exact ⟨j, h1, h, h2, h3, h4⟩
noncomputable def PlainIx (b : Expr) : Prop := ∀ o i, subscripted b false o i = operate [o, i] (getItem o i)
noncomputable def IxR (X : Cx) (r : R2) : Prop :=
  ∀ (value slice : Expr) (pins : List (Addr × Obj)) (s : Shared) (σ : St) (H : Hp) (x y : V) (v u : Value) (Q : VK), Inv X pins σ H s → RelV x v → RelV y u → r x y H Q →
    subscripted slice false v u = operate [v, u] (getItem v u) → wpAny (model X.prog X.w) X.A (subscriptTail value slice v u) (EP X pins σ Q) X.xe s
noncomputable def MtR (X : Cx) (id : String) (r : V → List V → Hp → VK → Prop) : Prop :=
  ∀ (pins : List (Addr × Obj)) (s : Shared) (σ : St) (H : Hp) (x : V) (xs : List V) (v : Value) (us : List Value) (Q : VK), Inv X pins σ H s → RelV x v → Vals xs us → r x xs H Q →
    wpAny (model X.prog X.w) X.A (call (.builtin id) (v :: us)) (EP X pins σ Q) X.xe s
section
variable {X : Cx} {a b : Expr} {ta tb : TE} {pos : Pos}
theorem IxR.or {r r' : R2} (h : IxR X r) (h' : IxR X r') : IxR X (fun x y H Q => r x y H Q ∨ r' x y H Q) := by
  intro value slice pins s σ H x y v u Q I rx ry q hs
  rcases q with q | q
  · exact h value slice pins s σ H x y v u Q I rx ry q hs
  · exact h' value slice pins s σ H x y v u Q I rx ry q hs
theorem pe_ix {r : R2} (hr : IxR X r) (ha : PE X a ta) (hb : PE X b tb) (hs : PlainIx b) : PE X (.Subscript a b pos) (tOp r ta tb) := by
  intro pins s σ H Q I h
  exact Subscript_ (binT ha hb I h fun v u s2 x y H2 I2 rx ry q => hr a b pins s2 σ H2 x y v u Q I2 rx ry q (hs _ _))
noncomputable def rIxL (K : PySem.W.Frag) : R2 := fun x y H Q => ∃ p xs i v, x = .ref p ∧ y = .int i ∧ SqL K H p xs ∧ atI xs i = some v ∧ Q v H
noncomputable def rIxT (K : PySem.W.Frag) : R2 := fun x y H Q => ∃ p xs i v, x = .ref p ∧ y = .int i ∧ SqT K H p xs ∧ atI xs i = some v ∧ Q v H
theorem ix_list : IxR X (rIxL X.K) := by
  intro value slice pins s σ H x y v u Q I rx ry h hs
  obtain ⟨p, xs, i, z, rfl, rfl, hq, he, q⟩ := h
  cases rx
  obtain ⟨t, rfl⟩ := ry
  obtain ⟨its, r, pl, hz⟩ := I.list hq
  obtain ⟨j, h1, h2, h3, h4, h5⟩ := atI_get he
  obtain ⟨w, ew, rw'⟩ := r.get h2
  have hl := r.length
  have hn := line63
  have fin : EP X pins σ Q w s := ⟨z, H, I, rw', q⟩
  by_cases h0 : 0 ≤ i
  · have hj : i.toNat = j := by
      rw [seqIndex_of h0 h5] at h1
      exact Option.some.inj h1
    exact item_listR pl.isList h0 (by omega) (by rw [hj]; simpa using ew) fin hs
  · have hj : (i + (its.toArray.size : Int)).toNat = j := by
      rw [seqIndex_neg (by omega) h4] at h1
      rw [List.size_toArray, ← hl]
      exact Option.some.inj h1
    exact subscriptTail_builtinR (x := w) pl.isList.typeIs slot_list_getitem.lookup
      (wpAny_getItem_list_neg (Q := fun r s' => r = w ∧ EP X pins σ Q r s') pl.isList (by omega) (by rw [List.size_toArray] <;> omega) (by omega) (by rw [hj]; simpa using ew) ⟨rfl, fin⟩) hs
theorem ix_tup : IxR X (rIxT X.K) := by
  intro value slice pins s σ H x y v u Q I rx ry h hs
  obtain ⟨p, xs, i, z, rfl, rfl, hq, he, q⟩ := h
  cases rx
  obtain ⟨t, rfl⟩ := ry
  obtain ⟨its, r, pl, hz⟩ := I.tuple hq
  obtain ⟨j, h1, h2, h3, h4, h5⟩ := atI_get he
  obtain ⟨w, ew, rw'⟩ := r.get h2
  have hl := r.length
  have hn := line63
  have fin : EP X pins σ Q w s := ⟨z, H, I, rw', q⟩
  exact subscriptTail_builtinR (x := w) pl.typeIs slot_tuple_getitem.lookup
    (getItem_tuple (j := j) (Q := fun r s' => r = w ∧ EP X pins σ Q r s') pl (by omega) (by omega) (by rw [List.size_toArray, ← hl]; exact h1) (by simpa using ew) ⟨rfl, fin⟩) hs
theorem Inv.lst {pins : List (Addr × Obj)} {σ : St} {H : Hp} {s : Shared} {p : Addr} {xs : List V} (I : Inv X pins σ H s) (h : H p = some (.lst xs)) :
    ∃ (its : List Value) (n : Nat), Vals xs its ∧ s.heap.get? p = some { cls := .type "list", data := .seq its.toArray n } ∧ xs.length ≤ sizeLine := by
  obtain ⟨z, its, n, r, e⟩ := I.hok p _ h
  exact ⟨its, n, r, e, z⟩
theorem slice_bounds (lo hi : Option Int) (n : Nat) : (sliceBounds lo hi none n).1 = ((HT.sIx n 0 lo : Nat) : Int) ∧ (sliceBounds lo hi none n).2.1 = ((HT.sIx n n hi : Nat) : Int) ∧ (sliceBounds lo hi none n).2.2 = 1 := by
  refine ⟨?_, ?_, rfl⟩
  · cases lo with
    | none => simp [sliceBounds, HT.sIx]
    | some i =>
      simp only [sliceBounds, HT.sIx, Option.getD_none, show (1 : Int) > 0 by decide, if_true]
      by_cases h : i < 0
      · simp only [h, if_true] <;> omega
      · simp only [h, if_false] <;> omega
  · cases hi with
    | none => simp [sliceBounds, HT.sIx]
    | some i =>
      simp only [sliceBounds, HT.sIx, Option.getD_none, show (1 : Int) > 0 by decide, if_true]
      by_cases h : i < 0
      · simp only [h, if_true] <;> omega
      · simp only [h, if_false] <;> omega
theorem slicePick_cut (its : List Value) (lo hi : Option Int) : slicePick its.toArray lo hi none = ((its.drop (HT.sIx its.length 0 lo)).take (HT.sIx its.length its.length hi - HT.sIx its.length 0 lo)).toArray := by
  obtain ⟨h1, h2, h3⟩ := slice_bounds lo hi its.toArray.size
  unfold slicePick
  rw [h1, h2, h3]
  simp only [sliceRange_one, pick_run, List.size_toArray] <;> rfl
noncomputable def rSlL (K : PySem.W.Frag) : V → Option Int → Option Int → Hp → VK → Prop := fun x lo hi H Q => ∃ a xs, x = .ref a ∧ SqL K H a xs ∧ ∀ p, H p = none → Q (.ref p) (upd H p (.lst (cutV xs lo hi)))
theorem sl_list : SlR X (rSlL X.K) := by
  intro pins s σ H x v vl vu lo hi sl Q I rx hs pl pu h
  obtain ⟨a, xs, rfl, hx, q⟩ := h
  cases rx
  obtain ⟨its, r, ht, hz⟩ := I.list hx
  have hlen := r.length
  refine ⟨"list", _, slot_list_getitem.lookup, ht.isList.typeIs, ?_⟩
  refine wpAny_getItem_list_slice ht.isList hs pl pu .none (by simp) ?_ (by rw [List.size_toArray] <;> omega)
  rw [slicePick_cut, ← hlen]
  refine ⟨.ref s.heap.objs.size, _, I.laid (t' := s.toks) (o := .lst (cutV xs lo hi)) (fun b ob q => Heap.get?_push_of_some _ q) (Nat.le_refl _) ?_, rfl, q _ (I.hok.fresh (Nat.le_refl _))⟩
  exact ⟨Nat.le_trans (cutV_length xs lo hi) hz, _, 0, (r.drop (HT.sIx xs.length 0 lo)).take (HT.sIx xs.length xs.length hi - HT.sIx xs.length 0 lo), Heap.get?_push_size _ rfl⟩
noncomputable def flatV : V → Bool
  | .non => true
  | .bl _ => true
  | .int _ => true
  | .str _ => true
  | _ => false
noncomputable def eqV : V → V → Bool
  | .non, .non => true
  | .bl a, .bl b => a == b
  | .bl a, .int b => (if a then 1 else 0) == b
  | .int a, .bl b => a == (if b then 1 else 0)
  | .int a, .int b => a == b
  | .str a, .str b => a == b
  | _, _ => false
theorem eqAt_V {A : Around} {s : Shared} {y x : V} {u v : Value} (ry : RelV y u) (rx : RelV x v) (fy : flatV y = true) (fx : flatV x = true) : SeqAt.EqAt A s u v (eqV y x) := by
  cases y with
  | non =>
    cases ry
    cases x with
    | non => cases rx; exact SeqAt.EqAt.same _
    | bl b => cases rx; exact SeqAt.EqAt.none_bool b
    | int b => obtain ⟨t, rfl⟩ := rx; exact SeqAt.EqAt.none_int b t
    | str b => obtain ⟨t, rfl⟩ := rx; exact SeqAt.EqAt.none_str b t
    | _ => exact absurd (show false = true from fx) Bool.false_ne_true
  | bl a =>
    cases ry
    cases x with
    | non => cases rx; exact SeqAt.EqAt.bool_none a
    | bl b => cases rx; exact SeqAt.EqAt.bool_bool a b
    | int b => obtain ⟨t, rfl⟩ := rx; exact SeqAt.EqAt.bool_int a b t
    | str b => obtain ⟨t, rfl⟩ := rx; exact SeqAt.EqAt.bool_str a b t
    | _ => exact absurd (show false = true from fx) Bool.false_ne_true
  | int a =>
    obtain ⟨t', rfl⟩ := ry
    cases x with
    | non => cases rx; exact SeqAt.EqAt.int_none a t'
    | bl b => cases rx; exact SeqAt.EqAt.int_bool a t' b
    | int b => obtain ⟨t, rfl⟩ := rx; exact SeqAt.EqAt.int_int a t' b t
    | str b => obtain ⟨t, rfl⟩ := rx; exact SeqAt.EqAt.int_str a t' b t
    | _ => exact absurd (show false = true from fx) Bool.false_ne_true
  | str a =>
    obtain ⟨t', rfl⟩ := ry
    cases x with
    | non => cases rx; exact SeqAt.EqAt.str_none a t'
    | bl b => cases rx; exact SeqAt.EqAt.str_bool a t' b
    | int b => obtain ⟨t, rfl⟩ := rx; exact SeqAt.EqAt.str_int a t' b t
    | str b => obtain ⟨t, rfl⟩ := rx; exact SeqAt.EqAt.str_str a t' b t
    | _ => exact absurd (show false = true from fx) Bool.false_ne_true
  | _ => exact absurd (show false = true from fy) Bool.false_ne_true
theorem call_len_seq : CallR X (.builtin "len") (fun xs H Q => ∃ p ys, xs = [.ref p] ∧ (SqL X.K H p ys ∨ SqT X.K H p ys) ∧ Q (.int ys.length) H) := by
  intro pins s σ H xs us Q I r h
  obtain ⟨p, ys, rfl, hq, q⟩ := h
  obtain ⟨u, rfl, rx⟩ := vals1 r
  cases rx
  have hn := line63
  rcases hq with hq | hq
  · obtain ⟨its, r', pl, hz⟩ := I.list hq
    have hlen := r'.length
    exact Calls.call_len_list pl.isList (by simp only [List.size_toArray] <;> omega) ⟨.int ys.length, H, I.tok _, ⟨s.toks + 1, by rw [List.size_toArray, hlen]⟩, q⟩
  · obtain ⟨its, r', pl, hz⟩ := I.tuple hq
    have hlen := r'.length
    exact len_tuple pl (by simp only [List.size_toArray] <;> omega) ⟨.int ys.length, H, I.tok _, ⟨s.toks + 1, by rw [List.size_toArray, hlen]⟩, q⟩
theorem CallR.or {f : Value} {r r' : List V → Hp → VK → Prop} (h : CallR X f r) (h' : CallR X f r') : CallR X f (fun xs H Q => r xs H Q ∨ r' xs H Q) := by
  intro pins s σ H xs us Q I rs q
  rcases q with q | q
  · exact h pins s σ H xs us Q I rs q
  · exact h' pins s σ H xs us Q I rs q
noncomputable def tyV (K : PySem.W.Frag) (T : String) (x : V) (H : Hp) : Prop := match x with
  | .str _ => T = "str"
  | .int _ => T = "int"
  | .ref p => (T = "list" ∧ ∃ xs, SqL K H p xs) ∨ (T = "tuple" ∧ ∃ o, K.lookup p = some o ∧ o.cls = .type "tuple" ∧ o.dict = none) ∨
      (T = "dict" ∧ ((∃ kvs, H p = some (.dK kvs)) ∨ ∃ kvs, H p = some (.dT kvs))) ∨ (T = "set" ∧ ∃ S n, H p = some (.set S n))
  | _ => False
theorem tyV_is {pins : List (Addr × Obj)} {σ : St} {H : Hp} {s : Shared} {T : String} {x : V} {v : Value} (I : Inv X pins σ H s) (r : RelV x v) (ty : tyV X.K T x H) :
    s.TypeIs v T ∧ ∀ a, v = .ref a → ∃ ob, s.heap.get? a = some ob ∧ ob.dict = none := by
  cases x with
  | str z =>
    obtain ⟨t, rfl⟩ := r
    cases (show T = "str" from ty)
    exact ⟨typeIs_str s z t, fun _ e => nomatch e⟩
  | int i =>
    obtain ⟨t, rfl⟩ := r
    cases (show T = "int" from ty)
    exact ⟨typeIs_int s i t, fun _ e => nomatch e⟩
  | ref p =>
    cases r
    rcases ty with ⟨rfl, xs, hq⟩ | ⟨rfl, o, hk, hc, hd⟩ | ⟨rfl, hk⟩ | ⟨rfl, S, n, hk⟩
    · obtain ⟨its, _, pl, _⟩ := I.list hq
      refine ⟨pl.isList.typeIs, fun a e => ?_⟩
      cases e
      obtain ⟨o, n, e, c, hd, _⟩ := pl
      exact ⟨o, e, hd⟩
    · refine ⟨⟨o, I.kIn p o hk, hc⟩, fun a e => ?_⟩
      cases e
      exact ⟨o, I.kIn _ o hk, hd⟩
    · have z : ∃ o, s.heap.get? p = some o ∧ o.ExactDict := by
        rcases hk with ⟨kvs, hk⟩ | ⟨kvs, hk⟩
        · obtain ⟨_, _, _, _, o, _, _, e, ex, _⟩ := I.hok p _ hk
          exact ⟨o, e, ex⟩
        · obtain ⟨_, _, _, _, o, _, _, e, ex, _⟩ := I.hok p _ hk
          exact ⟨o, e, ex⟩
      obtain ⟨o, e, ex⟩ := z
      refine ⟨⟨o, e, ex.1⟩, fun a e2 => ?_⟩
      cases e2
      exact ⟨o, e, ex.2.1⟩
    · obtain ⟨o, _, _, _, e, ex, _⟩ := I.hok p _ hk
      refine ⟨⟨o, e, ex.1⟩, fun a e2 => ?_⟩
      cases e2
      exact ⟨o, e, ex.2.1⟩
  | _ => exact False.elim ty
noncomputable def tBM0 (K : PySem.W.Frag) (T : String) (r : V → List V → Hp → VK → Prop) (to : TE) : TE := fun σ H Q => to σ H fun x H1 => tyV K T x H1 ∧ r x [] H1 Q
noncomputable def tBM (K : PySem.W.Frag) (T : String) (r : V → List V → Hp → VK → Prop) (to : TE) (t : TA) : TE := fun σ H Q => to σ H fun x H1 => tyV K T x H1 ∧ t σ H1 fun xs H2 => r x xs H2 Q
variable {o e : Expr} {es : List Expr} {to : TE} {t : TA} {name : Str} {apos cpos : Pos} {T id : String} {r : V → List V → Hp → VK → Prop}
theorem pe_bm0 (pa : PlainAttrs T) (slot : Slot T name id) (hty : typeOf (.builtin id) = pure (.type "method_descriptor")) (hm : MtR X id r) (ho : PE X o to)
    (hbase : attributeBase o name X.env (eval o X.env) = eval o X.env := by rfl) (hline : (apos.endLine == cpos.line) = true := by rfl) : PE X (.Call (.Attribute o name apos) [] [] cpos) (tBM0 X.K T r to) := by
  intro pins s σ H Q I h
  refine wpAny_Call_method0_late hbase hline (thn (ho pins s σ H _ I h) fun v s1 ⟨x, H1, I1, r1, ty, q1⟩ => ?_)
  obtain ⟨h1, h2⟩ := tyV_is I1 r1 ty
  exact ⟨T, id, pa, slot, hty, h1, h2, Calls.callWith_builtin rfl (PySem.evalArgs_none (hm pins s1 σ H1 x [] v [] Q I1 r1 .nil q1))⟩
theorem pe_bm (pa : PlainAttrs T) (slot : Slot T name id) (hty : typeOf (.builtin id) = pure (.type "method_descriptor")) (hm : MtR X id r) (ho : PE X o to) (ha : PA X (e :: es) t)
    (hbase : attributeBase o name X.env (eval o X.env) = eval o X.env := by rfl)
    (hfew : ((backTo cpos (starEach (e :: es) X.env)).all (fun x => !x.1) && (backToKw cpos (keywordEach [] X.env)).all (fun x => x.1.isSome)
      && decide ((e :: es).length + ([] : List Keyword).length + (if ([] : List Keyword).isEmpty then 0 else 1) < 30)) = true := by rfl)
    (hline : (apos.endLine == cpos.line) = true := by rfl) (hs : starEach (e :: es) X.env = (false, eval e X.env) :: starEach es X.env := by rfl) (hplain : (backTo cpos (starEach es X.env)).any (·.1) = false := by rfl) :
    PE X (.Call (.Attribute o name apos) (e :: es) [] cpos) (tBM X.K T r to t) := by
  intro pins s σ H Q I h
  refine wpAny_Call_method_late hbase hfew hline rfl (thn (ho pins s σ H _ I h) fun v s1 ⟨x, H1, I1, r1, ty, q1⟩ => ?_)
  obtain ⟨h1, h2⟩ := tyV_is I1 r1 ty
  refine ⟨T, id, pa, slot, hty, h1, h2, ?_⟩
  have hA := ha cpos pins s1 σ H1 _ I1 q1
  rw [hs] at hA ⊢
  refine Calls.callWith_builtin (by show (false || (backTo cpos (starEach es X.env)).any (·.1)) = false; rw [hplain] <;> rfl) (Calls.evalArgs_plain ?_)
  exact thn hA fun us s2 ⟨vs, H2, I2, r2, q2⟩ => hm pins s2 σ H2 x vs v us Q I2 r1 r2 q2
/- xs.append(e), list.index on a module's tuple .. are MtR facts of 06m -/
end
end L2
namespace L2
open PySem PySem.Spec PyProof.Rows
noncomputable def MtM (X : Cx) (id : String) (r : V → List V → Hp → VK → Prop) : Prop :=
  ∀ (pins : List (Addr × Obj)) (s : Shared) (σ : St) (H : Hp) (x : V) (xs : List V) (v : Value) (us : List Value) (Q : VK), Inv X pins σ H s → RelV x v → Vals xs us → r x xs H Q →
    wpAny (model X.prog X.w) X.A (call (.builtin id) (v :: us)) (EP X pins σ Q) X.xe s
theorem Vals.one : ∀ {x : V} {us : List Value}, Vals [x] us → ∃ u, us = [u] ∧ RelV x u
  | _, _, .cons r .nil => ⟨_, rfl, r⟩
theorem Vals.zero : ∀ {us : List Value}, Vals [] us → us = []
  | _, .nil => rfl
theorem Vals.dropLast {xs : List V} {us : List Value} (h : Vals xs us) : Vals xs.dropLast us.dropLast := by
  induction h with
  | nil => exact .nil
  | cons r t ih =>
    cases t with
    | nil => exact .nil
    | cons q t' => exact .cons r ih
theorem Vals.eraseIdx : ∀ {xs : List V} {us : List Value} (i : Nat), Vals xs us → Vals (xs.eraseIdx i) (us.eraseIdx i)
  | _, _, _, .nil => .nil
  | _, _, 0, .cons _ t => t
  | _, _, i + 1, .cons r t => .cons r (Vals.eraseIdx i t)
theorem Vals.reverse {xs : List V} {us : List Value} (h : Vals xs us) : Vals xs.reverse us.reverse := by
  induction h with
  | nil => exact .nil
  | cons r t ih => rw [List.reverse_cons, List.reverse_cons]; exact Vals.append ih (.cons r .nil)
theorem erase_last {α : Type} (l : List α) : l.eraseIdx (l.length - 1) = l.dropLast := by
  induction l with
  | nil => rfl
  | cons a r ih =>
    cases r with
    | nil => rfl
    | cons b r =>
      have e : (a :: b :: r).length - 1 = ((b :: r).length - 1) + 1 := by
        have h1 : (a :: b :: r).length = r.length + 2 := rfl
        have h2 : (b :: r).length = r.length + 1 := rfl
        omega
      rw [e, List.eraseIdx_cons_succ, ih]
      all_goals rfl
theorem len_erase {α : Type} : ∀ (l : List α) (i : Nat), (l.eraseIdx i).length ≤ l.length
  | [], _ => Nat.le_refl _
  | _ :: _, 0 => Nat.le_succ _
  | _ :: r, i + 1 => Nat.succ_le_succ (len_erase r i)
section
variable {X : Cx} {pins : List (Addr × Obj)} {σ : St} {H : Hp} {s : Shared} {l b : Addr} {xs ys zs : List V}
theorem Inv.lset {its its' : List Value} {n : Nat} {f : Array Value → Array Value} {t' : Nat} (I : Inv X pins σ H s) (hH : H l = some (.lst xs))
    (e : s.heap.get? l = some { cls := .type "list", data := .seq its.toArray n }) (hf : f its.toArray = its'.toArray) (hv : Vals ys its') (hz : ys.length ≤ sizeLine) :
    Inv X pins σ (upd H l (.lst ys)) { s with heap := s.heap.update l (Obj.mapSeq f), toks := t' } := by
  have q := PySem.IsL.update e f
  rw [hf] at q
  refine I.write (x := l) (e := l) (by rw [hH]; exact trivial) (.inl rfl) (fun b' u hb hu => (Heap.get?_update_other s.heap (Obj.mapSeq f) (Ne.symm hb)).trans hu) ⟨_, q⟩ ?_
  exact ⟨hz, its', _, hv, q⟩
theorem Inv.lnew {its : List Value} {t' : Nat} (I : Inv X pins σ H s) (hv : Vals ys its) (hz : ys.length ≤ sizeLine) :
    Inv X pins σ (upd H s.heap.objs.size (.lst ys)) { s with heap := s.heap.push { cls := .type "list", data := .seq its.toArray }, toks := t' } :=
  I.laid (fun _ _ q => Heap.get?_push_of_some _ q) (Nat.le_refl _) ⟨hz, its, 0, hv, Heap.get?_push_size _ rfl⟩
theorem Inv.fresh (I : Inv X pins σ H s) : H s.heap.objs.size = none := I.hok.fresh (Nat.le_refl _)
theorem Inv.lstM (I : Inv X pins σ H s) (hH : H l = some (.lst xs)) : xs.length ≤ sizeLine ∧ ∃ (its : List Value) (n : Nat), Vals xs its ∧ xs.length = its.length ∧ s.heap.get? l = some { cls := .type "list", data := .seq its.toArray n } := by
  obtain ⟨z, its, n, r, e⟩ := I.hok l _ hH
  exact ⟨z, its, n, r, r.length, e⟩
theorem notLongL {n : Nat} (h : n ≤ sizeLine) : Builtin.List.listTooLong n = false := by
  unfold Builtin.List.listTooLong
  exact decide_eq_false (by omega)
end
section
variable {X : Cx}
noncomputable def rAppend : V → List V → Hp → VK → Prop := fun x vs H Q => ∃ l xs y, x = .ref l ∧ vs = [y] ∧ H l = some (.lst xs) ∧ xs.length < sizeLine ∧ Q .non (upd H l (.lst (xs ++ [y])))
theorem mt_append : MtM X "list.append" rAppend := by
  intro pins s σ H x vs v us Q I rx rv h
  obtain ⟨l, xs, y, rfl, rfl, hH, hz, q⟩ := h
  cases rx
  obtain ⟨u, rfl, ru⟩ := rv.one
  obtain ⟨z, its, n, r, hl, e⟩ := I.lstM hH
  refine call_meets F.slot_list_append ⟨_, e, rfl⟩ F.entry_list_append (F.args_list_append_2 _ _) (PySem.list_append l its.toArray n u (by rw [List.size_toArray]; omega)) ⟨e, ?_⟩
  refine ⟨.non, _, I.lset (its' := its ++ [u]) hH e (by simp) (r.append (.cons ru .nil)) ?_, rfl, q⟩
  rw [List.length_append, List.length_singleton]
  omega
noncomputable def rExtend : V → List V → Hp → VK → Prop := fun x vs H Q => ∃ l b xs zs, x = .ref l ∧ vs = [.ref b] ∧ H l = some (.lst xs) ∧ H b = some (.lst zs) ∧ xs.length + zs.length ≤ sizeLine ∧ Q .non (upd H l (.lst (xs ++ zs)))
theorem mt_extend : MtM X "list.extend" rExtend := by
  intro pins s σ H x vs v us Q I rx rv h
  obtain ⟨l, b, xs, zs, rfl, rfl, hH, hB, hz, q⟩ := h
  cases rx
  obtain ⟨u, rfl, ru⟩ := rv.one
  cases ru
  obtain ⟨z, its, n, r, hl, e⟩ := I.lstM hH
  obtain ⟨z2, its2, n2, r2, hl2, e2⟩ := I.lstM hB
  have hsz : its.toArray.size + its2.toArray.size ≤ sizeLine := by rw [List.size_toArray, List.size_toArray]; omega
  have hlong : ¬ (!its.toArray.isEmpty && Builtin.List.listTooLong (its.toArray.size + its2.toArray.size)) = true := by
    rw [notLongL hsz, Bool.and_false]
    exact Bool.false_ne_true
  refine call_meets F.slot_list_extend ⟨_, e, rfl⟩ F.entry_list_extend (F.args_list_extend_2 _ _)
    (AutoSeq1.list_extend_list_list_0 l its.toArray n b its2.toArray n2 hlong (by rw [List.size_toArray]; omega) (by omega)) ⟨e, e2, ?_⟩
  refine ⟨.non, _, I.lset (its' := its ++ its2) hH e (by simp) (r.append r2) ?_, rfl, q⟩
  rw [List.length_append]
  omega
noncomputable def rPop : V → List V → Hp → VK → Prop := fun x vs H Q => ∃ l xs y, x = .ref l ∧ vs = [] ∧ H l = some (.lst xs) ∧ xs[xs.length - 1]? = some y ∧ Q y (upd H l (.lst xs.dropLast))
theorem mt_pop : MtM X "list.pop" rPop := by
  intro pins s σ H x vs v us Q I rx rv h
  obtain ⟨l, xs, y, rfl, rfl, hH, hy, q⟩ := h
  cases rx
  have hus := rv.zero
  subst hus
  obtain ⟨z, its, n, r, hl, e⟩ := I.lstM hH
  obtain ⟨u, hu, ru⟩ := r.get hy
  have hy' : its.toArray[its.toArray.size - 1]? = some u := by
    show its.toArray[its.length - 1]? = some u
    rw [← Array.getElem?_toList, ← hl]
    exact hu
  refine call_meets F.slot_list_pop ⟨_, e, rfl⟩ F.entry_list_pop (F.args_list_pop_1 _) (MeetsSeq.list_pop_last l its.toArray n u hy' (by rw [List.size_toArray]; omega)) ⟨e, ?_⟩
  refine ⟨y, _, I.lset (its' := its.dropLast) hH e ?_ r.dropLast ?_, ru, q⟩
  · show its.toArray.eraseIdxIfInBounds (its.toArray.size - 1) = its.dropLast.toArray
    rw [List.size_toArray, List.eraseIdxIfInBounds_toArray, erase_last]
  · rw [List.length_dropLast]
    omega
noncomputable def rPopAt : V → List V → Hp → VK → Prop := fun x vs H Q => ∃ l xs i k y, x = .ref l ∧ vs = [.int i] ∧ H l = some (.lst xs) ∧ -(2 ^ 63) ≤ i ∧ i < 2 ^ 63 ∧ seqIndex? i xs.length = some k ∧ xs[k]? = some y ∧ Q y (upd H l (.lst (xs.eraseIdx k)))
theorem mt_popAt : MtM X "list.pop" rPopAt := by
  intro pins s σ H x vs v us Q I rx rv h
  obtain ⟨l, xs, i, k, y, rfl, rfl, hH, h1, h2, hk, hy, q⟩ := h
  cases rx
  obtain ⟨u, rfl, ru⟩ := rv.one
  obtain ⟨t, rfl⟩ := ru
  obtain ⟨z, its, n, r, hl, e⟩ := I.lstM hH
  obtain ⟨w, hw, rw'⟩ := r.get hy
  refine call_meets F.slot_list_pop ⟨_, e, rfl⟩ F.entry_list_pop (F.args_list_pop_2 _ _)
    (MeetsSeq.list_pop_at l its.toArray n i t k w (fitsIndex_both h1 h2) (by rw [List.size_toArray, ← hl]; exact hk) (by rw [← Array.getElem?_toList]; exact hw) (by rw [List.size_toArray]; omega)) ⟨e, ?_⟩
  refine ⟨y, _, I.lset (its' := its.eraseIdx k) hH e ?_ (r.eraseIdx k) ?_, rw', q⟩
  · show its.toArray.eraseIdxIfInBounds k = (its.eraseIdx k).toArray
    rw [List.eraseIdxIfInBounds_toArray]
  · have := len_erase xs k
    omega
noncomputable def rCat : R2 := fun x y H Q => ∃ l b xs zs, x = .ref l ∧ y = .ref b ∧ H l = some (.lst xs) ∧ H b = some (.lst zs) ∧ xs.length + zs.length ≤ sizeLine ∧ ∀ p, H p = none → Q (.ref p) (upd H p (.lst (xs ++ zs)))
theorem op_cat : OpR X (binaryOp .Add) rCat := by
  intro pins s σ H x y v u Q I rx ry h
  obtain ⟨l, b, xs, zs, rfl, rfl, hH, hB, hz, q⟩ := h
  cases rx
  cases ry
  obtain ⟨z, its, n, r, hl, e⟩ := I.lstM hH
  obtain ⟨z2, its2, n2, r2, hl2, e2⟩ := I.lstM hB
  refine PySem.P.add_list e e2 ?_ (by rw [List.size_toArray, List.size_toArray]; omega)
  have ea : its.toArray ++ its2.toArray = (its ++ its2).toArray := by simp
  rw [ea]
  exact ⟨.ref _, _, I.lnew (t' := s.toks) (r.append r2) (by rw [List.length_append]; omega), rfl, q _ I.fresh⟩
end
section
variable {prog : Program} {w : World} {A : Around} {E : Value → Shared → Prop} {s : Shared}
end
section
variable {X : Cx}
end
end L2
namespace Att
open PySem PySem.W PySem.Calls PyProof.Rows
theorem ints_of_wellAll {P : Params} {h : Heap} : ∀ (ns : List Int) (vs : List Value), WellAll P h vs (ns.map WData.int) → IntsAre vs ns := by
  intro ns
  induction ns with
  | nil =>
    intro vs w
    rw [List.map_nil] at w
    cases w
    exact .nil
  | cons n ns ih =>
    intro vs w
    rw [List.map_cons] at w
    cases w with
    | cons a b =>
      cases a
      exact .cons _ _ (ih _ b)
theorem script_of {l : OpenLaw} {n : Nat} (hn : l.most = some n) {P : Params} {h : Heap} {args : List WData} {vals : List Value}
    (hpre : l.row.toRowW.claim.pre args = true) (hwl : WellAll P h vals args) :
    ∃ a vs ns, vals = [Value.ref a] ∧ args = [WData.list (ns.map WData.int)] ∧ h.get? a = some { cls := .type "list", data := .seq vs.toArray } ∧ IntsAre vs ns ∧ ns.length ≤ n := by
  have hsh : WShape.hasAll [] args [.list .int] = true := (pre_splitW hpre).1
  have hc : l.pre.holds [] { args := args } = true := (pre_splitW hpre).2
  obtain ⟨d, r, rfl, h1, h2⟩ := hasAllW_cons hsh
  obtain rfl := hasAllW_nil h2
  obtain ⟨xs, rfl, h3⟩ := hasW_list h1
  obtain ⟨ns, rfl⟩ := items_int h3
  have hlen : ns.length ≤ n := by
    unfold OpenLaw.pre at hc
    have h4 : (WTm.not (.lt (.lit (.int (n : Int))) (.len (.arg 0)))).holds [] { args := [.list (ns.map .int)] } = true := by
      have h4 := (holds_andW hc).1
      rw [hn] at h4
      exact h4
    have h5 := condW_of h4 (w_not (w_lt w_lit (w_len_list (w_arg rfl))))
    rw [List.length_map] at h5
    refine Nat.le_of_not_lt fun q => ?_
    have q' : (n : Int) < ((ns.length : Nat) : Int) := by omega
    first
      | (rw [decide_eq_true q'] at h5; exact absurd h5 (by decide))
      | (simp at h5; omega)
  cases hwl with
  | cons w1 w2 =>
    cases w2
    cases w1 with
    | list ho hall => exact ⟨_, _, ns, rfl, rfl, ho, ints_of_wellAll ns _ hall, hlen⟩
theorem post_true (l : OpenLaw) (args : List WData) : l.row.toRowW.claim.post args (.bool true) args = true :=
  postW_of (r := l.row.toRowW) (X := (true == true))
    (show WShape.has [] (.bool true) .bool = true by first | rfl | decide | simp [WShape.has, WShape.arms, WShape.armsAll])
    (show (WTm.eq .res (.lit (.bool true))).value [] { args := args, res := some (.bool true), after := args } = some (.bool (true == true)) from w_eq_bool (w_res rfl) w_lit) rfl
theorem attach_call {l : OpenLaw} {n : Nat} {q : Program} {loose : List Str} {XP : (Str → Option Value) → Heap → Prop} {YP : World → Heap → Prop} {d : DefRec}
    (hn : l.most = some n) (hdf : d.params.defaults = [])
    (call : ∀ (w : World) (s₀ s₁ : Shared) (mg mb : Str → Option Value) (fa : Addr) (o : Obj) (pm cd doc : Value) (a : Addr) (vs : List Value) (ns : List Int),
      Ground q loose [] XP w s₀ mg mb s₁.heap → YP w s₁.heap →
      s₁.heap.get? fa = some o → o.data = .func (docDef d.name d.params d.body d.scope pm cd doc) → s₁.heap.CodeRec cd d.name → mg d.name = some (.ref fa) →
      s₁.heap.get? a = some { cls := .type "list", data := .seq vs.toArray } → IntsAre vs ns → ns.length ≤ n → s₁.gens = #[] →
      codeAny (model l.prog w) callerA (.call (.ref fa) ⟨[.ref a], []⟩) (fun r s' => r = .ok (.ret (.bool true)) ∧ OldK s₁.heap s'.heap ∧ s'.os = s₁.os ∧ AllBare s'.gens) s₁) :
    WalkO q loose XP YP l.row.toRowW d [] (fun f vs => PySem.call f vs) := by
  intro w s₀ s₁ mg mb G Y fa o pm cd doc dV kV ho hd hcd hD hmg hg args vals as hpre hlay hrd hwl hlo
  obtain rfl : dV = .none := Dflts.none hD hdf
  obtain rfl : kV = .none := Dflts.noKw hD
  obtain ⟨a, vs, ns, rfl, rfl, hobj, hints, hlen⟩ := script_of hn hpre hwl
  refine enter_call (codeAny_mono (call w s₀ s₁ mg mb fa o pm cd doc a vs ns G Y ho (fd_plain hd) hcd hmg hobj hints hlen hg) fun r s' hq => ?_)
  obtain ⟨rfl, h2, h3, h4⟩ := hq
  exact ⟨.inl ⟨.bool true, .bool true, [], rfl, fun _ => rfl, .bool true, post_true l _, fun _ => ⟨List.Pairwise.nil, fun _ hm => (nomatch hm)⟩⟩, h2, h3, h4⟩
section
variable {prog : Program} {w : World} {A : Around} {E : Value → Shared → Prop} {s : Shared} {K : Frag}
end
end Att
namespace L2
open PySem PySem.Spec PyProof.Rows
theorem vals_ints : ∀ {vs : List Value} {ns : List Int}, IntsAre vs ns → Vals (ns.map V.int) vs
  | _, _, .nil => .nil
  | _, _, .cons n t h => .cons ⟨t, rfl⟩ (vals_ints h)
noncomputable def Only (H : Hp) : Prop := ∀ b, H b = none ∨ ∃ o xs, H b = some (.frz o (.lst xs))
theorem law_call {P : Program} {w : World} {K : PySem.W.Frag} {mg mb : Str → Option Value} {CX : CXT} {k : Nat} {fa a : Addr} {fd : FuncData} {x : Str} {sp : Sp} {s₁ : Shared} {vs : List Value} {ns : List Int}
    (KX : K.In s₁.heap) (hns : s₁.heap.Ns mainGlobals mg) (hb : s₁.heap.Ns builtinsNs mb) (hbb : ∀ x : Str, x ≠ "__name__" → mb x = bootBuiltins x) (hlim : s₁.heap.NoLimit) (hg : s₁.gens = #[])
    (ha : s₁.heap.get? a = some { cls := .type "list", data := .seq vs.toArray }) (hi : IntsAre vs ns) (hl : ns.length ≤ sizeLine) (hr : Room k callerA)
    (F : ∀ base : Heap, K.In base → base.Ns mainGlobals mg → FnOk P w K mg base CX k fa fd [x] sp) (hbind : ∀ (s : Shared) (u : Value), BindsTo s fd ⟨[u], []⟩ [(x, u)])
    (hsp : ∀ H : Hp, Only H → SqL K H a (ns.map V.int) → sp [.ref a] H (fun v _ => v = .bl true) fun _ _ _ => False)
    (hCX : ∀ H e s', CX [] H s₁ (fun _ _ _ => False) e s' → False) :
    codeAny (model P w) callerA (.call (.ref fa) ⟨[.ref a], []⟩) (fun r s' => r = .ok (.ret (.bool true)) ∧ OldK s₁.heap s'.heap ∧ s'.os = s₁.os ∧ AllBare s'.gens) s₁ := by
  have rv := vals_ints hi
  have lenV := hi.length
  have core : ∀ H : Hp, Only H → SqL K H a (ns.map V.int) → HOk P w H s₁.heap → (∀ b, H b ≠ none → b = a) → (H a ≠ none → K.lookup a = none) →
      codeAny (model P w) callerA (.call (.ref fa) ⟨[.ref a], []⟩) (fun r s' => r = .ok (.ret (.bool true)) ∧ OldK s₁.heap s'.heap ∧ s'.os = s₁.os ∧ AllBare s'.gens) s₁ := by
    intro H hO hS hok hA hK
    have base_of : ∀ {b : Addr} {o : Obj}, s₁.heap.get? b = some o → H b = none → (hidT s₁.heap H).get? b = some o := fun e n => hidT_get e n
    have noA : ∀ {b : Addr} {o : Obj} {es : Array DictEntry} {ep : Nat}, s₁.heap.get? b = some o → o.data = .dict es ep → H b = none := fun {b o es ep} e d => by
      cases q : H b with
      | none => rfl
      | some u =>
        have e' : b = a := hA b (by rw [q]; simp)
        subst e'
        rw [ha] at e; cases e
        have d' : Data.seq vs.toArray _ = Data.dict es ep := d
        cases d'
    have nsK : ∀ {b : Addr} {m : Str → Option Value}, s₁.heap.Ns b m → (hidT s₁.heap H).Ns b m := fun {b m} ⟨o, es, ep, e, d, r⟩ => ⟨o, es, ep, base_of e (noA e d), d, r⟩
    have hKb : K.In (hidT s₁.heap H) := fun b o e => base_of (KX b o e) (by
      cases q : H b with
      | none => rfl
      | some u =>
        have e' : b = a := hA b (by rw [q]; simp)
        subst e'
        rw [hK (by rw [q]; simp)] at e; cases e)
    have hM : Mod K mg (hidT s₁.heap H) := ⟨hKb, nsK hns, ⟨mb, nsK hb, hbb⟩, let ⟨mc, h1, h2⟩ := hlim; ⟨mc, nsK h1, h2⟩⟩
    have e0 : Env0 P w K mg (hidT s₁.heap H) callerA [] s₁ H := ⟨rfl, hM, fun b o e => of_hidT e, Nat.le_of_eq (hidT_size _ _), trivial, fun b hb => absurd (show b ∈ ([] : List Addr) from hb) (by simp), hok, .of_eq hg⟩
    refine codeAny_mono ((F _ hKb (nsK hns)).run callerA [] s₁ H ⟨[.ref a], []⟩ [.ref a] [.ref a] _ _ hr e0 (hbind s₁ (.ref a)) (.cons rfl .nil) (hsp H hO hS)) fun r s' h => ?_
    cases r with
    | error e => exact (hCX H e s' h).elim
    | ok fl =>
      cases fl with
      | next => exact False.elim h
      | brk => exact False.elim h
      | cont => exact False.elim h
      | ret u =>
        obtain ⟨v, H', os, bare, un, hok', r', q⟩ := h
        have q' : v = .bl true := q
        subst q'
        obtain rfl : u = Value.bool true := r'
        refine ⟨rfl, OldK.of_keep fun b o e => ?_, os, bare⟩
        cases q : H b with
        | none => exact un.keep b o e q (by intro z; exact absurd (show b ∈ ([] : List Addr) from z) (by simp)) (by simp)
        | some u =>
          rcases hO b with z | ⟨ob, xs, z⟩
          · rw [q] at z; cases z
          · have z2 := un.frzs b ob _ z
            obtain ⟨e1, _⟩ := hok b _ z
            obtain ⟨e2, _⟩ := hok' b _ z2
            rw [e] at e1; cases e1
            exact e2
  cases hk : K.lookup a with
  | some o =>
    have e := KX a o hk
    rw [ha] at e
    cases e
    refine core (fun _ => none) (fun _ => .inl rfl) (.inr ⟨_, vs.toArray, _, hk, rfl, rfl, rfl, by rw [List.size_toArray, lenV]; exact hl, by simpa using rv⟩) (fun b u z => by have z' : (none : Option HO) = some u := z; cases z') (fun b z => absurd rfl z) fun z => absurd rfl z
  | none =>
    refine core (fun b => if b = a then some (.frz { cls := .type "list", data := .seq vs.toArray } (.lst (ns.map V.int))) else none) (fun b => ?_) (.inl (.inr ⟨{ cls := .type "list", data := .seq vs.toArray }, if_pos rfl⟩)) (fun b u z => ?_) (fun b z => ?_) fun _ => hk
    · by_cases hb : b = a
      · exact .inr ⟨_, _, if_pos hb⟩
      · exact .inl (if_neg hb)
    · by_cases hb : b = a
      · have z' := (if_pos hb).symm.trans z
        cases z'
        subst hb
        exact ⟨ha, by rw [List.length_map]; exact hl, vs, _, rv, ha⟩
      · have z' := (if_neg hb).symm.trans z
        cases z'
    · by_cases hb : b = a
      · exact hb
      · exact absurd (if_neg hb) z
end L2
namespace L2
open PySem PySem.Spec PyProof.Rows
theorem walk_of {l : PySem.W.OpenLaw} {n k : Nat} {q : Program} {loose : List Str} {XP : (Str → Option Value) → Heap → Prop} {YP : World → Heap → Prop} {d : DefRec} {K : Params → PySem.W.Frag} {CX : World → CXT} {sp : World → Sp} {x : Str}
    (hn : l.most = some n) (hn2 : n ≤ sizeLine) (hdf : d.params.defaults = []) (hr : Room k callerA)
    (hY : ∀ (w : World) (h : Heap), YP w h → (K w.params).In h)
    (F : ∀ (w : World) (mg : Str → Option Value) (fa : Addr) (h : Heap), (K w.params).In h → h.Ns mainGlobals mg → mg d.name = some (.ref fa) →
      ∃ fd : FuncData, (∀ (s : Shared) (u : Value), BindsTo s fd ⟨[u], []⟩ [(x, u)]) ∧
        ∀ base : Heap, (K w.params).In base → base.Ns mainGlobals mg → FnOk l.prog w (K w.params) mg base (CX w) k fa fd [x] (sp w))
    (hsp : ∀ (w : World) (H : Hp) (a : Addr) (ns : List Int), ns.length ≤ n → Only H → SqL (K w.params) H a (ns.map V.int) → sp w [.ref a] H (fun v _ => v = .bl true) fun _ _ _ => False)
    (hCX : ∀ (w : World) (H : Hp) (s : Shared) (e : Value) (s' : Shared), CX w [] H s (fun _ _ _ => False) e s' → False) :
    PySem.W.WalkO q loose XP YP l.row.toRowW d [] (fun f vs => PySem.call f vs) := by
  refine Att.attach_call hn hdf fun w s₀ s₁ mg mb fa o pm cd doc a vs ns G Y ho hd hcd hmg hobj hints hlen hg => ?_
  have KX := hY w _ Y
  obtain ⟨fd, hb, hF⟩ := F w mg fa _ KX G.T.g hmg
  exact law_call KX G.T.g G.T.b G.T.builtins G.T.nolimit hg hobj hints (Nat.le_trans hlen hn2) hr hF hb (fun H hO hS => hsp w H a ns hlen hO hS) fun H e s' => hCX w H s₁ e s'
end L2
namespace L2
open PySem PySem.Spec PyProof.Rows
noncomputable def inClass (s : Stmt) (j : Nat) : Stmt := match s with
  | .ClassDef _ _ _ body _ _ _ _ _ _ _ => body.getD j (.Pass ⟨0, 0, 0, 0⟩)
  | _ => .Pass ⟨0, 0, 0, 0⟩
noncomputable def defArgs (s : Stmt) : Arguments := match s with
  | .FunctionDef _ a _ _ _ _ _ _ _ _ => a
  | _ => { posonlyargs := [], args := [], vararg := none, kwonlyargs := [], kw_defaults := [], kwarg := none, defaults := [] }
noncomputable def defBody (s : Stmt) : List Stmt := match s with
  | .FunctionDef _ _ b _ _ _ _ _ _ _ => b
  | _ => []
noncomputable def defScope (s : Stmt) : Scope := match s with
  | .FunctionDef _ _ _ _ _ _ sc _ _ _ => sc
  | _ => { kind := .function, names := [], isGenerator := false, isCoroutine := false }
noncomputable abbrev CX0 : CXT := fun _ _ _ _ _ _ => False
noncomputable abbrev E0 : XK := fun _ _ _ => False
theorem pass0 {X : Cx} : Passes CX0 X E0 := fun _ _ _ _ _ _ _ h => h.elim
structure Fun (K : PySem.W.Frag) (x qual : Str) (st : Stmt) (f : Addr) (fd : FuncData) : Prop where
  ex : ∃ (oc : Value) (od : Option Addr) (kV doc pm : Value) (an : Option Addr) (cdv ct : Value) (osl : Array (Option Value)),
    fd = PySem.W.fnOf x qual (defArgs st) (defBody st) (defScope st) .none kV doc pm an cdv ct ∧ K.lookup f = some ⟨oc, od, .func fd, osl⟩ ∧ PySem.W.codeIn K cdv qual = true
  kp : PySem.W.keepIn K (.ref f) = true
section
variable {P : Program} {w : World} {K : PySem.W.Frag} {mg : Str → Option Value} {base : Heap}
theorem Fun.ok {x qual : Str} {st : Stmt} {f : Addr} {fd : FuncData} {N ps : List Str} {k : Nat} {sp : Sp} (F : Fun K x qual st f fd) (S : FnScope N ps (defScope st)) (len : ∀ vs H Q E, sp vs H Q E → vs.length = ps.length)
    (hbody : ∀ (cdv : Value) (A : Around) (outer : List Env) (s : Shared) (H : Hp) (vs : List V) (Q : VK) (E : XK), Room k (A.deeper (envOfC qual (defScope st) s.heap.objs.size f cdv)) → sp vs H Q E →
      ∃ t, PSs (cxOf CX0 P w K mg base N qual (defScope st) f cdv A outer s H E).nox (defBody st) t ∧ t { nx := fun _ H' => Q .non H', rt := Q } (start N vs) H) : FnOk P w K mg base CX0 (k + 1) f fd ps sp := by
  obtain ⟨oc, od, kV, doc, pm, an, cdv, ct, osl, rfl, lk, hcd⟩ := F.ex
  refine fn_of lk hcd S len fun A outer s H vs Q E hr hsp => ?_
  obtain ⟨t, h, q⟩ := hbody cdv A outer s H vs Q E hr hsp
  exact ⟨t, h.nox, q⟩
theorem Fun.binds {x qual : Str} {st : Stmt} {f : Addr} {fd : FuncData} {ps : List Str} (F : Fun K x qual st f fd)
    (h : ∀ (kV doc pm : Value) (an : Option Addr) (cdv ct : Value) (us : List Value), us.length = ps.length → bindArgs (PySem.W.fnOf x qual (defArgs st) (defBody st) (defScope st) .none kV doc pm an cdv ct) ⟨us, []⟩ = pure (ps.zip us)) : Binds K fd ps [] := by
  obtain ⟨oc, od, kV, doc, pm, an, cdv, ct, osl, rfl, lk, hcd⟩ := F.ex
  exact .all (h kV doc pm an cdv ct)
theorem fun_mk {x qual : Str} {st : Stmt} {f : Addr} {oc : Value} {od an : Option Addr} {osl : Array (Option Value)} {kV doc pm cdv ct : Value} (l : K.lookup f = some ⟨oc, od, .func (PySem.W.fnOf x qual (defArgs st) (defBody st) (defScope st) .none kV doc pm an cdv ct), osl⟩)
    (c : PySem.W.codeIn K cdv qual = true) (k : PySem.W.keepIn K (.ref f) = true) : Fun K x qual st f (PySem.W.fnOf x qual (defArgs st) (defBody st) (defScope st) .none kV doc pm an cdv ct) := ⟨⟨oc, od, kV, doc, pm, an, cdv, ct, osl, rfl, l, c⟩, k⟩
end
section
variable {X : Cx}
theorem pv (i : Nat) {x : Str} {pos : Pos} (hN : X.N[i]? = some x := by rfl) (hv : Vis X.env.scope x := by first | exact Or.inl rfl | exact Or.inr (Or.inl rfl) | exact Or.inr (Or.inr rfl)) (hd : (x == ("__debug__" : Str)) = false := by decide)
    (hcd : (x == ("__classdict__" : Str)) = false := by decide) : PE X (.Name x pos) (tVar i) := pe_var hN hv hd hcd
end
noncomputable def Same (H H' : Hp) : Prop := ∀ b o, H b = some o → H' b = some o
theorem Same.trans {H H1 H2 : Hp} (a : Same H H1) (b : Same H1 H2) : Same H H2 := fun c o h => b c o (a c o h)
theorem Same.free {H H' : Hp} (e : Same H H') {l : Addr} (h : H' l = Option.none) : H l = Option.none := by
  cases q : H l with
  | none => rfl
  | some o =>
    rw [e l o q] at h
    cases h
theorem Same.seq {K : PySem.W.Frag} {H H' : Hp} {a : Addr} {xs : List V} (e : Same H H') (h : SqL K H a xs) : SqL K H' a xs := by
  rcases h with (h | ⟨o, h⟩) | h
  · exact .inl (.inl (e _ _ h))
  · exact .inl (.inr ⟨o, e _ _ h⟩)
  · exact .inr h
end L2
namespace L2
open PySem PySem.Spec PyProof.Rows
section
variable {κ : Type} [DecidableEq κ]
noncomputable def valV (kvs : List (κ × V)) (k : κ) : Option V := (kvs.find? fun kv => decide (kv.1 = k)).map (·.2)
noncomputable def putK (kvs : List (κ × V)) (k : κ) (v : V) : List (κ × V) :=
  if (kvs.any fun kv => decide (kv.1 = k)) = true then kvs.map (fun kv => if kv.1 = k then (kv.1, v) else kv) else kvs ++ [(k, v)]
noncomputable def dropK (kvs : List (κ × V)) (k : κ) : List (κ × V) := kvs.filter fun kv => decide (kv.1 ≠ k)
theorem valV_pos {p : κ × V} {r : List (κ × V)} {k : κ} (e : p.1 = k) : valV (p :: r) k = some p.2 := by simp [valV, List.find?_cons, e]
theorem valV_neg {p : κ × V} {r : List (κ × V)} {k : κ} (e : ¬ p.1 = k) : valV (p :: r) k = valV r k := by simp [valV, List.find?_cons, e]
theorem valV_any (k : κ) : ∀ kvs : List (κ × V), (kvs.any fun kv => decide (kv.1 = k)) = (valV kvs k).isSome
  | [] => rfl
  | p :: r => by
    rw [List.any_cons]
    by_cases e : p.1 = k
    · simp only [valV_pos e, decide_eq_true e, Bool.true_or, Option.isSome_some]
    · rw [valV_neg e, decide_eq_false e, Bool.false_or]; exact valV_any k r
theorem length_putK (kvs : List (κ × V)) (k : κ) (v : V) : (putK kvs k v).length ≤ kvs.length + 1 := by
  unfold putK
  split
  · rw [List.length_map]; omega
  · rw [List.length_append, List.length_cons, List.length_nil]; omega
theorem RelO.isSome_eq {o : Option V} {u : Option Value} (r : RelO o u) : o.isSome = u.isSome := by
  cases o with
  | none => cases u with
    | none => rfl
    | some _ => exact (show False from r).elim
  | some _ => cases u with
    | none => exact (show False from r).elim
    | some _ => rfl
theorem RelO.getD {o : Option V} {u : Option Value} {d : V} {d' : Value} (r : RelO o u) (rd : RelV d d') : RelV (o.getD d) (u.getD d') := by
  cases o with
  | none => cases u with
    | none => exact rd
    | some _ => exact (show False from r).elim
  | some _ => cases u with
    | none => exact (show False from r).elim
    | some _ => exact r
theorem KV.val {kvs : List (κ × V)} {vs : List (κ × Value)} (r : KV kvs vs) (k : κ) : RelO (valV kvs k) (valueAt vs k) := by
  unfold KV at r
  induction r with
  | nil => exact True.intro
  | @cons p q ps qs h t ih =>
    obtain ⟨h1, h2⟩ := h
    by_cases e : p.1 = k
    · have e' : q.1 = k := h1.symm.trans e
      have b : valueAt (q :: qs) k = some q.2 := by simp [valueAt, List.find?_cons, e']
      rw [valV_pos e, b]; exact h2
    · have e' : ¬ q.1 = k := fun z => e (h1.trans z)
      have b : valueAt (q :: qs) k = valueAt qs k := by simp [valueAt, List.find?_cons, e']
      rw [valV_neg e, b]; exact ih
theorem KV.any {kvs : List (κ × V)} {vs : List (κ × Value)} (r : KV kvs vs) (k : κ) : (kvs.any fun kv => decide (kv.1 = k)) = vs.any fun kv => decide (kv.1 = k) := by
  unfold KV at r
  induction r with
  | nil => rfl
  | cons h t ih => rw [List.any_cons, List.any_cons, ih, h.1]
theorem KV.repl {kvs : List (κ × V)} {vs : List (κ × Value)} (r : KV kvs vs) (k : κ) {y : V} {u : Value} (ry : RelV y u) :
    KV (kvs.map fun kv => if kv.1 = k then (kv.1, y) else kv) (vs.map fun kv => if kv.1 = k then (kv.1, u) else kv) := by
  unfold KV at r ⊢
  induction r with
  | nil => exact .nil
  | @cons p q ps qs h t ih =>
    rw [List.map_cons, List.map_cons]
    refine .cons ?_ ih
    obtain ⟨h1, h2⟩ := h
    by_cases e : p.1 = k
    · rw [if_pos e, if_pos (h1.symm.trans e)]; exact ⟨h1, ry⟩
    · rw [if_neg e, if_neg (fun z => e (h1.trans z))]; exact ⟨h1, h2⟩
theorem KV.put {kvs : List (κ × V)} {vs : List (κ × Value)} (r : KV kvs vs) (k : κ) {y : V} {u : Value} (ry : RelV y u) : KV (putK kvs k y) (stored vs k u) := by
  unfold putK stored
  rw [r.any k]
  by_cases e : (vs.any fun kv => decide (kv.1 = k)) = true
  · rw [if_pos e, if_pos e]; exact r.repl k ry
  · rw [if_neg e, if_neg e]; exact Paired.snoc r ⟨rfl, ry⟩
theorem KV.drop {kvs : List (κ × V)} {vs : List (κ × Value)} (r : KV kvs vs) (k : κ) : KV (dropK kvs k) (without vs k) := by
  unfold KV at r ⊢
  unfold dropK without
  induction r with
  | nil => exact .nil
  | @cons p q ps qs h t ih =>
    obtain ⟨h1, h2⟩ := h
    rw [List.filter_cons, List.filter_cons]
    by_cases e : p.1 = k
    · have a : ¬ decide (p.1 ≠ k) = true := by simp [e]
      have b : ¬ decide (q.1 ≠ k) = true := by simp [h1.symm.trans e]
      rw [if_neg a, if_neg b]; exact ih
    · have e' : ¬ q.1 = k := fun z => e (h1.trans z)
      have a : decide (p.1 ≠ k) = true := by simp [e]
      have b : decide (q.1 ≠ k) = true := by simp [e']
      rw [if_pos a, if_pos b]; exact .cons ⟨h1, h2⟩ ih
theorem KV.keys {kvs : List (κ × V)} {vs : List (κ × Value)} (r : KV kvs vs) : kvs.map (·.1) = vs.map (·.1) := by
  unfold KV at r
  induction r with
  | nil => rfl
  | cons h t ih => rw [List.map_cons, List.map_cons, ih, h.1]
theorem KV.length {kvs : List (κ × V)} {vs : List (κ × Value)} (r : KV kvs vs) : kvs.length = vs.length := Paired.length r
end
theorem kV_is {P : Program} {w : World} {k : Key} {u : Value} (r : RelV (kV k) u) : (mixKind P w).is k u = true := by
  cases k with
  | inl i => obtain ⟨t, e⟩ := (show ∃ t, u = Value.int i t from r); subst e; exact mixKind_int P w i t
  | inr x => obtain ⟨t, e⟩ := (show ∃ t, u = Value.str x t from r); subst e; exact mixKind_str P w x t
theorem items_are {P : Program} {w : World} : ∀ {ks : List Key} {us : List Value}, Vals (ks.map kV) us → ItemsAre (mixKind P w) ks us
  | [], _, r => by rw [List.map_nil] at r; cases r; exact .nil
  | k :: ks, _, r => by
    rw [List.map_cons] at r
    cases r with
    | cons h t => exact .cons (kV_is h) (items_are t)
noncomputable abbrev KT (H : Hp) : List (List Key × V) → List (List Key × Addr × Value) → Prop := Paired fun p q => p.1 = q.1 ∧ H q.2.1 = some (.tup (p.1.map kV)) ∧ RelV p.2 q.2.2
theorem KT.val {H : Hp} {kvs : List (List Key × V)} {xs : List (List Key × Addr × Value)} (r : KT H kvs xs) (k : List Key) : RelO (valV kvs k) ((atKey xs k).map (·.2)) := by
  induction r with
  | nil => exact True.intro
  | @cons p q ps qs h t ih =>
    obtain ⟨h1, _, h2⟩ := h
    by_cases e : p.1 = k
    · have e' : q.1 = k := h1.symm.trans e
      have b : atKey (q :: qs) k = some q.2 := by simp [atKey, List.find?_cons, e']
      rw [valV_pos e, b]; exact h2
    · have e' : ¬ q.1 = k := fun z => e (h1.trans z)
      have b : atKey (q :: qs) k = atKey qs k := by simp [atKey, List.find?_cons, e']
      rw [valV_neg e, b]; exact ih
theorem KT.repl {H : Hp} {kvs : List (List Key × V)} {xs : List (List Key × Addr × Value)} (r : KT H kvs xs) (k : List Key) {y : V} {u : Value} (ry : RelV y u) :
    KT H (kvs.map fun kv => if kv.1 = k then (kv.1, y) else kv) (xs.map (putAt k u)) := by
  induction r with
  | nil => exact .nil
  | @cons p q ps qs h t ih =>
    rw [List.map_cons, List.map_cons]
    refine .cons ?_ ih
    obtain ⟨h1, h2, h3⟩ := h
    unfold putAt
    by_cases e : p.1 = k
    · rw [if_pos e, if_pos (h1.symm.trans e)]; exact ⟨h1, h2, ry⟩
    · rw [if_neg e, if_neg (fun z => e (h1.trans z))]; exact ⟨h1, h2, h3⟩
theorem KT.put {H : Hp} {kvs : List (List Key × V)} {xs : List (List Key × Addr × Value)} (r : KT H kvs xs) (k : List Key) {b : Addr} {y : V} {u : Value} (hb : H b = some (.tup (k.map kV))) (ry : RelV y u) :
    KT H (putK kvs k y) (storedH xs k b u) := by
  have e : (kvs.any fun kv => decide (kv.1 = k)) = (atKey xs k).isSome := by
    rw [valV_any, (r.val k).isSome_eq, Option.isSome_map]
  unfold putK storedH
  rw [e]
  by_cases q : (atKey xs k).isSome = true
  · rw [if_pos q, if_pos q]; exact r.repl k ry
  · rw [if_neg q, if_neg q]; exact Paired.snoc r ⟨rfl, hb, ry⟩
theorem KT.keeps {H H' : Hp} {kvs : List (List Key × V)} {xs : List (List Key × Addr × Value)} (r : KT H kvs xs) (ht : ∀ b ys, H b = some (.tup ys) → H' b = some (.tup ys)) : KT H' kvs xs :=
  Paired.mapP r fun _ _ z => ⟨z.1, ht _ _ z.2.1, z.2.2⟩
section
variable {P : Program} {w : World} {H : Hp} {h : Heap} {a : Addr}
theorem rd_of {u : HO} (ok : HOk P w H h) (e : Rd H a u) : ObjOk P w H h a u := e.ok ok
theorem dk_rd {kvs : List (Key × V)} (ok : HOk P w H h) (e : Rd H a (.dK kvs)) : kvs.length ≤ sizeLine ∧ (a == sysModules) = false ∧ ∃ vs, KV kvs vs ∧ h.DictOf (mixKind P w) a vs :=
  show ObjOk P w H h a (.dK kvs) from rd_of ok e
theorem dk_of {kvs : List (Key × V)} (ok : HOk P w H h) (e : H a = some (.dK kvs)) : kvs.length ≤ sizeLine ∧ (a == sysModules) = false ∧ ∃ vs, KV kvs vs ∧ h.DictOf (mixKind P w) a vs := dk_rd ok (.inl e)
theorem key_of {ks : List Key} (ok : HOk P w H h) (e : H a = some (.tup (ks.map kV))) : (tupleKind (mixKind P w)).is h ks a := by
  obtain ⟨_, its, r, o, h1, h2, n, h3⟩ := (show ObjOk P w H h a (.tup (ks.map kV)) from ok a _ e)
  exact ⟨o, its.toArray, n, h1, h2, h3, by simpa using items_are r⟩
theorem dt_rd {kvs : List (List Key × V)} (ok : HOk P w H h) (e : Rd H a (.dT kvs)) : kvs.length ≤ sizeLine ∧ (a == sysModules) = false ∧
    ∃ xs, KT H kvs xs ∧ h.DictOfH (tupleKind (mixKind P w)) a xs := by
  obtain ⟨z, y, xs, r, o, es, ep, h1, h2, h3, h4, h5⟩ := (show ObjOk P w H h a (.dT kvs) from rd_of ok e)
  refine ⟨z, y, xs, r, o, es, ep, h1, h2, h3, h4, fun x hx => ?_, h5⟩
  have all : ∀ {l : List (List Key × V)} {m : List (List Key × Addr × Value)}, KT H l m → ∀ x ∈ m, (tupleKind (mixKind P w)).is h x.1 x.2.1 := by
    intro l m q
    induction q with
    | nil => intro x hx; exact nomatch hx
    | @cons p q ps qs hq t ih =>
      intro x hx
      rcases List.mem_cons.mp hx with e | hx
      · subst e
        exact key_of ok (by rw [← hq.1]; exact hq.2.1)
      · exact ih x hx
  exact all r x hx
theorem dt_of {kvs : List (List Key × V)} (ok : HOk P w H h) (e : H a = some (.dT kvs)) : kvs.length ≤ sizeLine ∧ (a == sysModules) = false ∧
    ∃ xs, KT H kvs xs ∧ h.DictOfH (tupleKind (mixKind P w)) a xs := dt_rd ok (.inl e)
end
noncomputable def DGet (H : Hp) (a : Addr) (y : V) (r : Option V) : Prop :=
  (∃ kvs k, Rd H a (.dK kvs) ∧ y = kV k ∧ r = valV kvs k) ∨ ∃ kvs k b, Rd H a (.dT kvs) ∧ y = .ref b ∧ H b = some (.tup (k.map kV)) ∧ r = valV kvs k
noncomputable def DPut (H : Hp) (a : Addr) (y v : V) (H' : Hp) : Prop :=
  (∃ kvs k, H a = some (.dK kvs) ∧ y = kV k ∧ kvs.length < sizeLine ∧ H' = upd H a (.dK (putK kvs k v))) ∨
  ∃ kvs k b, H a = some (.dT kvs) ∧ y = .ref b ∧ H b = some (.tup (k.map kV)) ∧ kvs.length < sizeLine ∧ H' = upd H a (.dT (putK kvs k v))
theorem DGet.k {H : Hp} {a : Addr} {kvs : List (Key × V)} {k : Key} (e : H a = some (.dK kvs)) : DGet H a (kV k) (valV kvs k) := .inl ⟨kvs, k, .inl e, rfl, rfl⟩
theorem DGet.t {H : Hp} {a b : Addr} {kvs : List (List Key × V)} {k : List Key} (e : H a = some (.dT kvs)) (eb : H b = some (.tup (k.map kV))) : DGet H a (.ref b) (valV kvs k) := .inr ⟨kvs, k, b, .inl e, rfl, eb, rfl⟩
theorem DPut.k {H : Hp} {a : Addr} {kvs : List (Key × V)} {k : Key} {v : V} (e : H a = some (.dK kvs)) (hl : kvs.length < sizeLine) : DPut H a (kV k) v (upd H a (.dK (putK kvs k v))) := .inl ⟨kvs, k, e, rfl, hl, rfl⟩
theorem DPut.t {H : Hp} {a b : Addr} {kvs : List (List Key × V)} {k : List Key} {v : V} (e : H a = some (.dT kvs)) (eb : H b = some (.tup (k.map kV))) (hl : kvs.length < sizeLine) :
    DPut H a (.ref b) v (upd H a (.dT (putK kvs k v))) := .inr ⟨kvs, k, b, e, rfl, eb, hl, rfl⟩
section
variable {X : Cx} {pins : List (Addr × Obj)} {σ : St} {H : Hp} {s : Shared} {a : Addr} {y v : V} {u r : Value} {o : Option V} {A : Around} {E : Value → Shared → Prop}
theorem Inv.big (I : Inv X pins σ H s) : sysModules < s.heap.objs.size := by
  have h : mainGlobals < s.heap.objs.size := (I.mod.glob.keeps I.bk).lt
  exact Nat.lt_trans (by decide) h
theorem d_notIn {Q : Value → Shared → Prop} (hu : A.units + 1 < cLine) (I : Inv X pins σ H s) (g : DGet H a y o) (ry : RelV y u) (h : ∀ s', Inv X pins σ H s' → Q (.bool (!o.isSome)) s') :
    wpAny (model X.prog X.w) A (compareOp .NotIn u (.ref a)) Q E s := by
  rcases g with ⟨kvs, k, e, ey, l⟩ | ⟨kvs, k, b, e, ey, eb, l⟩
  · subst ey
    obtain ⟨z, hd, vs, rel, dd⟩ := dk_rd I.hok e
    refine wpAny_notIn_of (kV_is ry) hd dd.mapOf ?_
    rw [← (rel.val k).isSome_eq, ← l]
    exact h _ (I.tok _)
  · subst ey
    cases (show u = Value.ref b from ry)
    obtain ⟨z, hd, xs, rel, dd⟩ := dt_rd I.hok e
    refine wpAny_notIn_heap (tupleKind_room_in1 hu) (key_of I.hok eb) hd dd ?_
    have q := (rel.val k).isSome_eq
    rw [Option.isSome_map] at q
    rw [← q, ← l]
    exact h _ (I.tok _)
theorem d_write {h' : Heap} {t' : Nat} {ob : HO} (I : Inv X pins σ H s) (mu : Mut (H a)) (hs : Heap.SameBut a s.heap h') (he : ∃ q, h'.get? a = some q) (new : ObjOk X.prog X.w (upd H a ob) h' a ob) :
    Inv X pins σ (upd H a ob) { s with heap := h', toks := t' } :=
  I.write (x := a) (e := a) mu (.inl rfl) (fun b q hb z => (hs.2 b hb).trans z) he new
theorem dk_new {P : Program} {w : World} {H' : Hp} {h' : Heap} {kvs : List (Key × V)} {vs : List (Key × Value)} (z : kvs.length ≤ sizeLine) (hd : (a == sysModules) = false) (rel : KV kvs vs) (dd : h'.DictOf (mixKind P w) a vs) :
    ObjOk P w H' h' a (.dK kvs) := ⟨z, hd, vs, rel, dd⟩
theorem d_setItem {H' : Hp} {Q : Unit → Shared → Prop} (hu : A.units + 1 < cLine) (I : Inv X pins σ H s) (g : DPut H a y v H') (ry : RelV y u) (rv : RelV v r) (h : ∀ s', Inv X pins σ H' s' → Q () s') :
    wpAny (model X.prog X.w) A (setItem (.ref a) u r) Q E s := by
  rcases g with ⟨kvs, k, e, ey, l, eH⟩ | ⟨kvs, k, b, e, ey, eb, l, eH⟩
  · subst ey eH
    obtain ⟨z, hd, vs, rel, dd⟩ := dk_of I.hok e
    have hz : vs.length ≤ sizeLine := by rw [← rel.length]; exact z
    have hl : (putK kvs k v).length ≤ sizeLine := by have := length_putK kvs k v; omega
    refine wpAny_setItem_pairs (hsz := hz) (kV_is ry) dd fun h' dd' hs => h _ ?_
    have he : ∃ q, h'.get? a = some q := let ⟨q, _, _, hq, _⟩ := dd'; ⟨q, hq⟩
    exact d_write I (by rw [e]; exact True.intro) hs he (dk_new hl hd (rel.put k rv) dd')
  · subst ey eH
    cases (show u = Value.ref b from ry)
    obtain ⟨z, hd, xs, rel, dd⟩ := dt_of I.hok e
    have hz : xs.length ≤ sizeLine := by rw [← Paired.length rel]; exact z
    have hl : (putK kvs k v).length ≤ sizeLine := by have := length_putK kvs k v; omega
    refine wpAny_setItem_heap (hsz := hz) (tupleKind_room_in1 hu) (key_of I.hok eb) dd fun h' dd' hs => h _ ?_
    obtain ⟨q, es, ep, hq, h2, h3, h4, _, h5⟩ := dd'
    refine d_write I (by rw [e]; exact True.intro) hs ⟨q, hq⟩ ⟨hl, hd, _, (rel.put k eb rv).keeps fun c ys ec => ?_, q, es, ep, hq, h2, h3, h4, h5⟩
    rw [upd_ne (ne_of ec e (fun z => nomatch z))]
    exact ec
end
section
variable {X : Cx} {pins : List (Addr × Obj)} {σ : St} {H : Hp} {s : Shared} {a : Addr} {kvs : List (Key × V)} {k : Key} {u : Value} {A : Around} {E : Value → Shared → Prop}
end
noncomputable def tDNotIn (ty td : TE) : TE := fun σ H Q => ty σ H fun y H1 => td σ H1 fun x H2 => ∃ a o, x = .ref a ∧ DGet H2 a y o ∧ Q (.bl (!o.isSome)) H2
noncomputable def sDPut (td ty tv : TE) : TS := fun D σ H => tv σ H fun v H1 => td σ H1 fun x H2 => ty σ H2 fun y H3 => ∃ a H4, x = .ref a ∧ DPut H3 a y v H4 ∧ D.nx σ H4
section
variable {X : Cx} {o i e value : Expr} {pos pos' tpos : Pos} {td ty tv : TE}
theorem pc_dnotin (hu : X.A.units + 1 < cLine) (hi : PE X i ty) (ho : PE X o td) : PC X .NotIn i o (tDNotIn ty td) := by
  intro pins s σ H Q I h
  refine thn (hi pins s σ H _ I h) fun iv s1 ⟨y, H1, I1, ry, q1⟩ => thn (ho pins s1 σ H1 _ I1 q1) fun u s2 ⟨x, H2, I2, rx, a, ov, ex, g, q2⟩ => ?_
  subst ex
  obtain rfl : u = Value.ref a := rx
  exact d_notIn hu I2 g ry fun s3 I3 => ⟨.bl (!ov.isSome), H2, I3, rfl, q2⟩
theorem ps_dput (hu : X.A.units + 1 < cLine) (ho : PE X o td) (hi : PE X i ty) (hv : PE X value tv) (hs : swapsWith value (some (.Subscript o i pos')) pos.line X.env = pure false) :
    PS X (.Assign [.Subscript o i pos'] value pos) (sDPut td ty tv) := by
  intro pins s σ H D I h
  refine wpAny_Assign_Subscript (thn (hv pins s σ H _ I h) fun r s1 ⟨v, H1, I1, rv, q1⟩ => thn (ho pins s1 σ H1 _ I1 q1) fun u s2 ⟨x, H2, I2, rx, q2⟩ => thn (hi pins s2 σ H2 _ I2 q2) fun iv s3 ⟨y, H3, I3, ry, a, H4, ex, g, q3⟩ => ?_) hs
  subst ex
  obtain rfl : u = Value.ref a := rx
  exact d_setItem hu I3 g ry rv fun s4 I4 => ⟨σ, H4, I4, q3⟩
end
theorem dk_empty {P : Program} {w : World} {H : Hp} (h : Heap) (hb : sysModules < h.objs.size) : ObjOk P w H (h.push { cls := .type "dict", data := .dict #[] }) h.objs.size (.dK []) :=
  ⟨Nat.zero_le _, beq_eq_false_iff_ne.mpr (Ne.symm (Nat.ne_of_lt hb)), [], .nil, Heap.DictOf.new h⟩
section
variable {X : Cx} {pos : Pos}
end
noncomputable def tPairs : List (TE × TE) → St → Hp → (List (V × V) → Hp → Prop) → Prop
  | [], _, H, Q => Q [] H
  | (tk, tv) :: r, σ, H, Q => tk σ H fun x H1 => tv σ H1 fun y H2 => tPairs r σ H2 fun ps H3 => Q ((x, y) :: ps) H3
noncomputable abbrev VV : List (V × V) → List (Value × Value) → Prop := Paired fun p q => RelV p.1 q.1 ∧ RelV p.2 q.2
noncomputable def PPs (X : Cx) (pos : Pos) (keys : List (Option Expr)) (values : List Expr) (trs : List (TE × TE)) : Prop :=
  ∀ (pins : List (Addr × Obj)) (s : Shared) (σ : St) (H : Hp) (Q : List (V × V) → Hp → Prop), Inv X pins σ H s → tPairs trs σ H Q →
    wpAny (model X.prog X.w) X.A (evalPairs (pairTrees keys values X.env pos)) (fun vs s' => ∃ ps H', Inv X pins σ H' s' ∧ VV ps vs ∧ Q ps H') X.xe s
theorem pps_nil {X : Cx} {pos : Pos} : PPs X pos [] [] [] := fun pins s σ H Q I h => pairTrees_nil_walk ⟨[], H, I, .nil, h⟩
theorem pps_cons {X : Cx} {pos : Pos} {k v : Expr} {ks : List (Option Expr)} {vs : List Expr} {tk tv : TE} {trs : List (TE × TE)} (hk : PE X k tk) (hv : PE X v tv) (hr : PPs X pos ks vs trs) :
    PPs X pos (some k :: ks) (v :: vs) ((tk, tv) :: trs) := fun pins s σ H Q I h =>
  pairTrees_cons_walk (thn (hk pins s σ H _ I h) fun u s1 ⟨x, H1, I1, rx, q1⟩ => thn (hv pins s1 σ H1 _ I1 q1) fun w2 s2 ⟨y, H2, I2, ry, q2⟩ =>
    thn (hr pins s2 σ H2 _ I2 q2) fun ws s3 ⟨ps, H3, I3, rel, q3⟩ => ⟨(x, y) :: ps, H3, I3, .cons ⟨rx, ry⟩ rel, q3⟩)
noncomputable def mergeK (kvs more : List (Key × V)) : List (Key × V) := more.foldl (fun acc kv => putK acc kv.1 kv.2) kvs
theorem KV.merge : ∀ {more : List (Key × V)} {rs : List (Key × Value)} {kvs : List (Key × V)} {vs : List (Key × Value)}, KV more rs → KV kvs vs → KV (mergeK kvs more) (merged vs rs) := by
  intro more rs kvs vs r
  unfold KV at r
  induction r generalizing kvs vs with
  | nil => intro q; exact q
  | @cons p q ps qs h t ih =>
    intro r0
    have e : KV (putK kvs p.1 p.2) (stored vs q.1 q.2) := by
      have := r0.put p.1 h.2
      rw [← h.1]; exact this
    exact ih e
theorem length_mergeK : ∀ (more kvs : List (Key × V)), (mergeK kvs more).length ≤ kvs.length + more.length
  | [], kvs => by show kvs.length ≤ kvs.length + 0; omega
  | p :: r, kvs => by
    have h1 := length_mergeK r (putK kvs p.1 p.2)
    have h2 := length_putK kvs p.1 p.2
    show (mergeK (putK kvs p.1 p.2) r).length ≤ _
    rw [List.length_cons]; omega
theorem carries_of {P : Program} {w : World} : ∀ {kvs : List (Key × V)} {ws : List (Value × Value)}, VV (kvs.map fun kv => (kV kv.1, kv.2)) ws → ∃ rs, Carries (mixKind P w) ws rs ∧ KV kvs rs
  | [], _, r => by rw [List.map_nil] at r; cases r; exact ⟨[], True.intro, .nil⟩
  | p :: kvs, _, r => by
    rw [List.map_cons] at r
    cases r with
    | @cons a b as bs h t =>
      obtain ⟨rs, c, q⟩ := carries_of (P := P) (w := w) t
      obtain ⟨b1, b2⟩ := b
      exact ⟨(p.1, b2) :: rs, ⟨kV_is h.1, rfl, c⟩, .cons ⟨rfl, h.2⟩ q⟩
noncomputable def tDisp (trs : List (TE × TE)) : TE := fun σ H Q => ∀ p, H p = none → tPairs trs σ (upd H p (.dK [])) fun ps H2 => H2 p = some (.dK []) ∧ ∃ kvs : List (Key × V), ps = kvs.map (fun kv => (kV kv.1, kv.2)) ∧ kvs.length ≤ 15 ∧ Q (.ref p) (upd H2 p (.dK (mergeK [] kvs)))
theorem pe_disp {X : Cx} {pos : Pos} {keys : List (Option Expr)} {values : List Expr} {trs : List (TE × TE)} (h : PPs X pos keys values trs) (hall : keys.all (·.isSome) = true) (hl : keys.length = values.length) (h0 : keys ≠ [])
    (h15 : keys.length ≤ 15) : PE X (.Dict keys values pos) (tDisp trs) := by
  intro pins s σ H Q I q
  have hn := I.hok.fresh (Nat.le_refl s.heap.objs.size)
  have I1 := I.laid (a := s.heap.objs.size) (o := .dK []) (h' := s.heap.push { cls := .type "dict", data := .dict #[] }) (t' := s.toks) (fun _ _ q => Heap.get?_push_of_some _ q) (Nat.le_refl _) (dk_empty s.heap I.big)
  refine wpAny_Dict_walk (knd := mixKind X.prog X.w) hall hl h0 h15 (thn (h pins _ σ _ _ I1 (q _ hn)) fun ws s2 ⟨ps, H2, I2, rel, e, kvs, ep, lk, q2⟩ => ?_)
  subst ep
  obtain ⟨rs, c, rk⟩ := carries_of (P := X.prog) (w := X.w) rel
  obtain ⟨z, hd, vs0, r0, dd⟩ := dk_of I2.hok e
  cases r0
  refine ⟨rs, c, dd, fun h' dd' hs => ⟨.ref s.heap.objs.size, _, ?_, rfl, q2⟩⟩
  have hz : (mergeK [] kvs).length ≤ sizeLine := by
    have h1 := length_mergeK kvs []
    rw [List.length_nil] at h1
    rw [sizeLine_eq]; omega
  have he : ∃ q, h'.get? s.heap.objs.size = some q := let ⟨q, _, _, hq, _⟩ := dd'; ⟨q, hq⟩
  exact d_write I2 (by rw [e]; exact True.intro) hs he (dk_new hz hd (rk.merge .nil) dd')
section
variable {X : Cx} {pins : List (Addr × Obj)} {σ : St} {H : Hp} {s : Shared} {a : Addr} {y d : V} {u r : Value} {o : Option V} {A : Around} {E : Value → Shared → Prop}
end
section
variable {X : Cx} {o e f : Expr} {apos cpos : Pos} {td ty tx : TE}
end
section
variable {X : Cx} {pins : List (Addr × Obj)} {σ : St} {H : Hp} {s : Shared} {a : Addr} {kvs : List (Key × V)} {A : Around} {E : Value → Shared → Prop}
end
section
variable {X : Cx} {pins : List (Addr × Obj)} {σ : St} {H : Hp} {s : Shared} {a : Addr} {y : V} {u : Value} {A : Around} {E : Value → Shared → Prop}
end
end L2
set_option maxRecDepth 100000
namespace Ws
noncomputable section
inductive PV where
  | non | bl (b : Bool) | int (i : Int) | str (x : PySem.Str) | tup (l : List PV) | ref (n : Nat)
inductive PO where
  | lst (l : List PV)
  | ro (l : List PV)
  | dI (kvs : List (Int × PV))
  | ins (c : Nat) (fs : List (Nat × PV))
    | dT (kvs : List (List Int × PV))
    | exc (c : Nat) (v : PV)
noncomputable abbrev PHp := List PO
inductive R (α : Type) where
  | ok (a : α) (A : PHp)
  | ex (c : Nat) (v : PV) (A : PHp)
  | no
noncomputable abbrev M (α : Type) := PHp → R α
@[simp] noncomputable def ret {α : Type} (a : α) : M α := fun A => .ok a A
@[simp] noncomputable def stuck {α : Type} : M α := fun _ => .no
@[simp] noncomputable def bnd {α β : Type} (m : M α) (f : α → M β) : M β := fun A => match m A with
  | .ok a A' => f a A'
  | .ex c v A' => .ex c v A'
  | .no => .no
noncomputable def guard {α : Type} (P : Prop) (m : M α) : M α := @ite _ P (Classical.propDecidable P) m stuck
theorem guard_pos {α : Type} {P : Prop} {m : M α} (h : P) : guard P m = m := if_pos h
@[simp] theorem guard_true {α : Type} {m : M α} : guard True m = m := if_pos trivial
theorem guard_inv {α : Type} {P : Prop} {m : M α} {A A' : PHp} {a : α} (h : guard P m A = .ok a A') : P ∧ m A = .ok a A' := by
  by_cases p : P
  · rw [guard_pos p] at h; exact ⟨p, h⟩
  · rw [show guard P m = stuck from if_neg p] at h; cases h
theorem bnd_ok {α β : Type} {m : M α} {f : α → M β} {A A' : PHp} {a : α} (h : m A = .ok a A') : bnd m f A = f a A' := by unfold bnd; rw [h]
theorem bnd_inv {α β : Type} {m : M α} {f : α → M β} {A A' : PHp} {b : β} (h : bnd m f A = .ok b A') : ∃ a A1, m A = .ok a A1 ∧ f a A1 = .ok b A' := by
  unfold bnd at h
  cases e : m A with
  | ok a A1 => rw [e] at h; exact ⟨a, A1, rfl, h⟩
  | ex c v A1 => rw [e] at h; cases h
  | no => rw [e] at h; cases h
noncomputable abbrev PSt := List (Option PV)
noncomputable abbrev ED := PSt → M PV
noncomputable abbrev TD := PSt → M Bool
noncomputable abbrev AD := PSt → M (List PV)
noncomputable abbrev Fun := List PV → M PV
inductive Fl where
  | nx (σ : PSt) | rt (v : PV) | bk (σ : PSt) | ct (σ : PSt)
noncomputable abbrev SD := PSt → M Fl
noncomputable abbrev GD := PV → PSt → M PSt
@[irreducible] noncomputable def LIM : Nat := 100000
theorem lim_le {n : Nat} (h : n ≤ 10000) : n ≤ LIM := by unfold LIM; omega
theorem lim_lt {n : Nat} (h : n < 10000) : n < LIM := by unfold LIM; omega
@[simp] theorem lim_0 : 0 ≤ LIM := Nat.zero_le _
@[simp] theorem lim_1 : 1 ≤ LIM := lim_le (by omega)
@[simp] theorem lim_2 : 2 ≤ LIM := lim_le (by omega)
@[simp] theorem lim_3 : 3 ≤ LIM := lim_le (by omega)
@[simp] theorem lim_4 : 4 ≤ LIM := lim_le (by omega)
mutual
noncomputable def eqv : PV → PV → Bool
  | .non, .non => true
  | .bl a, .bl b => a == b
  | .int i, .int j => decide (i = j)
  | .str x, .str y => decide (x = y)
  | .tup l, .tup m => eqvs l m
  | _, _ => false
noncomputable def eqvs : List PV → List PV → Bool
  | [], [] => true
  | x :: xs, y :: ys => eqv x y && eqvs xs ys
  | _, _ => false
end
mutual
noncomputable def nice : PV → Bool
  | .non => true
  | .int _ => true
  | .str _ => true
  | .tup l => nices l
  | _ => false
noncomputable def nices : List PV → Bool
  | [] => true
  | x :: xs => nice x && nices xs
end
@[simp] noncomputable def flat0 : PV → Bool
  | .non => true
  | .int _ => true
  | .str _ => true
  | _ => false
noncomputable def flat1 : PV → Bool
  | .tup l => l.all flat0
  | x => flat0 x
noncomputable def flat2 : PV → Bool
  | .tup l => l.all flat1
  | x => flat0 x
noncomputable def plain : PV → Bool
  | .tup l => l.all flat2
  | x => flat0 x
noncomputable def plains (l : List PV) : Bool := l.all plain
@[simp] theorem plain_int (i : Int) : plain (.int i) = true := rfl
@[simp] theorem plain_non : plain .non = true := rfl
@[simp] noncomputable def alloc (o : PO) : M PV := fun A => .ok (.ref A.length) (A ++ [o])
@[simp] noncomputable def lstAt (n : Nat) : M (List PV) := fun A => match A[n]? with
  | some (.lst l) => .ok l A
  | some (.ro l) => .ok l A
  | _ => .no
@[simp] noncomputable def mutAt (n : Nat) : M (List PV) := fun A => match A[n]? with
  | some (.lst l) => .ok l A
  | _ => .no
@[simp] noncomputable def put (n : Nat) (o : PO) : M Unit := fun A => .ok () (A.set n o)
@[simp] noncomputable def insAt (n : Nat) : M (Nat × List (Nat × PV)) := fun A => match A[n]? with
  | some (.ins c fs) => .ok (c, fs) A
  | _ => .no
@[simp] noncomputable def seqOf (v : PV) : M (List PV) := match v with
  | .ref n => lstAt n
  | .tup l => ret l
  | _ => stuck
@[simp] noncomputable def eVar (i : Nat) : ED := fun σ => match σ[i]? with
  | some (some v) => ret v
  | _ => stuck
@[simp] noncomputable def eK (v : PV) : ED := fun _ => ret v
@[simp] noncomputable def aNil : AD := fun _ => ret []
@[simp] noncomputable def aCons (e : ED) (es : AD) : AD := fun σ => bnd (e σ) fun x => bnd (es σ) fun xs => ret (x :: xs)
@[simp] noncomputable def eTup (es : AD) : ED := fun σ => bnd (es σ) fun xs => guard (xs.length ≤ LIM) (ret (.tup xs))
@[simp] noncomputable def eLst (es : AD) : ED := fun σ => bnd (es σ) fun xs => guard (xs.length ≤ LIM) (alloc (.lst xs))
noncomputable abbrev OD := PV → PV → M PV
@[simp] noncomputable def eBin (f : OD) (a b : ED) : ED := fun σ => bnd (a σ) fun x => bnd (b σ) fun y => f x y
@[simp] noncomputable def oAdd : OD
  | .int i, .int j => ret (.int (i + j))
  | .tup l, .tup m => guard (l ≠ [] ∧ l.length + m.length ≤ LIM) (ret (.tup (l ++ m)))
  | .ref n, .ref k => bnd (mutAt n) fun l => bnd (mutAt k) fun m => guard (l.length + m.length ≤ LIM) (alloc (.lst (l ++ m)))
  | _, _ => stuck
@[simp] noncomputable def oSub : OD
  | .int i, .int j => ret (.int (i - j))
  | _, _ => stuck
@[simp] noncomputable def oMul : OD
  | .int i, .int j => guard ((-(2 ^ 64) < i ∧ i < 2 ^ 64) ∨ (-(2 ^ 64) < j ∧ j < 2 ^ 64)) (ret (.int (i * j)))
  | _, _ => stuck
@[simp] noncomputable def oMod : OD
  | .int i, .int j => guard (0 < j) (ret (.int (i % j)))
  | _, _ => stuck
@[simp] noncomputable def oFdiv : OD
  | .int i, .int j => guard (0 < j ∧ j < 1073741824) (ret (.int (i / j)))
  | _, _ => stuck
@[simp] noncomputable def oLt : OD
  | .int i, .int j => ret (.bl (decide (i < j)))
  | _, _ => stuck
@[simp] noncomputable def oLe : OD
  | .int i, .int j => ret (.bl (decide (i ≤ j)))
  | _, _ => stuck
@[simp] noncomputable def oGt : OD
  | .int i, .int j => ret (.bl (decide (j < i)))
  | _, _ => stuck
@[simp] noncomputable def oGe : OD
  | .int i, .int j => ret (.bl (decide (j ≤ i)))
  | _, _ => stuck
@[simp] noncomputable def bothBl : PV → PV → Bool
  | .bl _, .bl _ => true
  | _, _ => false
@[simp] noncomputable def pEq (x y : PV) : M Bool := match x, y with
  | .ref n, .ref k => bnd (lstAt n) fun l => bnd (lstAt k) fun m => guard (plains l = true ∧ plains m = true) (ret (eqvs l m))
  | x, y => guard (bothBl x y = true ∨ (plain x = true ∧ plain y = true)) (ret (eqv x y))
@[simp] noncomputable def oEq : OD := fun x y => bnd (pEq x y) fun b => ret (.bl b)
@[simp] noncomputable def oNe : OD := fun x y => bnd (pEq x y) fun b => ret (.bl (!b))
noncomputable def pIn (x : PV) (l : List PV) : Bool := l.any fun y => eqv y x
@[simp] noncomputable def oIn : OD := fun x y => bnd (seqOf y) fun l => guard (plain x = true ∧ plains l = true) (ret (.bl (pIn x l)))
@[simp] noncomputable def oNotIn : OD := fun x y => bnd (seqOf y) fun l => guard (plain x = true ∧ plains l = true) (ret (.bl (!pIn x l)))
@[simp] noncomputable def isNon : PV → Bool
  | .non => true
  | _ => false
@[simp] noncomputable def eIsN (a : ED) : ED := fun σ => bnd (a σ) fun x => ret (.bl (isNon x))
@[simp] noncomputable def eNotN (a : ED) : ED := fun σ => bnd (a σ) fun x => ret (.bl (!isNon x))
@[simp] noncomputable def eChain (f g : OD) (a b c : ED) : ED := fun σ => bnd (a σ) fun x => bnd (b σ) fun y => bnd (f x y) fun z => match z with
  | .bl true => bnd (c σ) fun u => g y u
  | .bl false => ret (.bl false)
  | _ => stuck
@[simp] noncomputable def asB (v : PV) : M Bool := match v with
  | .bl b => ret b
  | _ => stuck
@[simp] noncomputable def tVal (e : ED) : TD := fun σ => bnd (e σ) asB
@[simp] noncomputable def tAnd (a b : TD) : TD := fun σ => bnd (a σ) fun c => if c = true then b σ else ret false
@[simp] noncomputable def tOr (a b : TD) : TD := fun σ => bnd (a σ) fun c => if c = true then ret true else b σ
@[simp] noncomputable def tNot (a : TD) : TD := fun σ => bnd (a σ) fun c => ret (!c)
@[simp] noncomputable def eAnd (a b : ED) : ED := fun σ => bnd (bnd (a σ) asB) fun c => if c = true then b σ else ret (.bl false)
@[simp] noncomputable def eOr (a b : ED) : ED := fun σ => bnd (bnd (a σ) asB) fun c => if c = true then ret (.bl true) else b σ
@[simp] noncomputable def eNot (a : ED) : ED := fun σ => bnd (bnd (a σ) asB) fun c => ret (.bl (!c))
@[simp] noncomputable def eIf (t : TD) (a b : ED) : ED := fun σ => bnd (t σ) fun c => if c = true then a σ else b σ
noncomputable def ixN (n : Nat) (i : Int) : Option Nat := if 0 ≤ i then (if i < n then some i.toNat else none) else if -(n : Int) ≤ i then some (i + n).toNat else none
noncomputable def atI {α : Type} (xs : List α) (i : Int) : Option α := (ixN xs.length i).bind fun j => xs[j]?
@[simp] noncomputable def oIx : OD := fun x y => match y with
  | .int i => bnd (seqOf x) fun l => match atI l i with
    | some v => ret v
    | none => stuck
  | _ => stuck
noncomputable def cutIx (n d : Nat) : Option Int → Nat
  | none => d
  | some v => if v < 0 then (max (v + n) 0).toNat else (min v n).toNat
noncomputable def cut {α : Type} (xs : List α) (lo hi : Option Int) : List α := (xs.drop (cutIx xs.length 0 lo)).take (cutIx xs.length xs.length hi - cutIx xs.length 0 lo)
noncomputable abbrev LD := PSt → M (Option Int)
@[simp] noncomputable def lNo : LD := fun _ => ret none
@[simp] noncomputable def lAt (e : ED) : LD := fun σ => bnd (e σ) fun x => match x with
  | .int i => ret (some i)
  | _ => stuck
@[simp] noncomputable def eCut (a : ED) (lo hi : LD) : ED := fun σ => bnd (a σ) fun x => bnd (lo σ) fun l => bnd (hi σ) fun h => match x with
  | .ref n => bnd (lstAt n) fun xs => alloc (.lst (cut xs l h))
  | .tup xs => guard (¬ (cutIx xs.length 0 l = 0 ∧ cutIx xs.length xs.length h = xs.length)) (ret (.tup (cut xs l h)))
  | _ => stuck
@[simp] noncomputable def eLen (a : ED) : ED := fun σ => bnd (a σ) fun x => bnd (seqOf x) fun l => ret (.int l.length)
@[simp] noncomputable def eListOf (a : ED) : ED := fun σ => bnd (a σ) fun x => bnd (seqOf x) fun l => alloc (.lst l)
noncomputable def intsOf : List PV → Option (List Int)
  | [] => some []
  | .int i :: r => (intsOf r).map (i :: ·)
  | _ => none
noncomputable def tupsOf : List PV → Option (List (List Int))
  | [] => some []
  | .tup (x :: l) :: r => match intsOf (x :: l), tupsOf r with
    | some z, some zs => some (z :: zs)
    | _, _ => none
  | _ => none
noncomputable def lexLt : List Int → List Int → Bool
  | _, [] => false
  | [], _ :: _ => true
  | x :: xs, y :: ys => if x = y then lexLt xs ys else decide (x < y)
noncomputable def insBy {α : Type} (lt : α → α → Bool) (a : α) : List α → List α
  | [] => [a]
  | b :: r => if lt b a = true then b :: insBy lt a r else a :: b :: r
noncomputable def sortBy {α : Type} (lt : α → α → Bool) : List α → List α
  | [] => []
  | a :: r => insBy lt a (sortBy lt r)
noncomputable def ltI (i j : Int) : Bool := decide (i < j)
noncomputable def pSorted (l : List PV) : M (List PV) := guard (l.length < 64) (match intsOf l with
    | some ns => ret ((sortBy ltI ns).map .int)
    | none => match tupsOf l with
      | some ts => ret ((sortBy lexLt ts).map fun t => .tup (t.map .int))
      | none => stuck)
@[simp] noncomputable def eSorted (a : ED) : ED := fun σ => bnd (a σ) fun x => match x with
  | .ref n => bnd (lstAt n) fun l => bnd (pSorted l) fun m => alloc (.lst m)
  | _ => stuck
inductive Ty where
  | int | bool | tuple | list
@[simp] noncomputable def isTy (t : Ty) (v : PV) : M Bool := match t, v with
  | .int, .int _ => ret true
  | .int, .bl _ => ret true
  | .bool, .bl _ => ret true
  | .tuple, .tup _ => ret true
  | .list, .ref n => bnd (mutAt n) fun _ => ret true
  | _, .ref n => bnd (mutAt n) fun _ => ret false
  | _, _ => ret false
@[simp] noncomputable def eIsA (a : ED) (t : Ty) : ED := fun σ => bnd (a σ) fun x => bnd (isTy t x) fun b => ret (.bl b)
@[simp] noncomputable def getFld (f : Nat) : List (Nat × PV) → Option PV
  | [] => none
  | (g, u) :: r => if g = f then some u else getFld f r
@[simp] noncomputable def eFld (a : ED) (f : Nat) : ED := fun σ => bnd (a σ) fun x => match x with
  | .ref n => bnd (insAt n) fun o => match getFld f o.2 with
    | some v => ret v
    | none => stuck
  | _ => stuck
@[simp] noncomputable def putFld (f : Nat) (v : PV) : List (Nat × PV) → List (Nat × PV)
  | [] => [(f, v)]
  | (g, u) :: r => if g = f then (g, v) :: r else (g, u) :: putFld f v r
@[simp] noncomputable def sFld (a : ED) (f : Nat) (e : ED) : SD := fun σ => bnd (e σ) fun v => bnd (a σ) fun x => match x with
  | .ref n => bnd (insAt n) fun o => guard (o.2.length < 900) (bnd (put n (.ins o.1 (putFld f v o.2))) fun _ => ret (.nx σ))
  | _ => stuck
@[simp] noncomputable def eCall (f : Fun) (es : AD) : ED := fun σ => bnd (es σ) f
@[simp] noncomputable def eMake (c : Nat) (init : Fun) (es : AD) : ED := fun σ => bnd (es σ) fun vs => bnd (alloc (.ins c [])) fun x => bnd (init (x :: vs)) fun _ => ret x
@[simp] noncomputable def eMeth (c : Nat) (f : Fun) (a : ED) (es : AD) : ED := fun σ => bnd (a σ) fun x => match x with
  | .ref n => bnd (insAt n) fun o => guard (o.1 = c) (bnd (es σ) fun vs => f (x :: vs))
  | _ => stuck
@[simp] noncomputable def eAppend (a e : ED) : ED := fun σ => bnd (a σ) fun x => match x with
  | .ref n => bnd (mutAt n) fun _ => bnd (e σ) fun v => bnd (mutAt n) fun l => guard (l.length < LIM) (bnd (put n (.lst (l ++ [v]))) fun _ => ret .non)
  | _ => stuck
@[simp] noncomputable def gName (i : Nat) : GD := fun v σ => ret (σ.set i (some v))
noncomputable abbrev GDs := List PV → PSt → M PSt
@[simp] noncomputable def gNil : GDs := fun vs σ => match vs with
  | [] => ret σ
  | _ => stuck
@[simp] noncomputable def gCons (g : GD) (r : GDs) : GDs := fun vs σ => match vs with
  | v :: w => bnd (g v σ) fun σ' => r w σ'
  | _ => stuck
@[simp] noncomputable def gTup (n : Nat) (g : GDs) : GD := fun v σ => match v with
  | .tup l => guard (l.length = n) (g l σ)
  | _ => stuck
inductive It where
  | rng (lo : Int) (n : Nat) | lst (n : Nat) | tup (l : List PV) | enm (n : Nat)
    | fix (l : List PV)
    | zip (x y : PV)
noncomputable abbrev ID := PSt → M It
@[simp] noncomputable def iSeq (a : ED) : ID := fun σ => bnd (a σ) fun x => match x with
  | .ref n => bnd (lstAt n) fun _ => ret (.lst n)
  | .tup l => ret (.tup l)
  | _ => stuck
@[simp] noncomputable def iRng1 (a : ED) : ID := fun σ => bnd (a σ) fun x => match x with
  | .int j => guard (-(2 ^ 62) ≤ j ∧ j < 2 ^ 62) (ret (.rng 0 j.toNat))
  | _ => stuck
@[simp] noncomputable def iRng2 (a b : ED) : ID := fun σ => bnd (a σ) fun x => bnd (b σ) fun y => match x, y with
  | .int i, .int j => guard ((-(2 ^ 62) ≤ i ∧ i < 2 ^ 62) ∧ -(2 ^ 62) ≤ j ∧ j < 2 ^ 62) (ret (.rng i (j - i).toNat))
  | _, _ => stuck
@[simp] noncomputable def iEnm (a : ED) : ID := fun σ => bnd (a σ) fun x => match x with
  | .ref n => bnd (lstAt n) fun _ => ret (.enm n)
  | _ => stuck
@[simp] noncomputable def item (J : It) (i : Nat) : M (Option PV) := match J with
  | .rng lo n => ret (if i < n then some (.int (lo + i)) else none)
  | .lst a => bnd (lstAt a) fun l => ret l[i]?
  | .tup l => ret l[i]?
  | .enm a => bnd (lstAt a) fun l => ret (l[i]?.map fun x => .tup [.int i, x])
  | .fix l => ret l[i]?
  | .zip x y => bnd (seqOf x) fun l => bnd (seqOf y) fun m => ret (match l[i]?, m[i]? with
    | some u, some v => some (.tup [u, v])
    | _, _ => none)
@[simp] noncomputable def fuelOf (J : It) : M Nat := match J with
  | .rng _ n => ret n
  | .lst a => bnd (lstAt a) fun l => ret l.length
  | .tup l => ret l.length
  | .enm a => bnd (lstAt a) fun l => ret l.length
  | .fix l => ret l.length
  | .zip x _ => bnd (seqOf x) fun l => ret l.length
@[simp] noncomputable def sPass : SD := fun σ => ret (.nx σ)
@[simp] noncomputable def sBreak : SD := fun σ => ret (.bk σ)
@[simp] noncomputable def sCont : SD := fun σ => ret (.ct σ)
@[simp] noncomputable def sSeq (a b : SD) : SD := fun σ => bnd (a σ) fun f => match f with
  | .nx σ' => b σ'
  | o => ret o
@[simp] noncomputable def sExpr (e : ED) : SD := fun σ => bnd (e σ) fun _ => ret (.nx σ)
@[simp] noncomputable def sRet (e : ED) : SD := fun σ => bnd (e σ) fun v => ret (.rt v)
@[simp] noncomputable def sRetN : SD := fun _ => ret (.rt .non)
@[simp] noncomputable def sIf (t : TD) (a b : SD) : SD := fun σ => bnd (t σ) fun c => if c = true then a σ else b σ
@[simp] noncomputable def sAsg (e : ED) (g : GD) : SD := fun σ => bnd (e σ) fun v => bnd (g v σ) fun σ' => ret (.nx σ')
@[simp] noncomputable def sNever : SD := fun _ => stuck
noncomputable def turns0 (J : It) (g : GD) (body : SD) : Nat → Nat → PSt → M Fl
  | 0, _, _ => stuck
  | f + 1, i, σ => bnd (item J i) fun x => match x with
    | none => ret (.nx σ)
    | some v => bnd (g v σ) fun σ1 => bnd (body σ1) fun o => match o with
      | .nx σ2 => turns0 J g body f (i + 1) σ2
      | .ct σ2 => turns0 J g body f (i + 1) σ2
      | .bk σ2 => ret (.nx σ2)
      | .rt v => ret (.rt v)
theorem turns_ex : ∃ T : It → GD → SD → Nat → Nat → PSt → M Fl, (∀ J g body i σ, T J g body 0 i σ = stuck) ∧ ∀ J g body f i σ, T J g body (f + 1) i σ = bnd (item J i) fun x => match x with
    | none => ret (.nx σ)
    | some v => bnd (g v σ) fun σ1 => bnd (body σ1) fun o => match o with
      | .nx σ2 => T J g body f (i + 1) σ2
      | .ct σ2 => T J g body f (i + 1) σ2
      | .bk σ2 => ret (.nx σ2)
      | .rt v => ret (.rt v) := ⟨turns0, fun _ _ _ _ _ => rfl, fun _ _ _ _ _ _ => rfl⟩
noncomputable def turns : It → GD → SD → Nat → Nat → PSt → M Fl := Classical.choose turns_ex
theorem turns_zero (J : It) (g : GD) (body : SD) (i : Nat) (σ : PSt) : turns J g body 0 i σ = stuck := (Classical.choose_spec turns_ex).1 J g body i σ
theorem turns_succ (J : It) (g : GD) (body : SD) (f i : Nat) (σ : PSt) : turns J g body (f + 1) i σ = bnd (item J i) fun x => match x with
    | none => ret (.nx σ)
    | some v => bnd (g v σ) fun σ1 => bnd (body σ1) fun o => match o with
      | .nx σ2 => turns J g body f (i + 1) σ2
      | .ct σ2 => turns J g body f (i + 1) σ2
      | .bk σ2 => ret (.nx σ2)
      | .rt v => ret (.rt v) := (Classical.choose_spec turns_ex).2 J g body f i σ
@[simp] noncomputable def sFor (it : ID) (g : GD) (body : SD) : SD := fun σ => bnd (it σ) fun J => bnd (fuelOf J) fun n => turns J g body (n + 1) 0 σ
noncomputable def wturns0 (t : TD) (body : SD) : Nat → PSt → M Fl
  | 0, _ => stuck
  | f + 1, σ => bnd (t σ) fun c => if c = true then bnd (body σ) fun o => match o with
      | .nx σ2 => wturns0 t body f σ2
      | .ct σ2 => wturns0 t body f σ2
      | .bk σ2 => ret (.nx σ2)
      | .rt v => ret (.rt v)
    else ret (.nx σ)
theorem wturns_ex : ∃ T : TD → SD → Nat → PSt → M Fl, (∀ t body σ, T t body 0 σ = stuck) ∧ ∀ t body f σ, T t body (f + 1) σ = bnd (t σ) fun c => if c = true then bnd (body σ) fun o => match o with
      | .nx σ2 => T t body f σ2
      | .ct σ2 => T t body f σ2
      | .bk σ2 => ret (.nx σ2)
      | .rt v => ret (.rt v)
    else ret (.nx σ) := ⟨wturns0, fun _ _ _ => rfl, fun _ _ _ _ => rfl⟩
noncomputable def wturns : TD → SD → Nat → PSt → M Fl := Classical.choose wturns_ex
theorem wturns_zero (t : TD) (body : SD) (σ : PSt) : wturns t body 0 σ = stuck := (Classical.choose_spec wturns_ex).1 t body σ
theorem wturns_succ (t : TD) (body : SD) (f : Nat) (σ : PSt) : wturns t body (f + 1) σ = bnd (t σ) fun c => if c = true then bnd (body σ) fun o => match o with
      | .nx σ2 => wturns t body f σ2
      | .ct σ2 => wturns t body f σ2
      | .bk σ2 => ret (.nx σ2)
      | .rt v => ret (.rt v)
    else ret (.nx σ) := (Classical.choose_spec wturns_ex).2 t body f σ
@[simp] noncomputable def sWhile (t : TD) (body : SD) : SD := fun σ => wturns t body LIM σ
noncomputable def bst {α : Type} (js : List (Option Nat)) (σ : List (Option α)) : List (Option α) := js.map fun o => match o with
  | none => none
  | some j => σ.getD j none
noncomputable def cturns0 (J : It) (g : GD) (t : TD) (e : ED) : Nat → Nat → PSt → M (List PV)
  | 0, _, _ => stuck
  | f + 1, i, σ => bnd (item J i) fun x => match x with
    | none => ret []
    | some v => bnd (g v σ) fun σ1 => bnd (t σ1) fun c => if c = true then bnd (e σ1) fun y => bnd (cturns0 J g t e f (i + 1) σ1) fun ys => ret (y :: ys)
      else cturns0 J g t e f (i + 1) σ1
theorem cturns_ex : ∃ T : It → GD → TD → ED → Nat → Nat → PSt → M (List PV), (∀ J g t e i σ, T J g t e 0 i σ = stuck) ∧ ∀ J g t e f i σ, T J g t e (f + 1) i σ = bnd (item J i) fun x => match x with
    | none => ret []
    | some v => bnd (g v σ) fun σ1 => bnd (t σ1) fun c => if c = true then bnd (e σ1) fun y => bnd (T J g t e f (i + 1) σ1) fun ys => ret (y :: ys)
      else T J g t e f (i + 1) σ1 := ⟨cturns0, fun _ _ _ _ _ _ => rfl, fun _ _ _ _ _ _ _ => rfl⟩
noncomputable def cturns : It → GD → TD → ED → Nat → Nat → PSt → M (List PV) := Classical.choose cturns_ex
theorem cturns_zero (J : It) (g : GD) (t : TD) (e : ED) (i : Nat) (σ : PSt) : cturns J g t e 0 i σ = stuck := (Classical.choose_spec cturns_ex).1 J g t e i σ
theorem cturns_succ (J : It) (g : GD) (t : TD) (e : ED) (f i : Nat) (σ : PSt) : cturns J g t e (f + 1) i σ = bnd (item J i) fun x => match x with
    | none => ret []
    | some v => bnd (g v σ) fun σ1 => bnd (t σ1) fun c => if c = true then bnd (e σ1) fun y => bnd (cturns J g t e f (i + 1) σ1) fun ys => ret (y :: ys)
      else cturns J g t e f (i + 1) σ1 := (Classical.choose_spec cturns_ex).2 J g t e f i σ
@[simp] noncomputable def tTrue : TD := fun _ => ret true
@[simp] noncomputable def eComp (it : ID) (mk : PSt → PSt) (g : GD) (t : TD) (e : ED) : ED := fun σ => bnd (it σ) fun J => bnd (fuelOf J) fun n => bnd (cturns J g t e (n + 1) 0 (mk σ)) fun ys => guard (ys.length ≤ LIM) (alloc (.lst ys))
@[simp] noncomputable def dflt (f : Fun) (ds : List PV) : Fun := fun vs => f (vs ++ ds)
@[simp] noncomputable def start (n : Nat) (vs : List PV) : PSt := vs.map some ++ List.replicate (n - vs.length) none
noncomputable def fin (o : Fl) : M PV := match o with
    | .rt v => ret v
    | .nx _ => ret .non
    | _ => stuck
@[simp] theorem fin_rt (v : PV) : fin (.rt v) = ret v := rfl
@[simp] theorem fin_nx (σ : PSt) : fin (.nx σ) = ret .non := rfl
@[simp] noncomputable def fn (n p : Nat) (body : SD) : Fun := fun vs => guard (vs.length = p) (bnd (body (start n vs)) fin)
end
end Ws
namespace Ws
theorem pre_get {A B : PHp} {n : Nat} {o : PO} (h : A <+: B) (e : A[n]? = some o) : B[n]? = some o := by
  obtain ⟨t, rfl⟩ := h
  rw [List.getElem?_append_left (List.getElem?_eq_some_iff.mp e).1]; exact e
theorem pre_lt {A : PHp} {n : Nat} {o : PO} (e : A[n]? = some o) : n < A.length := (List.getElem?_eq_some_iff.mp e).1
theorem pre_set {A B : PHp} {n : Nat} {o : PO} (h : A <+: B) (e : A.length ≤ n) : A <+: B.set n o := by
  obtain ⟨t, rfl⟩ := h
  rw [List.set_append_right _ _ e]; exact List.prefix_append _ _
theorem pre_app {A B : PHp} {o : PO} (h : A <+: B) : A <+: B ++ [o] := h.trans (List.prefix_append _ _)
theorem pre_len {A B : PHp} (h : A <+: B) : A.length ≤ B.length := h.length_le
theorem get_app {A : PHp} {o : PO} : (A ++ [o])[A.length]? = some o := by simp
theorem get_app_of {A : PHp} {o p : PO} {n : Nat} (e : A[n]? = some p) : (A ++ [o])[n]? = some p := pre_get (List.prefix_append _ _) e
theorem get_set_ne {A : PHp} {o : PO} {n m : Nat} (h : m ≠ n) : (A.set n o)[m]? = A[m]? := by
  rw [List.getElem?_set]; simp [Ne.symm h]
theorem get_set {A : PHp} {o p : PO} {n : Nat} (h : A[n]? = some p) : (A.set n o)[n]? = some o := by
  rw [List.getElem?_set]; simp [pre_lt h]
noncomputable def Comes (r : R Fl) (P : PSt → PHp → Prop) (Q : PV → PHp → Prop) : Prop :=
  (∃ σ A, r = .ok (.nx σ) A ∧ P σ A) ∨ ∃ v A, r = .ok (.rt v) A ∧ Q v A
noncomputable def Turns (r : R Fl) (P : PSt → PHp → Prop) (Q : PV → PHp → Prop) : Prop :=
  (∃ σ A, (r = .ok (.nx σ) A ∨ r = .ok (.ct σ) A) ∧ P σ A) ∨ ∃ v A, r = .ok (.rt v) A ∧ Q v A
theorem turns_inv {J : It} {g : GD} {body : SD} {n : Nat} (P : Nat → PSt → PHp → Prop) (Q : PV → PHp → Prop)
    (hend : ∀ σ A, P n σ A → item J n A = .ok none A)
    (hs : ∀ i σ A, i < n → P i σ A → ∃ v, item J i A = .ok (some v) A ∧ Turns (bnd (g v σ) body A) (P (i + 1)) Q) :
    ∀ k i σ A, i + k = n → P i σ A → Comes (turns J g body (k + 1) i σ A) (P n) Q
  | 0, i, σ, A, e, h => by
    obtain rfl : i = n := by omega
    refine .inl ⟨σ, A, ?_, h⟩
    rw [turns_succ, bnd_ok (hend σ A h)]; rfl
  | k + 1, i, σ, A, e, h => by
    obtain ⟨v, hv, t⟩ := hs i σ A (by omega) h
    have key : turns J g body (k + 1 + 1) i σ A = bnd (bnd (g v σ) body) (fun o => match o with
      | .nx σ2 => turns J g body (k + 1) (i + 1) σ2
      | .ct σ2 => turns J g body (k + 1) (i + 1) σ2
      | .bk σ2 => ret (.nx σ2)
      | .rt v => ret (.rt v)) A := by
      rw [turns_succ, bnd_ok hv]
      show bnd (g v σ) _ A = _
      unfold bnd
      cases g v σ A <;> rfl
    rw [key]
    rcases t with ⟨σ2, A2, e2, h2⟩ | ⟨u, A2, e2, h2⟩
    · rcases e2 with e2 | e2 <;> (rw [bnd_ok e2]; exact turns_inv P Q hend hs k (i + 1) σ2 A2 (by omega) h2)
    · rw [bnd_ok e2]; exact .inr ⟨u, A2, rfl, h2⟩
theorem for_rng {it : ID} {g : GD} {body : SD} {lo : Int} {n : Nat} {σ : PSt} {A A1 : PHp} (hi : it σ A = .ok (.rng lo n) A1) (P : Nat → PSt → PHp → Prop) (Q : PV → PHp → Prop) (h0 : P 0 σ A1)
    (hs : ∀ (i : Nat) σ A, i < n → P i σ A → Turns (bnd (g (.int (lo + i)) σ) body A) (P (i + 1)) Q) : Comes (sFor it g body σ A) (P n) Q := by
  show Comes (bnd (it σ) _ A) _ _
  rw [bnd_ok hi]
  exact turns_inv (J := .rng lo n) P Q (fun σ A _ => by simp) (fun i σ A hi h => ⟨_, by simp [hi], hs i σ A hi h⟩) n 0 σ A1 (by omega) h0
theorem for_lst {it : ID} {g : GD} {body : SD} {a : Nat} {l : List PV} {σ : PSt} {A A1 : PHp} (hi : it σ A = .ok (.lst a) A1) (P : Nat → PSt → PHp → Prop) (Q : PV → PHp → Prop) (h0 : P 0 σ A1)
    (hl : ∀ i σ A, P i σ A → lstAt a A = .ok l A)
    (hs : ∀ (i : Nat) v σ A, l[i]? = some v → P i σ A → Turns (bnd (g v σ) body A) (P (i + 1)) Q) : Comes (sFor it g body σ A) (P l.length) Q := by
  show Comes (bnd (it σ) _ A) _ _
  rw [bnd_ok hi]
  show Comes (bnd (bnd (lstAt a) _) _ A1) _ _
  rw [bnd_ok (show bnd (lstAt a) (fun l => ret l.length) A1 = .ok l.length A1 by rw [bnd_ok (hl 0 σ A1 h0)]; rfl)]
  refine turns_inv (J := .lst a) P Q (fun σ A h => ?_) (fun i σ A hi h => ⟨l[i], ?_, hs i _ σ A (by simp [hi]) h⟩) l.length 0 σ A1 (by omega) h0
  · show bnd (lstAt a) _ A = _
    rw [bnd_ok (hl _ _ _ h)]; simp
  · show bnd (lstAt a) _ A = _
    rw [bnd_ok (hl _ _ _ h)]; simp [hi]
theorem for_enm {it : ID} {g : GD} {body : SD} {a : Nat} {l : List PV} {σ : PSt} {A A1 : PHp} (hi : it σ A = .ok (.enm a) A1) (P : Nat → PSt → PHp → Prop) (Q : PV → PHp → Prop) (h0 : P 0 σ A1)
    (hl : ∀ i σ A, P i σ A → lstAt a A = .ok l A)
    (hs : ∀ (i : Nat) v σ A, l[i]? = some v → P i σ A → Turns (bnd (g (.tup [.int i, v]) σ) body A) (P (i + 1)) Q) : Comes (sFor it g body σ A) (P l.length) Q := by
  show Comes (bnd (it σ) _ A) _ _
  rw [bnd_ok hi]
  show Comes (bnd (bnd (lstAt a) _) _ A1) _ _
  rw [bnd_ok (show bnd (lstAt a) (fun l => ret l.length) A1 = .ok l.length A1 by rw [bnd_ok (hl 0 σ A1 h0)]; rfl)]
  refine turns_inv (J := .enm a) P Q (fun σ A h => ?_) (fun i σ A hi h => ⟨.tup [.int i, l[i]], ?_, hs i _ σ A (by simp [hi]) h⟩) l.length 0 σ A1 (by omega) h0
  · show bnd (lstAt a) _ A = _
    rw [bnd_ok (hl _ _ _ h)]; simp
  · show bnd (lstAt a) _ A = _
    rw [bnd_ok (hl _ _ _ h)]; simp [hi]
theorem Comes.end {r : R Fl} {P : PSt → PHp → Prop} (h : Comes r P fun _ _ => False) : ∃ σ A, r = .ok (.nx σ) A ∧ P σ A := by
  rcases h with h | ⟨_, _, _, h⟩
  · exact h
  · exact h.elim
theorem Turns.nx {r : R Fl} {P : PSt → PHp → Prop} {Q : PV → PHp → Prop} {σ : PSt} {A : PHp} (e : r = .ok (.nx σ) A) (h : P σ A) : Turns r P Q := .inl ⟨σ, A, .inl e, h⟩
theorem Comes.turns {r : R Fl} {P : PSt → PHp → Prop} {Q : PV → PHp → Prop} (h : Comes r P Q) : Turns r P Q := by
  rcases h with ⟨σ, A, e, h⟩ | h
  · exact .inl ⟨σ, A, .inl e, h⟩
  · exact .inr h
theorem Comes.mono {r : R Fl} {P P' : PSt → PHp → Prop} {Q Q' : PV → PHp → Prop} (h : Comes r P Q) (hp : ∀ σ A, P σ A → P' σ A) (hq : ∀ v A, Q v A → Q' v A) : Comes r P' Q' := by
  rcases h with ⟨σ, A, e, h⟩ | ⟨v, A, e, h⟩
  · exact .inl ⟨σ, A, e, hp _ _ h⟩
  · exact .inr ⟨v, A, e, hq _ _ h⟩
theorem for_rng' {it : ID} {g : GD} {body : SD} {lo : Int} {n : Nat} {σ : PSt} {A A1 : PHp} {P' : PSt → PHp → Prop} {Q : PV → PHp → Prop} (hi : it σ A = .ok (.rng lo n) A1) (P : Nat → PSt → PHp → Prop) (h0 : P 0 σ A1)
    (hs : ∀ (i : Nat) σ A, i < n → P i σ A → Turns (bnd (g (.int (lo + i)) σ) body A) (P (i + 1)) Q) (hd : ∀ σ A, P n σ A → P' σ A) : Comes (sFor it g body σ A) P' Q :=
  (for_rng hi P Q h0 hs).mono hd fun _ _ h => h
theorem for_lst' {it : ID} {g : GD} {body : SD} {a : Nat} {l : List PV} {σ : PSt} {A A1 : PHp} {P' : PSt → PHp → Prop} {Q : PV → PHp → Prop} (hi : it σ A = .ok (.lst a) A1) (P : Nat → PSt → PHp → Prop) (h0 : P 0 σ A1)
    (hl : ∀ i σ A, P i σ A → lstAt a A = .ok l A)
    (hs : ∀ (i : Nat) v σ A, l[i]? = some v → P i σ A → Turns (bnd (g v σ) body A) (P (i + 1)) Q) (hd : ∀ σ A, P l.length σ A → P' σ A) : Comes (sFor it g body σ A) P' Q :=
  (for_lst hi P Q h0 hl hs).mono hd fun _ _ h => h
theorem cturns_of {J : It} {g : GD} {t : TD} {e : ED} {l : List PV} {S : PSt → Prop} {p : PV → Bool} {f : PV → PV} {A : PHp}
    (hit : ∀ i, item J i A = .ok l[i]? A)
    (h : ∀ v ∈ l, ∀ σ, S σ → ∃ σ1, g v σ A = .ok σ1 A ∧ S σ1 ∧ t σ1 A = .ok (p v) A ∧ (p v = true → e σ1 A = .ok (f v) A)) :
    ∀ k i σ, i + k = l.length → S σ → cturns J g t e (k + 1) i σ A = .ok (((l.drop i).filter p).map f) A
  | 0, i, σ, hk, hσ => by
    have : l.length ≤ i := by omega
    rw [cturns_succ, bnd_ok (hit i)]
    simp [List.drop_eq_nil_of_le this, this]
  | k + 1, i, σ, hk, hσ => by
    have hi : i < l.length := by omega
    obtain ⟨σ1, h1, h2, h3, h4⟩ := h l[i] (List.getElem_mem hi) σ hσ
    have ih := cturns_of hit h k (i + 1) σ1 (by omega) h2
    have ed : l.drop i = l[i] :: l.drop (i + 1) := List.drop_eq_getElem_cons hi
    rw [cturns_succ, bnd_ok (hit i), List.getElem?_eq_getElem hi]
    show bnd (g l[i] σ) _ A = _
    rw [bnd_ok h1, bnd_ok h3, ed]
    cases hp : p l[i] with
    | true =>
      rw [if_pos rfl, bnd_ok (h4 hp), bnd_ok ih, List.filter_cons_of_pos hp]
      rfl
    | false =>
      rw [if_neg (by simp), ih, List.filter_cons_of_neg (by simp [hp])]
theorem comp_lst {it : ID} {mk : PSt → PSt} {g : GD} {t : TD} {e : ED} {a : Nat} {l : List PV} {S : PSt → Prop} {p : PV → Bool} {f : PV → PV} {σ : PSt} {A A1 : PHp} (hi : it σ A = .ok (.lst a) A1) (hl : lstAt a A1 = .ok l A1) (hn : l.length ≤ LIM) (hσ : S (mk σ))
    (h : ∀ v ∈ l, ∀ σ, S σ → ∃ σ1, g v σ A1 = .ok σ1 A1 ∧ S σ1 ∧ t σ1 A1 = .ok (p v) A1 ∧ (p v = true → e σ1 A1 = .ok (f v) A1)) :
    eComp it mk g t e σ A = .ok (.ref A1.length) (A1 ++ [.lst ((l.filter p).map f)]) := by
  show bnd (it σ) _ A = _
  rw [bnd_ok hi]
  show bnd (bnd (lstAt a) _) _ A1 = _
  rw [bnd_ok (show bnd (lstAt a) (fun l => ret l.length) A1 = .ok l.length A1 by rw [bnd_ok hl]; rfl)]
  have c := cturns_of (J := .lst a) (g := g) (t := t) (e := e) (l := l) (S := S) (p := p) (f := f) (A := A1) (fun i => by show bnd (lstAt a) _ A1 = _; rw [bnd_ok hl]; rfl) h l.length 0 (mk σ) (by omega) hσ
  rw [bnd_ok c, List.drop_zero, guard_pos]
  · rfl
  · rw [List.length_map]; exact Nat.le_trans (List.length_filter_le _ _) hn
theorem comp_rng {it : ID} {mk : PSt → PSt} {g : GD} {t : TD} {e : ED} {lo : Int} {n : Nat} {S : PSt → Prop} {p : PV → Bool} {f : PV → PV} {σ : PSt} {A A1 : PHp} (hi : it σ A = .ok (.rng lo n) A1) (hn : n ≤ LIM) (hσ : S (mk σ))
    (h : ∀ (i : Nat), i < n → ∀ σ, S σ → ∃ σ1, g (.int (lo + i)) σ A1 = .ok σ1 A1 ∧ S σ1 ∧ t σ1 A1 = .ok (p (.int (lo + i))) A1 ∧ (p (.int (lo + i)) = true → e σ1 A1 = .ok (f (.int (lo + i))) A1)) :
    eComp it mk g t e σ A = .ok (.ref A1.length) (A1 ++ [.lst ((((List.range n).map fun (i : Nat) => PV.int (lo + i)).filter p).map f)]) := by
  show bnd (it σ) _ A = _
  rw [bnd_ok hi]
  show bnd (ret n) _ A1 = _
  rw [bnd_ok (show ret n A1 = .ok n A1 from rfl)]
  have c := cturns_of (J := .rng lo n) (g := g) (t := t) (e := e) (l := (List.range n).map fun (i : Nat) => PV.int (lo + i)) (S := S) (p := p) (f := f) (A := A1) (fun i => by
      by_cases hi : i < n <;> simp [hi]) (fun v hv => by
      obtain ⟨i, hi, rfl⟩ := List.mem_map.mp hv
      exact h i (List.mem_range.mp hi)) n 0 (mk σ) (by simp) hσ
  rw [bnd_ok c, List.drop_zero, guard_pos]
  · rfl
  · rw [List.length_map]; exact Nat.le_trans (List.length_filter_le _ _) (by simpa using hn)
theorem fn_rt {n p : Nat} {body : SD} {vs : List PV} {A A' : PHp} {v : PV} (hl : vs.length = p) (h : body (start n vs) A = .ok (.rt v) A') : fn n p body vs A = .ok v A' := by
  show guard (vs.length = p) (bnd (body (start n vs)) fin) A = _
  rw [guard_pos hl, bnd_ok h]; rfl
theorem seq_nx {a b : SD} {σ σ' : PSt} {A A' : PHp} (h : a σ A = .ok (.nx σ') A') : sSeq a b σ A = b σ' A' := by
  show bnd (a σ) _ A = _
  rw [bnd_ok h]
theorem seq_rt {a b : SD} {σ : PSt} {v : PV} {A A' : PHp} (h : a σ A = .ok (.rt v) A') : sSeq a b σ A = .ok (.rt v) A' := by
  show bnd (a σ) _ A = _
  rw [bnd_ok h]; rfl
theorem asg_ok {e : ED} {g : GD} {σ σ' : PSt} {A A' A'' : PHp} {v : PV} (h : e σ A = .ok v A') (hg : g v σ A' = .ok σ' A'') : sAsg e g σ A = .ok (.nx σ') A'' := by
  show bnd (e σ) _ A = _
  rw [bnd_ok h, bnd_ok hg]; rfl
theorem eLst_nil (A : PHp) (σ : PSt) : eLst aNil σ A = .ok (.ref A.length) (A ++ [.lst []]) := by
  simp
theorem if_t {t : TD} {a b : SD} {σ : PSt} {A A' : PHp} (h : t σ A = .ok true A') : sIf t a b σ A = a σ A' := by
  show bnd (t σ) _ A = _
  rw [bnd_ok h]; rfl
theorem if_f {t : TD} {a b : SD} {σ : PSt} {A A' : PHp} (h : t σ A = .ok false A') : sIf t a b σ A = b σ A' := by
  show bnd (t σ) _ A = _
  rw [bnd_ok h]; rfl
theorem set_last {A : PHp} {o p : PO} : (A ++ [o]).set A.length p = A ++ [p] := by
  rw [List.set_append_right _ _ (Nat.le_refl _)]; simp
theorem sorted_ok {e : ED} {σ : PSt} {A A1 : PHp} {n : Nat} {l m : List PV} (h : e σ A = .ok (.ref n) A1) (hl : lstAt n A1 = .ok l A1) (hs : pSorted l A1 = .ok m A1) : eSorted e σ A = .ok (.ref A1.length) (A1 ++ [.lst m]) := by
  show bnd (e σ) _ A = _
  rw [bnd_ok h]
  show bnd (lstAt n) _ A1 = _
  rw [bnd_ok hl, bnd_ok hs]; rfl
theorem iseq_ok {e : ED} {σ : PSt} {A A1 : PHp} {n : Nat} {l : List PV} (h : e σ A = .ok (.ref n) A1) (hl : lstAt n A1 = .ok l A1) : iSeq e σ A = .ok (.lst n) A1 := by
  show bnd (e σ) _ A = _
  rw [bnd_ok h]
  show bnd (lstAt n) _ A1 = _
  rw [bnd_ok hl]; rfl
theorem lstAt_lst {A : PHp} {n : Nat} {l : List PV} (h : A[n]? = some (.lst l)) : lstAt n A = .ok l A := by
  unfold lstAt; rw [h]
theorem lstAt_last {A : PHp} {l : List PV} : lstAt A.length (A ++ [.lst l]) = .ok l (A ++ [.lst l]) := lstAt_lst get_app
theorem mutAt_lst {A : PHp} {n : Nat} {l : List PV} (h : A[n]? = some (.lst l)) : mutAt n A = .ok l A := by
  unfold mutAt; rw [h]
mutual
theorem eqv_nice : ∀ x y : PV, nice x = true → (eqv x y = true ↔ x = y)
  | .non, y, _ => by cases y <;> simp [eqv]
  | .bl _, _, h => by simp [nice] at h
  | .int i, y, _ => by cases y <;> simp [eqv]
  | .str s, y, _ => by cases y <;> simp [eqv]
  | .tup l, y, h => by
    cases y with
    | tup m => simp only [eqv, PV.tup.injEq]; exact eqvs_nice l m (by simpa [nice] using h)
    | _ => simp [eqv]
  | .ref _, _, h => by simp [nice] at h
theorem eqvs_nice : ∀ l m : List PV, nices l = true → (eqvs l m = true ↔ l = m)
  | [], m, _ => by cases m <;> simp [eqvs]
  | x :: xs, m, h => by
    cases m with
    | nil => simp [eqvs]
    | cons y ys =>
      simp only [nices, Bool.and_eq_true] at h
      simp only [eqvs, Bool.and_eq_true, List.cons.injEq]
      rw [eqv_nice x y h.1, eqvs_nice xs ys h.2]
end
theorem nices_of {f : PV → Bool} (h : ∀ x, f x = true → nice x = true) : ∀ l : List PV, l.all f = true → nices l = true
  | [], _ => rfl
  | x :: xs, e => by
    rw [List.all_cons, Bool.and_eq_true] at e
    simp only [nices, Bool.and_eq_true]
    exact ⟨h x e.1, nices_of h xs e.2⟩
theorem nice0 (x : PV) (h : flat0 x = true) : nice x = true := by cases x <;> simp_all [flat0, nice]
theorem nice1 (x : PV) (h : flat1 x = true) : nice x = true := by
  cases x with
  | tup l => exact nices_of nice0 l h
  | _ => exact nice0 _ h
theorem nice2 (x : PV) (h : flat2 x = true) : nice x = true := by
  cases x with
  | tup l => exact nices_of nice1 l h
  | _ => exact nice0 _ h
theorem plain_nice (x : PV) (h : plain x = true) : nice x = true := by
  cases x with
  | tup l => exact nices_of nice2 l h
  | _ => exact nice0 _ h
theorem eqv_iff (x y : PV) (h : plain x = true) : eqv x y = true ↔ x = y := eqv_nice x y (plain_nice x h)
theorem eqvs_iff (l m : List PV) (h : plains l = true) : eqvs l m = true ↔ l = m := eqvs_nice l m (nices_of plain_nice l h)
theorem plains_iff (l : List PV) : plains l = true ↔ ∀ x ∈ l, plain x = true := List.all_eq_true
theorem plains_ints (ns : List Int) : plains (ns.map .int) = true := by
  rw [plains_iff]; intro x hx; obtain ⟨i, _, rfl⟩ := List.mem_map.mp hx; rfl
theorem insBy_perm {α : Type} (lt : α → α → Bool) (a : α) : ∀ l : List α, (insBy lt a l).Perm (a :: l)
  | [] => .refl _
  | b :: r => by
    unfold insBy
    split
    · exact ((insBy_perm lt a r).cons b).trans (.swap a b r)
    · exact .refl _
theorem sortBy_perm {α : Type} (lt : α → α → Bool) : ∀ l : List α, (sortBy lt l).Perm l
  | [] => .refl _
  | a :: r => (insBy_perm lt a _).trans ((sortBy_perm lt r).cons a)
theorem intsOf_map (ns : List Int) : intsOf (ns.map .int) = some ns := by
  induction ns with
  | nil => rfl
  | cons i r ih => simp [intsOf, ih]
theorem tupsOf_map : ∀ (ts : List (List Int)), (∀ t ∈ ts, t ≠ []) → tupsOf (ts.map fun t => PV.tup (t.map .int)) = some ts
  | [], _ => rfl
  | t :: r, h => by
    have ih := tupsOf_map r fun u hu => h u (List.mem_cons_of_mem _ hu)
    cases t with
    | nil => exact absurd rfl (h [] List.mem_cons_self)
    | cons x l =>
      have e := intsOf_map (x :: l)
      simp only [List.map_cons] at e
      simp only [List.map_cons, tupsOf, e, ih]
theorem pSorted_tups {ts : List (List Int)} {A : PHp} (h : ts.length < 64) (h0 : ∀ t ∈ ts, t ≠ []) : pSorted (ts.map fun t => PV.tup (t.map .int)) A = .ok ((sortBy lexLt ts).map fun t => PV.tup (t.map .int)) A := by
  unfold pSorted
  rw [List.length_map, guard_pos h]
  cases ts with
  | nil => rfl
  | cons t r =>
    have e : intsOf ((t :: r).map fun t => PV.tup (t.map .int)) = none := by simp [intsOf]
    rw [e, tupsOf_map _ h0]; rfl
theorem insBy_sorted {α : Type} {lt : α → α → Bool} (asym : ∀ a b, lt a b = true → lt b a = false) (tr : ∀ a b c, lt b a = false → lt c b = false → lt c a = false) (a : α) :
    ∀ l : List α, l.Pairwise (fun x y => lt y x = false) → (insBy lt a l).Pairwise (fun x y => lt y x = false)
  | [], _ => by simp [insBy]
  | b :: r, h => by
    rw [List.pairwise_cons] at h
    unfold insBy
    split
    · rename_i hb
      rw [List.pairwise_cons]
      refine ⟨fun c hc => ?_, insBy_sorted asym tr a r h.2⟩
      rcases List.mem_cons.mp ((insBy_perm lt a r).mem_iff.mp hc) with rfl | hc
      · exact asym _ _ hb
      · exact h.1 c hc
    · rename_i hb
      have hb' : lt b a = false := by simpa using hb
      rw [List.pairwise_cons]
      refine ⟨fun c hc => ?_, List.pairwise_cons.mpr h⟩
      rcases List.mem_cons.mp hc with rfl | hc
      · exact hb'
      · exact tr a b c hb' (h.1 c hc)
theorem sortBy_sorted {α : Type} {lt : α → α → Bool} (asym : ∀ a b, lt a b = true → lt b a = false) (tr : ∀ a b c, lt b a = false → lt c b = false → lt c a = false) :
    ∀ l : List α, (sortBy lt l).Pairwise (fun x y => lt y x = false)
  | [] => by simp [sortBy]
  | a :: r => insBy_sorted asym tr a _ (sortBy_sorted asym tr r)
theorem sortI_sorted (l : List Int) : (sortBy ltI l).Pairwise (· ≤ ·) := by
  refine (sortBy_sorted (lt := ltI) ?_ ?_ l).imp ?_
  · intro a b h; simp [ltI] at *; omega
  · intro a b c h1 h2; simp [ltI] at *; omega
  · intro a b h; simp [ltI] at h; exact h
theorem rise_uniq : ∀ {l m : List Int}, l.Perm m → l.Pairwise (· ≤ ·) → m.Pairwise (· ≤ ·) → l = m
  | [], m, h, _, _ => (List.nil_perm.mp h).symm
  | x :: l, [], h, _, _ => absurd h.length_eq (by simp)
  | x :: l, y :: m, h, h1, h2 => by
    rw [List.pairwise_cons] at h1 h2
    have e : x = y := by
      have a1 : x ∈ y :: m := h.mem_iff.mp List.mem_cons_self
      have a2 : y ∈ x :: l := h.mem_iff.mpr List.mem_cons_self
      rcases List.mem_cons.mp a1 with e | e
      · exact e
      · rcases List.mem_cons.mp a2 with e' | e'
        · exact e'.symm
        · have := h2.1 x e; have := h1.1 y e'; omega
    subst e
    rw [rise_uniq (List.perm_cons _ |>.mp h) h1.2 h2.2]
theorem sort_uniq {α : Type} {lt : α → α → Bool} (tot : ∀ a b, lt a b = false → lt b a = false → a = b) : ∀ {l m : List α}, l.Perm m → l.Pairwise (fun x y => lt y x = false) → m.Pairwise (fun x y => lt y x = false) → l = m
  | [], m, h, _, _ => (List.nil_perm.mp h).symm
  | x :: l, [], h, _, _ => absurd h.length_eq (by simp)
  | x :: l, y :: m, h, h1, h2 => by
    rw [List.pairwise_cons] at h1 h2
    have e : x = y := by
      have a1 : x ∈ y :: m := h.mem_iff.mp List.mem_cons_self
      have a2 : y ∈ x :: l := h.mem_iff.mpr List.mem_cons_self
      rcases List.mem_cons.mp a1 with e | e
      · exact e
      · rcases List.mem_cons.mp a2 with e' | e'
        · exact e'.symm
        · exact tot _ _ (h2.1 x e) (h1.1 y e') |>.symm ▸ rfl
    subst e
    rw [sort_uniq tot (List.perm_cons _ |>.mp h) h1.2 h2.2]
theorem lex_asym : ∀ a b : List Int, lexLt a b = true → lexLt b a = false
  | _, [], h => by simp [lexLt] at h
  | [], _ :: _, _ => rfl
  | x :: xs, y :: ys, h => by
    simp only [lexLt] at h ⊢
    by_cases e : x = y
    · subst e; simp only [if_true] at h ⊢; exact lex_asym xs ys h
    · rw [if_neg e] at h; rw [if_neg (Ne.symm e)]; simp at h ⊢; omega
theorem lex_tot : ∀ a b : List Int, lexLt a b = false → lexLt b a = false → a = b
  | [], [], _, _ => rfl
  | [], _ :: _, h, _ => by simp [lexLt] at h
  | _ :: _, [], _, h => by simp [lexLt] at h
  | x :: xs, y :: ys, h, h' => by
    simp only [lexLt] at h h'
    by_cases e : x = y
    · subst e; simp only [if_true] at h h'; rw [lex_tot xs ys h h']
    · rw [if_neg e] at h; rw [if_neg (Ne.symm e)] at h'; simp at h h'; omega
theorem lex_tr : ∀ a b c : List Int, lexLt b a = false → lexLt c b = false → lexLt c a = false
  | [], _, _, _, _ => by simp [lexLt]
  | _ :: _, [], _, h, _ => by simp [lexLt] at h
  | _ :: _, _ :: _, [], _, h => by simp [lexLt] at h
  | x :: xs, y :: ys, z :: zs, h, h' => by
    simp only [lexLt] at h h' ⊢
    by_cases e : y = x
    · subst e
      simp only [if_true] at h
      by_cases e2 : z = y
      · subst e2; simp only [if_true] at h' ⊢; exact lex_tr xs ys zs h h'
      · rw [if_neg e2] at h' ⊢; exact h'
    · rw [if_neg e] at h
      by_cases e2 : z = y
      · subst e2; rw [if_neg e]; exact h
      · rw [if_neg e2] at h'
        simp at h h'
        rw [if_neg (by omega)]; simp; omega
theorem lex_sorted (ts : List (List Int)) : (sortBy lexLt ts).Pairwise (fun x y => lexLt y x = false) := sortBy_sorted lex_asym lex_tr ts
end Ws
namespace Ws
@[simp] noncomputable def ePop (a : ED) : ED := fun σ => bnd (a σ) fun x => match x with
  | .ref n => bnd (mutAt n) fun l => match l[l.length - 1]? with
    | some y => bnd (put n (.lst l.dropLast)) fun _ => ret y
    | none => stuck
  | _ => stuck
@[simp] noncomputable def eClear (a : ED) : ED := fun σ => bnd (a σ) fun x => match x with
  | .ref n => bnd (mutAt n) fun _ => bnd (put n (.lst [])) fun _ => ret .non
  | _ => stuck
end Ws
namespace Ws
@[simp] noncomputable def dctAt (n : Nat) : M (List (Int × PV)) := fun A => match A[n]? with
  | some (.dI m) => .ok m A
  | _ => .no
noncomputable def valI : List (Int × PV) → Int → Option PV
  | [], _ => none
  | p :: r, k => if p.1 = k then some p.2 else valI r k
noncomputable def putI (kvs : List (Int × PV)) (k : Int) (x : PV) : List (Int × PV) :=
  if (kvs.any fun p => decide (p.1 = k)) = true then kvs.map (fun p => if p.1 = k then (p.1, x) else p) else kvs ++ [(k, x)]
@[simp] noncomputable def eDIn (y d : ED) : ED := fun σ => bnd (y σ) fun k => bnd (d σ) fun x => match k, x with
  | .int i, .ref n => bnd (dctAt n) fun m => ret (.bl (valI m i).isSome)
  | _, _ => stuck
@[simp] noncomputable def eDNotIn (y d : ED) : ED := fun σ => bnd (y σ) fun k => bnd (d σ) fun x => match k, x with
  | .int i, .ref n => bnd (dctAt n) fun m => ret (.bl (!(valI m i).isSome))
  | _, _ => stuck
@[simp] noncomputable def sDPut (d y e : ED) : SD := fun σ => bnd (e σ) fun v => bnd (d σ) fun x => bnd (y σ) fun k => match x, k with
  | .ref n, .int i => bnd (dctAt n) fun m => guard (m.length < LIM) (bnd (put n (.dI (putI m i v))) fun _ => ret (.nx σ))
  | _, _ => stuck
@[simp] noncomputable def eDGet (d y : ED) : ED := fun σ => bnd (d σ) fun x => bnd (y σ) fun k => match x, k with
  | .ref n, .int i => bnd (dctAt n) fun m => match valI m i with
    | some v => ret v
    | none => stuck
  | _, _ => stuck
@[simp] noncomputable def eDisp1 (y e : ED) : ED := fun σ => bnd (alloc (.dI [])) fun x => bnd (y σ) fun k => bnd (e σ) fun v => match x, k with
  | .ref n, .int i => bnd (dctAt n) fun m => match m with
    | [] => bnd (put n (.dI [(i, v)])) fun _ => ret x
    | _ => stuck
  | _, _ => stuck
@[simp] noncomputable def eDNew : ED := fun _ => alloc (.dI [])
@[simp] noncomputable def eDGet2 (d y e : ED) : ED := fun σ => bnd (d σ) fun x => match x with
  | .ref n => bnd (dctAt n) fun _ => bnd (y σ) fun k => bnd (e σ) fun v => match k with
    | .int i => bnd (dctAt n) fun m => ret ((valI m i).getD v)
    | _ => stuck
  | _ => stuck
@[simp] noncomputable def eSortedD (d : ED) : ED := fun σ => bnd (d σ) fun x => match x with
  | .ref n => bnd (dctAt n) fun m => guard (m.length < 64) (alloc (.lst ((sortBy ltI (m.map (·.1))).map PV.int)))
  | _ => stuck
@[simp] noncomputable def iRevRng (a : ED) : ID := fun σ => bnd (a σ) fun x => match x with
  | .int j => guard (-(2 ^ 62) ≤ j ∧ j < 2 ^ 62 ∧ j.toNat ≤ 2 ^ 24) (ret (.fix ((List.range j.toNat).map fun k => PV.int (k : Nat)).reverse))
  | _ => stuck
noncomputable def blsOf : List PV → Option (List Bool)
  | [] => some []
  | .bl b :: r => (blsOf r).map (b :: ·)
  | _ => none
@[simp] noncomputable def eAll (a : ED) : ED := fun σ => bnd (a σ) fun x => match x with
  | .ref n => bnd (lstAt n) fun l => match blsOf l with
    | some bs => ret (.bl (bs.all id))
    | none => stuck
  | _ => stuck
noncomputable def maxI (i : Int) : List Int → Int
  | [] => i
  | j :: r => maxI (if i < j then j else i) r
noncomputable def minI (i : Int) : List Int → Int
  | [] => i
  | j :: r => minI (if j < i then j else i) r
@[simp] noncomputable def eMaxD (a d : ED) : ED := fun σ => bnd (a σ) fun x => bnd (d σ) fun v => match x with
  | .ref n => bnd (lstAt n) fun l => match intsOf l with
    | some [] => ret v
    | some (i :: r) => ret (.int (maxI i r))
    | none => stuck
  | _ => stuck
@[simp] noncomputable def eMax (a : ED) : ED := fun σ => bnd (a σ) fun x => match x with
  | .ref n => bnd (lstAt n) fun l => match intsOf l with
    | some (i :: r) => ret (.int (maxI i r))
    | _ => stuck
  | _ => stuck
@[simp] noncomputable def eMin (a : ED) : ED := fun σ => bnd (a σ) fun x => match x with
  | .ref n => bnd (lstAt n) fun l => match intsOf l with
    | some (i :: r) => ret (.int (minI i r))
    | _ => stuck
  | _ => stuck
@[simp] noncomputable def eCount (a e : ED) : ED := fun σ => bnd (a σ) fun x => match x with
  | .ref n => bnd (mutAt n) fun _ => bnd (e σ) fun v => match v with
    | .int k => bnd (mutAt n) fun l => match intsOf l with
      | some ns => ret (.int (ns.count k))
      | none => stuck
    | _ => stuck
  | _ => stuck
@[simp] noncomputable def eInsert (a e : ED) : ED := fun σ => bnd (a σ) fun x => match x with
  | .ref n => bnd (mutAt n) fun _ => bnd (e σ) fun v => bnd (mutAt n) fun l => guard (l.length < LIM) (bnd (put n (.lst (v :: l))) fun _ => ret .non)
  | _ => stuck
noncomputable def idxI (k : Int) : List Int → Option Nat
  | [] => none
  | i :: r => if i = k then some 0 else (idxI k r).map (· + 1)
@[simp] noncomputable def eIndex1 (a e : ED) : ED := fun σ => bnd (a σ) fun x => match x with
  | .ref n => bnd (mutAt n) fun _ => bnd (e σ) fun v => match v with
    | .int k => bnd (mutAt n) fun l => match intsOf l with
      | some (i :: r) => match idxI k r with
        | some j => ret (.int (j + 1 : Nat))
        | none => stuck
      | _ => stuck
    | _ => stuck
  | _ => stuck
@[simp] noncomputable def eLenD (d : ED) : ED := fun σ => bnd (d σ) fun x => match x with
  | .ref n => bnd (dctAt n) fun m => ret (.int m.length)
  | _ => stuck
@[simp] noncomputable def eDGet1 (d y : ED) : ED := fun σ => bnd (d σ) fun x => match x with
  | .ref n => bnd (dctAt n) fun _ => bnd (y σ) fun k => match k with
    | .int i => bnd (dctAt n) fun m => ret ((valI m i).getD .non)
    | _ => stuck
  | _ => stuck
@[simp] noncomputable def ePop0 (a : ED) : ED := fun σ => bnd (a σ) fun x => match x with
  | .ref n => bnd (mutAt n) fun l => match l with
    | y :: r => bnd (put n (.lst r)) fun _ => ret y
    | [] => stuck
  | _ => stuck
@[simp] noncomputable def eLenSet (a : ED) : ED := fun σ => bnd (a σ) fun x => match x with
  | .ref n => bnd (mutAt n) fun l => match intsOf l with
    | some ns => guard (ns.Nodup ∧ ns.length < 1000) (ret (.int ns.length))
    | none => stuck
  | _ => stuck
@[simp] noncomputable def eTupleOf (a : ED) : ED := fun σ => bnd (a σ) fun x => match x with
  | .ref n => bnd (lstAt n) fun l => guard (l.length ≤ LIM) (ret (.tup l))
  | _ => stuck
@[simp] noncomputable def eExtend (a e : ED) : ED := fun σ => bnd (a σ) fun x => match x with
  | .ref n => bnd (mutAt n) fun _ => bnd (e σ) fun v => match v with
    | .ref k => bnd (mutAt n) fun l => bnd (mutAt k) fun m => guard (l.length + m.length ≤ LIM) (bnd (put n (.lst (l ++ m))) fun _ => ret .non)
    | _ => stuck
  | _ => stuck
noncomputable def subsOf : List Int → List (List Int)
  | [] => [[]]
  | a :: r => subsOf r ++ (subsOf r).map (a :: ·)
@[simp] noncomputable def eSortSet (a : ED) : ED := fun σ => bnd (a σ) fun x => match x with
  | .ref n => bnd (mutAt n) fun l => match intsOf l with
    | some ns => guard (ns ∈ subsOf [0, 1, 2, 3, 4, 5]) (alloc (.lst (ns.map PV.int)))
    | none => stuck
  | _ => stuck
end Ws
namespace Ws
noncomputable def metI (l : List Int) (a : Int) : List Int := if l.any (· == a) = true then l else l ++ [a]
noncomputable def cntI (ns : List Int) : Nat := (ns.foldl metI []).length
@[simp] noncomputable def eLenSet2 (a : ED) : ED := fun σ => bnd (a σ) fun x => bnd (seqOf x) fun l => match intsOf l with
  | some ns => guard (ns.length < 1000) (ret (.int (cntI ns)))
  | none => stuck
theorem metI_cases (l : List Int) (a : Int) : (a ∈ l ∧ metI l a = l) ∨ (a ∉ l ∧ metI l a = l ++ [a]) := by
  unfold metI
  by_cases h : a ∈ l
  · exact .inl ⟨h, if_pos (List.any_eq_true.mpr ⟨a, h, by simp⟩)⟩
  · refine .inr ⟨h, if_neg fun z => ?_⟩
    obtain ⟨x, hx, e⟩ := List.any_eq_true.mp z
    exact h (by rw [← (beq_iff_eq.mp e)]; exact hx)
theorem met_fold : ∀ (r l : List Int), l.Nodup → (r.foldl metI l).length ≤ l.length + r.length ∧ ((r.foldl metI l).length = l.length + r.length ↔ (l ++ r).Nodup)
  | [], l, h => by simp [h]
  | a :: r, l, h => by
    rw [List.foldl_cons]
    rcases metI_cases l a with ⟨h1, e⟩ | ⟨h1, e⟩
    · rw [e]
      obtain ⟨i1, i2⟩ := met_fold r l h
      refine ⟨by simp; omega, ⟨fun z => by simp at z; omega, fun z => ?_⟩⟩
      exact absurd rfl ((List.nodup_append.mp z).2.2 a h1 a List.mem_cons_self)
    · rw [e]
      have nd : (l ++ [a]).Nodup := by
        rw [List.nodup_append]
        exact ⟨h, by simp, fun x hx y hy z => by simp at hy; exact h1 (by rw [← hy, ← z]; exact hx)⟩
      obtain ⟨i1, i2⟩ := met_fold r (l ++ [a]) nd
      have e2 : l ++ [a] ++ r = l ++ a :: r := by simp
      rw [e2] at i2
      simp only [List.length_append, List.length_cons, List.length_nil] at i1 i2 ⊢
      exact ⟨by omega, ⟨fun z => i2.mp (by omega), fun z => by have := i2.mpr z; omega⟩⟩
theorem cnt_le (ns : List Int) : cntI ns ≤ ns.length := by have := (met_fold ns [] List.nodup_nil).1; simpa [cntI] using this
theorem cnt_lt (ns : List Int) : cntI ns < ns.length ↔ ¬ ns.Nodup := by
  have h := (met_fold ns [] List.nodup_nil).2
  have h1 := cnt_le ns
  simp only [List.length_nil, Nat.zero_add, List.nil_append] at h
  unfold cntI at *
  constructor
  · intro z y; have := h.mpr y; omega
  · intro z
    rcases Nat.lt_or_ge (ns.foldl metI []).length ns.length with q | q
    · exact q
    · exact absurd (h.mp (by omega)) z
@[simp] noncomputable def iZip (a b : ED) : ID := fun σ => bnd (a σ) fun x => bnd (b σ) fun y => bnd (seqOf x) fun _ => bnd (seqOf y) fun _ => ret (.zip x y)
end Ws
namespace Ws
@[simp] noncomputable def eCut2 (a : ED) (lo hi : LD) : ED := fun σ => bnd (a σ) fun x => bnd (lo σ) fun l => bnd (hi σ) fun h => match x with
  | .ref n => bnd (lstAt n) fun xs => alloc (.lst (cut xs l h))
  | .tup xs => ret (.tup (cut xs l h))
  | _ => stuck
@[simp] noncomputable def eRevT (a : ED) : ED := fun σ => bnd (a σ) fun x => match x with
  | .tup xs => ret (.tup xs.reverse)
  | _ => stuck
@[simp] noncomputable def oAdd2 : OD
  | .int i, .int j => ret (.int (i + j))
  | .tup l, .tup m => guard (l.length + m.length ≤ LIM) (ret (.tup (l ++ m)))
  | .ref n, .ref k => bnd (mutAt n) fun l => bnd (mutAt k) fun m => guard (l.length + m.length ≤ LIM) (alloc (.lst (l ++ m)))
  | _, _ => stuck
@[simp] noncomputable def eIsF (a : ED) : ED := fun σ => bnd (a σ) fun x => match x with
  | .bl b => ret (.bl (!b))
  | _ => stuck
end Ws
namespace Ws
noncomputable section
@[simp] noncomputable def eMax2 (a b : ED) : ED := fun σ => bnd (a σ) fun x => bnd (b σ) fun y => match x, y with
  | .int i, .int j => ret (.int (if j > i then j else i))
  | _, _ => stuck
@[simp] noncomputable def oPow : OD := fun x y => match x, y with
  | .int i, .int j => guard (0 ≤ j ∧ j ≤ 1000 ∧ i.natAbs < 1000) (ret (.int (i ^ j.toNat)))
  | _, _ => stuck
end
end Ws
namespace Ws
noncomputable section
end
end Ws
namespace Ws
noncomputable section
noncomputable def eMaxT (a : ED) : ED := fun σ => bnd (a σ) fun x => match x with
  | .tup l => match intsOf l with
    | some (i :: r) => ret (.int (maxI i r))
    | _ => stuck
  | _ => stuck
end
end Ws
namespace Ws
open PySem
mutual
inductive RV (ρ : List Addr) (H : L2.Hp) : PV → L2.V → Prop
  | non : RV ρ H .non .non
  | bl (b : Bool) : RV ρ H (.bl b) (.bl b)
  | int (i : Int) : RV ρ H (.int i) (.int i)
  | str (x : Str) : RV ρ H (.str x) (.str x)
  | tup {l : List PV} {a : Addr} {vs : List L2.V} (h : H a = some (.tup vs)) (r : RVs ρ H l vs) : RV ρ H (.tup l) (.ref a)
  | ref {n : Nat} {a : Addr} (h : ρ[n]? = some a) : RV ρ H (.ref n) (.ref a)
inductive RVs (ρ : List Addr) (H : L2.Hp) : List PV → List L2.V → Prop
  | nil : RVs ρ H [] []
  | cons {x : PV} {v : L2.V} {l : List PV} {vs : List L2.V} (h : RV ρ H x v) (r : RVs ρ H l vs) : RVs ρ H (x :: l) (v :: vs)
end
structure Ext (ρ : List Addr) (H : L2.Hp) (ρ' : List Addr) (H' : L2.Hp) : Prop where
  pre : ρ <+: ρ'
  tup : ∀ a vs, H a = some (.tup vs) → H' a = some (.tup vs)
  xd : ∀ a fs, H a = some (.xd fs) → H' a = some (.xd fs)
theorem Ext.refl (ρ : List Addr) (H : L2.Hp) : Ext ρ H ρ H := ⟨List.prefix_refl _, fun _ _ h => h, fun _ _ h => h⟩
theorem Ext.trans {ρ ρ1 ρ2 : List Addr} {H H1 H2 : L2.Hp} (a : Ext ρ H ρ1 H1) (b : Ext ρ1 H1 ρ2 H2) : Ext ρ H ρ2 H2 := ⟨a.pre.trans b.pre, fun c vs h => b.tup c vs (a.tup c vs h), fun c vs h => b.xd c vs (a.xd c vs h)⟩
theorem pre_at {ρ ρ' : List Addr} {n : Nat} {a : Addr} (h : ρ <+: ρ') (e : ρ[n]? = some a) : ρ'[n]? = some a := by
  obtain ⟨t, rfl⟩ := h
  rw [List.getElem?_append_left (List.getElem?_eq_some_iff.mp e).1]; exact e
section
variable {ρ ρ' : List Addr} {H H' : L2.Hp}
mutual
theorem RV.mono (e : Ext ρ H ρ' H') : ∀ {x : PV} {v : L2.V}, RV ρ H x v → RV ρ' H' x v
  | _, _, .non => .non
  | _, _, .bl b => .bl b
  | _, _, .int i => .int i
  | _, _, .str x => .str x
  | _, _, .tup h r => .tup (e.tup _ _ h) (RVs.mono e r)
  | _, _, .ref h => .ref (pre_at e.pre h)
theorem RVs.mono (e : Ext ρ H ρ' H') : ∀ {l : List PV} {vs : List L2.V}, RVs ρ H l vs → RVs ρ' H' l vs
  | _, _, .nil => .nil
  | _, _, .cons h r => .cons (RV.mono e h) (RVs.mono e r)
end
theorem RVs.length : ∀ {l : List PV} {vs : List L2.V}, RVs ρ H l vs → l.length = vs.length
  | _, _, .nil => rfl
  | _, _, .cons _ r => by simp [RVs.length r]
theorem RVs.get : ∀ {l : List PV} {vs : List L2.V} {i : Nat} {x : PV}, RVs ρ H l vs → l[i]? = some x → ∃ v, vs[i]? = some v ∧ RV ρ H x v
  | _, _, _, _, .nil, e => by simp at e
  | _, _, 0, _, .cons h _, e => by simp at e; subst e; exact ⟨_, rfl, h⟩
  | _, _, i + 1, _, .cons _ r, e => by
    obtain ⟨v, h1, h2⟩ := RVs.get (i := i) r (by simpa using e)
    exact ⟨v, by simpa using h1, h2⟩
theorem RVs.get' : ∀ {l : List PV} {vs : List L2.V} {i : Nat} {v : L2.V}, RVs ρ H l vs → vs[i]? = some v → ∃ x, l[i]? = some x ∧ RV ρ H x v
  | _, _, _, _, .nil, e => by simp at e
  | _, _, 0, _, .cons h _, e => by simp at e; subst e; exact ⟨_, rfl, h⟩
  | _, _, i + 1, _, .cons _ r, e => by
    obtain ⟨x, h1, h2⟩ := RVs.get' (i := i) r (by simpa using e)
    exact ⟨x, by simpa using h1, h2⟩
theorem RVs.append : ∀ {l m : List PV} {vs ws : List L2.V}, RVs ρ H l vs → RVs ρ H m ws → RVs ρ H (l ++ m) (vs ++ ws)
  | _, _, _, _, .nil, s => s
  | _, _, _, _, .cons h r, s => .cons h (RVs.append r s)
theorem RVs.take : ∀ {l : List PV} {vs : List L2.V} (n : Nat), RVs ρ H l vs → RVs ρ H (l.take n) (vs.take n)
  | _, _, 0, _ => by simpa using .nil
  | _, _, _ + 1, .nil => .nil
  | _, _, n + 1, .cons h r => .cons h (RVs.take n r)
theorem RVs.drop : ∀ {l : List PV} {vs : List L2.V} (n : Nat), RVs ρ H l vs → RVs ρ H (l.drop n) (vs.drop n)
  | _, _, 0, r => r
  | _, _, _ + 1, .nil => .nil
  | _, _, n + 1, .cons _ r => RVs.drop n r
theorem RVs.ints (ns : List Int) : RVs ρ H (ns.map .int) (ns.map .int) := by
  induction ns with
  | nil => exact .nil
  | cons i r ih => exact .cons (.int i) ih
end
noncomputable def fnm (i : Nat) : Str := (["number", "passings", "at", "web", "leaders", "limits", "plan", "free", "ledger", "kept_leaders", "kept_limits", "kept_free", "now", "turns_of_lays", "sayings", "first_turns", "does", "me", "open_boxes"] : List Str).getD i "?"
noncomputable def Fz (K : PySem.W.Frag) (H : L2.Hp) (a : Addr) (xs : List L2.V) : Prop :=
  (∃ o, H a = some (.frz o (.lst xs))) ∨ ∃ (o : Obj) (its : Array Value) (n : Nat), K.lookup a = some o ∧ o.cls = .type "list" ∧ o.dict = none ∧ o.data = .seq its n ∧ its.size ≤ sizeLine ∧ L2.Vals xs its.toList
theorem Fz.sq {K : PySem.W.Frag} {H : L2.Hp} {a : Addr} {xs : List L2.V} (h : Fz K H a xs) : L2.SqL K H a xs := by
  rcases h with ⟨o, h⟩ | h
  · exact .inl (.inr ⟨o, h⟩)
  · exact .inr h
noncomputable def isMut : PO → Bool
  | .ro _ => false
  | _ => true
structure Pairs {κ κ' : Type} (f : κ → κ') (ρ : List Addr) (H : L2.Hp) (kvs : List (κ × PV)) (kv : List (κ' × L2.V)) : Prop where
  keys : kv.map (·.1) = kvs.map fun p => f p.1
  vals : RVs ρ H (kvs.map (·.2)) (kv.map (·.2))
theorem Pairs.mono {κ κ' : Type} {f : κ → κ'} {ρ ρ' : List Addr} {H H' : L2.Hp} {kvs : List (κ × PV)} {kv : List (κ' × L2.V)} (h : Pairs f ρ H kvs kv) (e : Ext ρ H ρ' H') : Pairs f ρ' H' kvs kv := ⟨h.keys, h.vals.mono e⟩
section
variable (K : PySem.W.Frag) (cm : Nat → Addr)
noncomputable def RO (ρ : List Addr) (H : L2.Hp) (a : Addr) : PO → Prop
  | .lst l => ∃ xs, H a = some (.lst xs) ∧ RVs ρ H l xs
  | .ro l => ∃ xs, Fz K H a xs ∧ RVs ρ H l xs
  | .dI kvs => ∃ kv, H a = some (.dK kv) ∧ Pairs (Sum.inl : Int → L2.Key) ρ H kvs kv
  | .ins c fs => (c < 7 ∧ ∀ p ∈ fs, p.1 < 19) ∧ ∃ dx kv, H a = some (.ins (cm c) dx kv) ∧ Pairs fnm ρ H fs kv
  | .dT kvs => ∃ kv, H a = some (.dT kv) ∧ Pairs (List.map Sum.inl : List Int → List L2.Key) ρ H kvs kv
  | .exc c v => ∃ o d v', H a = some (.frz o (.own a)) ∧ o.cls = .ref (cm c) ∧ o.dict = some d ∧ (∃ vs, o.data = .fields vs) ∧ H d = some (.xd [("at", v')]) ∧ RV ρ H v v'
structure Rel (ρ : List Addr) (A : PHp) (H : L2.Hp) : Prop where
  len : ρ.length = A.length
  obj : ∀ (n : Nat) (o : PO) (a : Addr), A[n]? = some o → ρ[n]? = some a → RO K cm ρ H a o
  inj : ∀ (m n : Nat) (a : Addr) (o p : PO), ρ[m]? = some a → ρ[n]? = some a → A[m]? = some o → A[n]? = some p → isMut o = true → isMut p = true → m = n
end
section
variable {K : PySem.W.Frag} {cm : Nat → Addr} {ρ ρ' : List Addr} {H H' : L2.Hp} {A : PHp} {a p : Addr} {o : PO} {n : Nat}
theorem RO.keep (r : RO K cm ρ H a o) (e : Ext ρ H ρ' H') (hk : ∀ u, H a = some u → H' a = some u) : RO K cm ρ' H' a o := by
  cases o with
  | lst l => obtain ⟨xs, h, q⟩ := r; exact ⟨xs, hk _ h, q.mono e⟩
  | ro l =>
    obtain ⟨xs, h, q⟩ := r
    rcases h with ⟨u, h⟩ | h
    · exact ⟨xs, .inl ⟨u, hk _ h⟩, q.mono e⟩
    · exact ⟨xs, .inr h, q.mono e⟩
  | dI kvs => obtain ⟨kv, h, q⟩ := r; exact ⟨kv, hk _ h, q.mono e⟩
  | ins c fs => obtain ⟨hs, dx, kv, h, q⟩ := r; exact ⟨hs, dx, kv, hk _ h, q.mono e⟩
  | dT kvs => obtain ⟨kv, h, q⟩ := r; exact ⟨kv, hk _ h, q.mono e⟩
  | exc c v => obtain ⟨o, d, v', h, h1, h2, h3, h4, q⟩ := r; exact ⟨o, d, v', hk _ h, h1, h2, h3, e.xd _ _ h4, q.mono e⟩
theorem RO.some (r : RO K cm ρ H a o) (m : isMut o = true) : ∃ u, H a = some u := by
  cases o with
  | lst l => obtain ⟨xs, h, q⟩ := r; exact ⟨_, h⟩
  | ro l => simp [isMut] at m
  | dI kvs => obtain ⟨kv, h, q⟩ := r; exact ⟨_, h⟩
  | ins c fs => obtain ⟨_, dx, kv, h, q⟩ := r; exact ⟨_, h⟩
  | dT kvs => obtain ⟨kv, h, q⟩ := r; exact ⟨_, h⟩
  | exc c v => obtain ⟨o, d, v', h, q⟩ := r; exact ⟨_, h⟩
theorem keep_new {u : L2.HO} (hp : H p = none) : ∀ b v, H b = some v → L2.upd H p u b = some v := fun b v h => by
  rw [L2.upd_ne (L2.ne_of_none h hp)]; exact h
theorem Ext.same {u : L2.HO} (hp : H p = none) : Ext ρ H ρ (L2.upd H p u) := ⟨List.prefix_refl _, fun a vs h => keep_new hp a _ h, fun a vs h => keep_new hp a _ h⟩
theorem Ext.new {u : L2.HO} (hp : H p = none) : Ext ρ H (ρ ++ [p]) (L2.upd H p u) := ⟨List.prefix_append _ _, fun a vs h => keep_new hp a _ h, fun a vs h => keep_new hp a _ h⟩
theorem Rel.grow (r : Rel K cm ρ A H) (e : Ext ρ H ρ H') (hk : ∀ b v, H b = some v → H' b = some v) : Rel K cm ρ A H' :=
  ⟨r.len, fun n o a h1 h2 => (r.obj n o a h1 h2).keep e (hk a), r.inj⟩
theorem Rel.tup {vs : List L2.V} (r : Rel K cm ρ A H) (hp : H p = none) : Rel K cm ρ A (L2.upd H p (.tup vs)) := r.grow (Ext.same hp) (keep_new hp)
theorem Rel.alloc {u : L2.HO} (r : Rel K cm ρ A H) (hp : H p = none) (hn : RO K cm (ρ ++ [p]) (L2.upd H p u) p o) (hm : isMut o = true) : Rel K cm (ρ ++ [p]) (A ++ [o]) (L2.upd H p u) := by
  have e : Ext ρ H (ρ ++ [p]) (L2.upd H p u) := Ext.new hp
  have none_new : ∀ (n : Nat) (q : PO), ρ[n]? = some p → A[n]? = some q → isMut q = true → False := fun n q h1 h2 hq => by
    obtain ⟨v, hv⟩ := (r.obj n q p h2 h1).some hq
    rw [hp] at hv; cases hv
  have split : ∀ {α : Type} {l : List α} {x y : α} {n : Nat}, (l ++ [x])[n]? = some y → l[n]? = some y ∨ (n = l.length ∧ y = x) := fun {α l x y n} h => by
    by_cases hn : n < l.length
    · rw [List.getElem?_append_left hn] at h; exact .inl h
    · rw [List.getElem?_append_right (by omega)] at h
      have : n - l.length = 0 := by
        by_cases z : n - l.length = 0
        · exact z
        · rw [List.getElem?_eq_none (by simp; omega)] at h; cases h
      rw [this] at h
      simp at h
      exact .inr ⟨by omega, h.symm⟩
  refine ⟨by simp [r.len], fun n q a h1 h2 => ?_, fun m n a q q' h1 h2 h3 h4 m1 m2 => ?_⟩
  · rcases split h1 with h1 | ⟨rfl, rfl⟩
    · rcases split h2 with h2 | ⟨rfl, rfl⟩
      · exact (r.obj n q a h1 h2).keep e (keep_new hp a)
      · rw [r.len, List.getElem?_eq_none (Nat.le_refl _)] at h1; cases h1
    · rcases split h2 with h2 | ⟨_, rfl⟩
      · rw [← r.len, List.getElem?_eq_none (Nat.le_refl _)] at h2; cases h2
      · exact hn
  · rcases split h1 with g1 | ⟨rfl, ha1⟩ <;> rcases split h2 with g2 | ⟨rfl, ha2⟩
    · have h3' : A[m]? = some q := by
        rcases split h3 with h3 | ⟨rfl, _⟩
        · exact h3
        · rw [← r.len, List.getElem?_eq_none (Nat.le_refl _)] at g1; cases g1
      have h4' : A[n]? = some q' := by
        rcases split h4 with h4 | ⟨rfl, _⟩
        · exact h4
        · rw [← r.len, List.getElem?_eq_none (Nat.le_refl _)] at g2; cases g2
      exact r.inj m n a q q' g1 g2 h3' h4' m1 m2
    · have h3' : A[m]? = some q := by
        rcases split h3 with h3 | ⟨rfl, _⟩
        · exact h3
        · rw [← r.len, List.getElem?_eq_none (Nat.le_refl _)] at g1; cases g1
      rw [ha2] at g1
      exact (none_new m q g1 h3' m1).elim
    · have h4' : A[n]? = some q' := by
        rcases split h4 with h4 | ⟨rfl, _⟩
        · exact h4
        · rw [← r.len, List.getElem?_eq_none (Nat.le_refl _)] at g2; cases g2
      rw [ha1] at g2
      exact (none_new n q' g2 h4' m2).elim
    · rfl
theorem Ext.put {u : L2.HO} (r : Rel K cm ρ A H) (h1 : ρ[n]? = some a) (h2 : A[n]? = some o) (m : isMut o = true) : Ext ρ H ρ (L2.upd H a u) := by
  have key : ∀ b w, H b = some w → ((∃ vs, w = .tup vs) ∨ ∃ fs, w = .xd fs) → L2.upd H a u b = some w := fun b w h hw => by
    have ne : b ≠ a := by
      rintro rfl
      have q := r.obj n o b h2 h1
      cases o with
      | lst l => obtain ⟨xs, z, _⟩ := q; rw [h] at z; cases z; rcases hw with ⟨_, y⟩ | ⟨_, y⟩ <;> cases y
      | ro l => simp [isMut] at m
      | dI kvs => obtain ⟨xs, z, _⟩ := q; rw [h] at z; cases z; rcases hw with ⟨_, y⟩ | ⟨_, y⟩ <;> cases y
      | ins c fs => obtain ⟨_, dx, xs, z, _⟩ := q; rw [h] at z; cases z; rcases hw with ⟨_, y⟩ | ⟨_, y⟩ <;> cases y
      | dT kvs => obtain ⟨xs, z, _⟩ := q; rw [h] at z; cases z; rcases hw with ⟨_, y⟩ | ⟨_, y⟩ <;> cases y
      | exc c v => obtain ⟨o, d, v', z, _⟩ := q; rw [h] at z; cases z; rcases hw with ⟨_, y⟩ | ⟨_, y⟩ <;> cases y
    rw [L2.upd_ne ne]; exact h
  exact ⟨List.prefix_refl _, fun b vs h => key b _ h (.inl ⟨_, rfl⟩), fun b vs h => key b _ h (.inr ⟨_, rfl⟩)⟩
theorem Rel.put {u : L2.HO} {o' : PO} (r : Rel K cm ρ A H) (h1 : ρ[n]? = some a) (h2 : A[n]? = some o) (m : isMut o = true) (m' : isMut o' = true) (hn : RO K cm ρ (L2.upd H a u) a o') : Rel K cm ρ (A.set n o') (L2.upd H a u) := by
  have e : Ext ρ H ρ (L2.upd H a u) := Ext.put r h1 h2 m
  have hlt := pre_lt h2
  refine ⟨by simp [r.len], fun k q b hk hb => ?_, fun i j b q q' e1 e2 e3 e4 m1 m2 => ?_⟩
  · by_cases hkn : k = n
    · subst hkn
      rw [get_set h2] at hk; cases hk
      rw [h1] at hb; cases hb
      exact hn
    · rw [get_set_ne hkn] at hk
      have q0 := r.obj k q b hk hb
      by_cases hba : b = a
      · subst hba
        cases hq : isMut q with
        | true => exact absurd (r.inj k n b q o hb h1 hk h2 hq m) hkn
        | false =>
          cases q with
          | ro l =>
            obtain ⟨xs, z, w⟩ := q0
            rcases z with ⟨v, z⟩ | z
            · obtain ⟨v', z'⟩ := (r.obj n o b h2 h1).some m
              have := r.obj n o b h2 h1
              rw [z] at z'; cases z'
              cases o with
              | lst l => obtain ⟨xs, zz, _⟩ := this; rw [z] at zz; cases zz
              | ro l => simp [isMut] at m
              | dI kvs => obtain ⟨xs, zz, _⟩ := this; rw [z] at zz; cases zz
              | ins c fs => obtain ⟨_, dx, xs, zz, _⟩ := this; rw [z] at zz; cases zz
              | dT kvs => obtain ⟨xs, zz, _⟩ := this; rw [z] at zz; cases zz
              | exc c v => obtain ⟨o, d, v', zz, _⟩ := this; rw [z] at zz; cases zz
            · exact ⟨xs, .inr z, w.mono e⟩
          | _ => simp [isMut] at hq
      · exact q0.keep e fun v hv => by rw [L2.upd_ne hba]; exact hv
  · have f3 : ∀ (k : Nat) (x : PO), (A.set n o')[k]? = some x → isMut x = true → ∃ y, A[k]? = some y ∧ isMut y = true := fun k x hk hx => by
      by_cases hkn : k = n
      · subst hkn; exact ⟨o, h2, m⟩
      · rw [get_set_ne hkn] at hk; exact ⟨x, hk, hx⟩
    obtain ⟨y, y1, y2⟩ := f3 i q e3 m1
    obtain ⟨z, z1, z2⟩ := f3 j q' e4 m2
    exact r.inj i j b y z e1 e2 y1 z1 y2 z2
end
end Ws
namespace Ws
open PySem
structure RSt (ρ : List Addr) (H : L2.Hp) (σp : PSt) (σ : L2.St) : Prop where
  len : σ.length = σp.length
  get : ∀ (i : Nat) (p : PV), σp[i]? = some (some p) → ∃ v, σ[i]? = some (some v) ∧ RV ρ H p v
theorem RSt.mono {ρ ρ' : List Addr} {H H' : L2.Hp} {σp : PSt} {σ : L2.St} (h : RSt ρ H σp σ) (e : Ext ρ H ρ' H') : RSt ρ' H' σp σ :=
  ⟨h.len, fun i p hp => let ⟨v, h1, h2⟩ := h.get i p hp; ⟨v, h1, h2.mono e⟩⟩
theorem RSt.set {ρ : List Addr} {H : L2.Hp} {σp : PSt} {σ : L2.St} (h : RSt ρ H σp σ) (i : Nat) {x : PV} {v : L2.V} (r : RV ρ H x v) : RSt ρ H (σp.set i (some x)) (σ.set i (some v)) := by
  refine ⟨by simp [h.len], fun j p hp => ?_⟩
  by_cases hij : i = j
  · subst hij
    by_cases hl : i < σp.length
    · rw [List.getElem?_set] at hp
      simp [hl] at hp
      subst hp
      exact ⟨v, by rw [List.getElem?_set]; simp [h.len, hl], r⟩
    · rw [List.getElem?_eq_none (by simp; omega)] at hp; cases hp
  · rw [List.getElem?_set_ne hij] at hp ⊢
    exact h.get j p hp
section
variable (K : PySem.W.Frag) (cm : Nat → Addr)
noncomputable def EvE (d : ED) : L2.TE := fun σ H Q => ∃ (ρ : List Addr) (A : PHp) (σp : PSt) (v : PV) (A' : PHp), Rel K cm ρ A H ∧ RSt ρ H σp σ ∧ d σp A = .ok v A' ∧
  ∀ ρ' H' v', Ext ρ H ρ' H' → Rel K cm ρ' A' H' → RV ρ' H' v v' → Q v' H'
noncomputable def EvT (d : TD) : L2.TT := fun σ H Q => ∃ (ρ : List Addr) (A : PHp) (σp : PSt) (b : Bool) (A' : PHp), Rel K cm ρ A H ∧ RSt ρ H σp σ ∧ d σp A = .ok b A' ∧
  ∀ ρ' H', Ext ρ H ρ' H' → Rel K cm ρ' A' H' → Q b H'
noncomputable def EvA (d : AD) : L2.TA := fun σ H Q => ∃ (ρ : List Addr) (A : PHp) (σp : PSt) (vs : List PV) (A' : PHp), Rel K cm ρ A H ∧ RSt ρ H σp σ ∧ d σp A = .ok vs A' ∧
  ∀ ρ' H' vs', Ext ρ H ρ' H' → Rel K cm ρ' A' H' → RVs ρ' H' vs vs' → Q vs' H'
noncomputable def EvG (g : GD) : L2.TG := fun v σ H Q => ∃ (ρ : List Addr) (A : PHp) (σp : PSt) (x : PV) (σp' : PSt) (A' : PHp), Rel K cm ρ A H ∧ RSt ρ H σp σ ∧ RV ρ H x v ∧ g x σp A = .ok σp' A' ∧
  ∀ ρ' H' σ', Ext ρ H ρ' H' → Rel K cm ρ' A' H' → RSt ρ' H' σp' σ' → Q σ' H'
noncomputable def EvGs (g : GDs) : L2.TGs := fun vs σ H Q => ∃ (ρ : List Addr) (A : PHp) (σp : PSt) (xs : List PV) (σp' : PSt) (A' : PHp), Rel K cm ρ A H ∧ RSt ρ H σp σ ∧ RVs ρ H xs vs ∧ g xs σp A = .ok σp' A' ∧
  ∀ ρ' H' σ', Ext ρ H ρ' H' → Rel K cm ρ' A' H' → RSt ρ' H' σp' σ' → Q σ' H'
noncomputable def Post (D : L2.Ends) (ρ : List Addr) (H : L2.Hp) : Fl → Prop
  | .nx σp => ∀ σ, RSt ρ H σp σ → D.nx σ H
  | .bk σp => ∀ σ, RSt ρ H σp σ → D.bk σ H
  | .ct σp => ∀ σ, RSt ρ H σp σ → D.ct σ H
  | .rt v => ∀ v', RV ρ H v v' → D.rt v' H
noncomputable def EvS (s : SD) : L2.TS := fun D σ H => ∃ (ρ : List Addr) (A : PHp) (σp : PSt) (f : Fl) (A' : PHp), Rel K cm ρ A H ∧ RSt ρ H σp σ ∧ s σp A = .ok f A' ∧
  ∀ ρ' H', Ext ρ H ρ' H' → Rel K cm ρ' A' H' → Post D ρ' H' f
end
section
variable {X : L2.Cx} {cm : Nat → Addr}
theorem PE_imp {e : Expr} {t t' : L2.TE} (h : L2.PE X e t) (k : ∀ σ H Q, t' σ H Q → t σ H Q) : L2.PE X e t' := fun pins s σ H Q I q => h pins s σ H Q I (k σ H Q q)
theorem PT_imp {e : Expr} {t t' : L2.TT} (h : L2.PT X e t) (k : ∀ σ H Q, t' σ H Q → t σ H Q) : L2.PT X e t' := fun pins s σ H Q I q => h pins s σ H Q I (k σ H Q q)
theorem PW_imp {e : Expr} {t t' : L2.TT} (h : L2.PW X e t) (k : ∀ σ H Q, t' σ H Q → t σ H Q) : L2.PW X e t' := fun w pins s σ H Q I q => h w pins s σ H Q I (k σ H Q q)
theorem PA_imp {es : List Expr} {t t' : L2.TA} (h : L2.PA X es t) (k : ∀ σ H Q, t' σ H Q → t σ H Q) : L2.PA X es t' := fun pos pins s σ H Q I q => h pos pins s σ H Q I (k σ H Q q)
theorem PS_imp {st : Stmt} {t t' : L2.TS} (h : L2.PS X st t) (k : ∀ D σ H, t' D σ H → t D σ H) : L2.PS X st t' := fun pins s σ H D I q => h pins s σ H D I (k D σ H q)
theorem PSs_imp {st : List Stmt} {t t' : L2.TS} (h : L2.PSs X st t) (k : ∀ D σ H, t' D σ H → t D σ H) : L2.PSs X st t' := fun pins s σ H D I q => h pins s σ H D I (k D σ H q)
theorem PG_imp {e : Expr} {t t' : L2.TG} (h : L2.PG X e t) (k : ∀ v σ H Q, t' v σ H Q → t v σ H Q) : L2.PG X e t' := fun pins s σ H v u Q I r q => h pins s σ H v u Q I r (k v σ H Q q)
theorem PGs_imp {es : List Expr} {t t' : L2.TGs} (h : L2.PGs X es t) (k : ∀ v σ H Q, t' v σ H Q → t v σ H Q) : L2.PGs X es t' := fun pins s σ H vs us Q I r q => h pins s σ H vs us Q I r (k vs σ H Q q)
theorem r_var {i : Nat} {e : Expr} (h : L2.PE X e (L2.tVar i)) : L2.PE X e (EvE X.K cm (eVar i)) := PE_imp h fun σ H Q ⟨ρ, A, σp, v, A', r, rs, ev, k⟩ => by
  have : ∃ p, σp[i]? = some (some p) ∧ v = p ∧ A' = A := by
    unfold eVar at ev
    rcases hσ : σp[i]? with _ | (_ | p)
    · rw [hσ] at ev; cases ev
    · rw [hσ] at ev; cases ev
    · rw [hσ] at ev; cases ev; exact ⟨_, rfl, rfl, rfl⟩
  obtain ⟨p, hp, rfl, rfl⟩ := this
  obtain ⟨u, h1, h2⟩ := rs.get i _ hp
  exact ⟨u, h1, k ρ H u (Ext.refl _ _) r h2⟩
theorem r_k {e : Expr} {x : PV} {u : L2.V} (h : L2.PE X e (L2.tC u)) (rv : ∀ ρ H, RV ρ H x u) : L2.PE X e (EvE X.K cm (eK x)) := PE_imp h fun σ H Q ⟨ρ, A, σp, v, A', r, rs, ev, k⟩ => by
  cases ev
  exact k ρ H u (Ext.refl _ _) r (rv ρ H)
theorem r_int {i : Int} {j pos} : L2.PE X (.Constant (.int i) j pos) (EvE X.K cm (eK (.int i))) := r_k L2.pe_int fun _ _ => .int i
theorem r_bl {b : Bool} {j pos} : L2.PE X (.Constant (.bool b) j pos) (EvE X.K cm (eK (.bl b))) := r_k L2.pe_bl fun _ _ => .bl b
theorem r_non {j pos} : L2.PE X (.Constant .none j pos) (EvE X.K cm (eK .non)) := r_k L2.pe_non fun _ _ => .non
noncomputable def OkOp (K : PySem.W.Frag) (cm : Nat → Addr) (f : OD) (r : L2.R2) : Prop := ∀ ρ A H x y z A' vx vy (Q : L2.VK), Rel K cm ρ A H → RV ρ H x vx → RV ρ H y vy → f x y A = .ok z A' →
  (∀ ρ' H' v', Ext ρ H ρ' H' → Rel K cm ρ' A' H' → RV ρ' H' z v' → Q v' H') → r vx vy H Q
theorem ev_bin {f : OD} {r : L2.R2} {a b : ED} (hf : OkOp X.K cm f r) {σ : L2.St} {H : L2.Hp} {Q : L2.VK} (h : EvE X.K cm (eBin f a b) σ H Q) : L2.tOp r (EvE X.K cm a) (EvE X.K cm b) σ H Q := by
  obtain ⟨ρ, A, σp, z, A', rl, rs, ev, k⟩ := h
  obtain ⟨x, A1, e1, ev⟩ := bnd_inv ev
  obtain ⟨y, A2, e2, ev⟩ := bnd_inv ev
  exact ⟨ρ, A, σp, x, A1, rl, rs, e1, fun ρ1 H1 vx x1 rl1 rv1 => ⟨ρ1, A1, σp, y, A2, rl1, rs.mono x1, e2, fun ρ2 H2 vy x2 rl2 rv2 => hf ρ2 A2 H2 x y z A' vx vy Q rl2 (rv1.mono x2) rv2 ev fun ρ3 H3 v3 x3 rl3 rv3 => k ρ3 H3 v3 ((x1.trans x2).trans x3) rl3 rv3⟩⟩
theorem r_bin {op : Operator} {f : OD} {r : L2.R2} {a b : Expr} {da db : ED} {pos : Pos} (ho : L2.OpR X (binaryOp op) r) (hf : OkOp X.K cm f r) (ha : L2.PE X a (EvE X.K cm da)) (hb : L2.PE X b (EvE X.K cm db)) : L2.PE X (.BinOp a op b pos) (EvE X.K cm (eBin f da db)) :=
  PE_imp (L2.pe_op ho ha hb) fun σ H Q h => ev_bin hf h
theorem r_cmp {op : CmpOp} {f : OD} {r : L2.R2} {a b : Expr} {da db : ED} {pos : Pos} (ho : L2.OpR X (compareOp op) r) (hf : OkOp X.K cm f r) (ha : L2.PE X a (EvE X.K cm da)) (hb : L2.PE X b (EvE X.K cm db)) (hm : behindInMarks op b = false) : L2.PE X (.Compare a [op] [b] pos) (EvE X.K cm (eBin f da db)) :=
  PE_imp (L2.pe_cmpR ho ha hb hm) fun σ H Q h => ev_bin hf h
theorem ev_tval {d : ED} {t : L2.TE} (h : ∀ σ H Q, EvE X.K cm d σ H Q → t σ H Q) {σ : L2.St} {H : L2.Hp} {Q : Bool → L2.Hp → Prop} (q : EvT X.K cm (tVal d) σ H Q) : L2.tTest t σ H Q := by
  obtain ⟨ρ, A, σp, b, A', rl, rs, ev, k⟩ := q
  obtain ⟨x, A1, e1, ev⟩ := bnd_inv ev
  refine h σ H _ ⟨ρ, A, σp, x, A1, rl, rs, e1, fun ρ1 H1 v1 x1 rl1 rv1 => ?_⟩
  cases x with
  | bl c =>
    cases ev
    cases rv1
    exact ⟨_, rfl, k ρ1 H1 x1 rl1⟩
  | _ => cases ev
theorem r_tcmp {op : CmpOp} {f : OD} {r : L2.R2} {a b : Expr} {da db : ED} {pos : Pos} (ho : L2.OpR X (compareOp op) r) (hf : OkOp X.K cm f r) (ha : L2.PE X a (EvE X.K cm da)) (hb : L2.PE X b (EvE X.K cm db)) (hm : behindInMarks op b = false) : L2.PT X (.Compare a [op] [b] pos) (EvT X.K cm (tVal (eBin f da db))) :=
  PT_imp (L2.pt_cmpR ho ha hb hm) fun σ H Q h => ev_tval (fun _ _ _ => ev_bin hf) h
theorem r_tval {e : Expr} {d : ED} (h : L2.PE X e (EvE X.K cm d)) (he : ∀ whole, isTrue e X.env whole = (do let v ← whole; standAt e.pos; holding [v] (truthy v)) := by intro _; rfl) : L2.PT X e (EvT X.K cm (tVal d)) :=
  PT_imp (L2.pt_val h he) fun σ H Q q => ev_tval (fun _ _ _ z => z) q
theorem okI {f : OD} {g : Int → Int → PV} {g' : Int → Int → L2.V} {C : Int → Int → Prop} (h : ∀ x y A z A', f x y A = .ok z A' → ∃ i j, x = .int i ∧ y = .int j ∧ C i j ∧ z = g i j ∧ A' = A) (hg : ∀ ρ H i j, RV ρ H (g i j) (g' i j)) (K : PySem.W.Frag) (cm : Nat → Addr) : OkOp K cm f (L2.rI C g') :=
  fun ρ A H x y z A' vx vy Q rl rx ry ev k => by
    obtain ⟨i, j, rfl, rfl, hc, rfl, rfl⟩ := h _ _ _ _ _ ev
    cases rx; cases ry
    exact ⟨i, j, rfl, rfl, hc, k ρ H _ (Ext.refl _ _) rl (hg _ _ _ _)⟩
theorem okI0 {f : OD} {g : Int → Int → PV} {g' : Int → Int → L2.V} (h : ∀ x y A z A', f x y A = .ok z A' → ∃ i j, x = .int i ∧ y = .int j ∧ z = g i j ∧ A' = A) (hg : ∀ ρ H i j, RV ρ H (g i j) (g' i j)) (K : PySem.W.Frag) (cm : Nat → Addr) : OkOp K cm f (L2.rI0 g') :=
  fun ρ A H x y z A' vx vy Q rl rx ry ev k => by
    obtain ⟨i, j, rfl, rfl, rfl, rfl⟩ := h _ _ _ _ _ ev
    cases rx; cases ry
    exact ⟨i, j, rfl, rfl, k ρ H _ (Ext.refl _ _) rl (hg _ _ _ _)⟩
theorem ok_sub : OkOp X.K cm oSub (L2.rI0 fun i j => .int (i - j)) := okI0 (g := fun i j => .int (i - j)) (fun x y A z A' h => by cases x <;> cases y <;> first | (cases h; exact ⟨_, _, rfl, rfl, rfl, rfl⟩) | cases h) (fun _ _ _ _ => .int _) _ _
theorem ok_lt : OkOp X.K cm oLt (L2.rI0 fun i j => .bl (decide (i < j))) := okI0 (g := fun i j => .bl (decide (i < j))) (fun x y A z A' h => by cases x <;> cases y <;> first | (cases h; exact ⟨_, _, rfl, rfl, rfl, rfl⟩) | cases h) (fun _ _ _ _ => .bl _) _ _
theorem ok_le : OkOp X.K cm oLe (L2.rI0 fun i j => .bl (decide (i ≤ j))) := okI0 (g := fun i j => .bl (decide (i ≤ j))) (fun x y A z A' h => by cases x <;> cases y <;> first | (cases h; exact ⟨_, _, rfl, rfl, rfl, rfl⟩) | cases h) (fun _ _ _ _ => .bl _) _ _
theorem ok_gt : OkOp X.K cm oGt (L2.rI0 fun i j => .bl (decide (j < i))) := okI0 (g := fun i j => .bl (decide (j < i))) (fun x y A z A' h => by cases x <;> cases y <;> first | (cases h; exact ⟨_, _, rfl, rfl, rfl, rfl⟩) | cases h) (fun _ _ _ _ => .bl _) _ _
theorem ok_mod : OkOp X.K cm oMod (L2.rI (fun _ j => 0 < j) fun i j => .int (i % j)) := okI (g := fun i j => .int (i % j)) (fun x y A z A' h => by
  cases x <;> cases y <;> first | (obtain ⟨c, h⟩ := guard_inv h; cases h; exact ⟨_, _, rfl, rfl, c, rfl, rfl⟩) | cases h) (fun _ _ _ _ => .int _) _ _
theorem ok_fdiv : OkOp X.K cm oFdiv (L2.rI L2.CDiv fun i j => .int (i / j)) := okI (g := fun i j => .int (i / j)) (fun x y A z A' h => by
  cases x <;> cases y <;> first | (obtain ⟨c, h⟩ := guard_inv h; cases h; exact ⟨_, _, rfl, rfl, c, rfl, rfl⟩) | cases h) (fun _ _ _ _ => .int _) _ _
theorem ok_mul : OkOp X.K cm oMul (L2.rI L2.CMul fun i j => .int (i * j)) := okI (g := fun i j => .int (i * j)) (fun x y A z A' h => by
  cases x <;> cases y <;> first | (obtain ⟨c, h⟩ := guard_inv h; cases h; exact ⟨_, _, rfl, rfl, c, rfl, rfl⟩) | cases h) (fun _ _ _ _ => .int _) _ _
end
end Ws
namespace Ws
open PySem
section
variable {K : PySem.W.Frag} {ρ : List Addr} {H : L2.Hp} {A : PHp} {n : Nat} {v : L2.V} {l : List PV}
theorem lst_read {cm : Nat → Addr} {A' : PHp} (rl : Rel K cm ρ A H) (r : RV ρ H (.ref n) v) (h : lstAt n A = .ok l A') : A' = A ∧ ∃ a xs, v = .ref a ∧ L2.SqL K H a xs ∧ RVs ρ H l xs := by
  cases r with
  | ref hn =>
    unfold lstAt at h
    rcases hA : A[n]? with _ | o
    · rw [hA] at h; cases h
    · have q := rl.obj n o _ hA hn
      cases o with
      | lst m => rw [hA] at h; cases h; obtain ⟨xs, h1, h2⟩ := q; exact ⟨rfl, _, xs, rfl, L2.SqL.of h1, h2⟩
      | ro m => rw [hA] at h; cases h; obtain ⟨xs, h1, h2⟩ := q; exact ⟨rfl, _, xs, rfl, h1.sq, h2⟩
      | dI m => rw [hA] at h; cases h
      | ins c m => rw [hA] at h; cases h
      | dT m => rw [hA] at h; cases h
      | exc c m => rw [hA] at h; cases h
theorem mut_read {cm : Nat → Addr} {A' : PHp} (rl : Rel K cm ρ A H) (r : RV ρ H (.ref n) v) (h : mutAt n A = .ok l A') : A' = A ∧ A[n]? = some (.lst l) ∧ ∃ a xs, v = .ref a ∧ ρ[n]? = some a ∧ H a = some (.lst xs) ∧ RVs ρ H l xs := by
  cases r with
  | ref hn =>
    unfold mutAt at h
    rcases hA : A[n]? with _ | o
    · rw [hA] at h; cases h
    · have q := rl.obj n o _ hA hn
      cases o with
      | lst m => rw [hA] at h; cases h; obtain ⟨xs, h1, h2⟩ := q; exact ⟨rfl, rfl, _, xs, rfl, hn, h1, h2⟩
      | ro m => rw [hA] at h; cases h
      | dI m => rw [hA] at h; cases h
      | ins c m => rw [hA] at h; cases h
      | dT m => rw [hA] at h; cases h
      | exc c m => rw [hA] at h; cases h
theorem ins_lt {cm : Nat → Addr} {c : Nat} {fs : List (Nat × PV)} {a : Addr} (rl : Rel K cm ρ A H) (hA : A[n]? = some (.ins c fs)) (hn : ρ[n]? = some a) : c < 7 := (rl.obj n _ _ hA hn).1.1
theorem ins_read {cm : Nat → Addr} {A' : PHp} {o : Nat × List (Nat × PV)} (rl : Rel K cm ρ A H) (r : RV ρ H (.ref n) v) (h : insAt n A = .ok o A') : A' = A ∧ A[n]? = some (.ins o.1 o.2) ∧ ∃ a dx kv, v = .ref a ∧ ρ[n]? = some a ∧ H a = some (.ins (cm o.1) dx kv) ∧ Pairs fnm ρ H o.2 kv ∧ ∀ p ∈ o.2, p.1 < 19 := by
  cases r with
  | ref hn =>
    unfold insAt at h
    rcases hA : A[n]? with _ | o
    · rw [hA] at h; cases h
    · have q := rl.obj n o _ hA hn
      cases o with
      | lst m => rw [hA] at h; cases h
      | ro m => rw [hA] at h; cases h
      | dI m => rw [hA] at h; cases h
      | ins c m => rw [hA] at h; cases h; obtain ⟨hs, dx, kv, h1, h2⟩ := q; exact ⟨rfl, rfl, _, dx, kv, rfl, hn, h1, h2, hs.2⟩
      | dT m => rw [hA] at h; cases h
      | exc c m => rw [hA] at h; cases h
theorem seq_read {cm : Nat → Addr} {x : PV} {A' : PHp} (rl : Rel K cm ρ A H) (r : RV ρ H x v) (h : seqOf x A = .ok l A') : A' = A ∧ ∃ a xs, v = .ref a ∧ (L2.SqL K H a xs ∨ L2.SqT K H a xs) ∧ RVs ρ H l xs := by
  cases x with
  | ref n =>
    obtain ⟨e, a, xs, h1, h2, h3⟩ := lst_read rl r h
    exact ⟨e, a, xs, h1, .inl h2, h3⟩
  | tup m =>
    cases h
    cases r with
    | tup h1 h2 => exact ⟨rfl, _, _, rfl, .inr (L2.SqT.of h1), h2⟩
  | _ => cases h
theorem atI_eq {α : Type} (xs : List α) (i : Int) : L2.atI xs i = atI xs i := rfl
theorem RVs.at {xs : List L2.V} {i : Int} {x : PV} (r : RVs ρ H l xs) (h : atI l i = some x) : ∃ u, L2.atI xs i = some u ∧ RV ρ H x u := by
  rw [atI_eq]
  unfold atI at h ⊢
  rw [← r.length]
  rcases e : ixN l.length i with _ | j
  · rw [e] at h; cases h
  · rw [e] at h
    obtain ⟨u, h1, h2⟩ := r.get (i := j) h
    exact ⟨u, h1, h2⟩
theorem cutIx_eq (n d : Nat) (o : Option Int) : HT.sIx n d o = cutIx n d o := by
  cases o with
  | none => rfl
  | some v =>
    have e := HT.clip_eq v n d
    show HT.sIx n d (some v) = if v < 0 then (max (v + n) 0).toNat else (min v n).toNat
    by_cases h : v < 0
    · rw [if_pos h] at e ⊢; omega
    · rw [if_neg h] at e ⊢; omega
theorem RVs.slc {xs : List L2.V} (r : RVs ρ H l xs) (lo hi : Option Int) : RVs ρ H (cut l lo hi) (L2.cutV xs lo hi) := by
  unfold cut L2.cutV
  rw [cutIx_eq, cutIx_eq, ← r.length]
  exact (r.drop _).take _
end
theorem LIM_line {n : Nat} (h : n ≤ LIM) : n ≤ sizeLine := Nat.le_trans h (by unfold LIM; rw [sizeLine_eq]; decide)
theorem LIM_lt {n : Nat} (h : n < LIM) : n < sizeLine := Nat.lt_of_lt_of_le h (by unfold LIM; rw [sizeLine_eq]; decide)
section
variable {X : L2.Cx} {cm : Nat → Addr}
noncomputable def rAdd3 (K : PySem.W.Frag) : L2.R2 := fun x y H Q => (∃ i j, x = .int i ∧ y = .int j ∧ Q (.int (i + j)) H) ∨ (L2.rCatT K x y H Q ∨ L2.rCat x y H Q)
theorem op_add3 : L2.OpR X (binaryOp .Add) (rAdd3 X.K) := L2.op_add.or (L2.op_catT.or L2.op_cat)
theorem ok_add : OkOp X.K cm oAdd (rAdd3 X.K) := fun ρ A H x y z A' vx vy Q rl rx ry ev k => by
  cases x with
  | int i =>
    cases y with
    | int j => cases ev; cases rx; cases ry; exact .inl ⟨i, j, rfl, rfl, k ρ H _ (Ext.refl _ _) rl (.int _)⟩
    | _ => cases ev
  | tup l =>
    cases y with
    | tup m =>
      obtain ⟨c, ev⟩ := guard_inv ev
      cases ev
      cases rx with
      | tup h1 r1 =>
        cases ry with
        | tup h2 r2 =>
          refine .inr (.inl ⟨_, _, _, _, rfl, rfl, L2.SqT.of h1, L2.SqT.of h2, ?_, ?_, ?_⟩)
          · intro e; subst e; have := r1.length; exact c.1 (List.length_eq_zero_iff.mp (by simpa using this))
          · rw [← r1.length, ← r2.length]; exact LIM_line c.2
          · refine ⟨fun z => ?_, fun _ p hp => ?_⟩
            · subst z
              cases r2
              refine k ρ H _ (Ext.refl _ _) rl ?_
              rw [List.append_nil]; exact .tup h1 r1
            · refine k ρ _ _ (Ext.same hp) (rl.tup hp) (.tup L2.upd_same ?_)
              exact (r1.mono (Ext.same hp)).append (r2.mono (Ext.same hp))
    | _ => cases ev
  | ref n =>
    cases y with
    | ref m =>
      obtain ⟨l1, A1, e1, ev1⟩ := bnd_inv ev
      obtain ⟨rfl, _, a, xs, rfl, _, ha, r1⟩ := mut_read rl rx e1
      obtain ⟨l2, A2, e2, ev2⟩ := bnd_inv ev1
      obtain ⟨rfl, _, b, ys, rfl, _, hb, r2⟩ := mut_read rl ry e2
      obtain ⟨c, ev3⟩ := guard_inv ev2
      cases ev3
      refine .inr (.inr ⟨a, b, xs, ys, rfl, rfl, ha, hb, ?_, fun p hp => ?_⟩)
      · rw [← r1.length, ← r2.length]; exact LIM_line c
      · have e : Ext ρ H (ρ ++ [p]) (L2.upd H p (.lst (xs ++ ys))) := Ext.new hp
        exact k (ρ ++ [p]) _ _ e (rl.alloc hp ⟨_, L2.upd_same, (r1.mono e).append (r2.mono e)⟩ rfl) (.ref (by rw [← rl.len]; simp))
    | _ => cases ev
  | _ => cases y <;> cases ev
noncomputable def rIx2 (K : PySem.W.Frag) : L2.R2 := fun x y H Q => L2.rIxL K x y H Q ∨ L2.rIxT K x y H Q
theorem ix2 : L2.IxR X (rIx2 X.K) := L2.ix_list.or L2.ix_tup
theorem ok_ix : OkOp X.K cm oIx (rIx2 X.K) := fun ρ A H x y z A' vx vy Q rl rx ry ev k => by
  cases y with
  | int i =>
    obtain ⟨l, A1, e1, ev1⟩ := bnd_inv ev
    obtain ⟨rfl, a, xs, rfl, hs, rs⟩ := seq_read rl rx e1
    rcases hi : atI l i with _ | u
    · rw [hi] at ev1; cases ev1
    · rw [hi] at ev1
      cases ev1
      cases ry
      obtain ⟨w, hw, rw'⟩ := rs.at hi
      rcases hs with hs | hs
      · exact .inl ⟨a, xs, i, w, rfl, rfl, hs, hw, k ρ H w (Ext.refl _ _) rl rw'⟩
      · exact .inr ⟨a, xs, i, w, rfl, rfl, hs, hw, k ρ H w (Ext.refl _ _) rl rw'⟩
  | _ => cases ev
theorem r_ix {a b : Expr} {da db : ED} {pos : Pos} (ha : L2.PE X a (EvE X.K cm da)) (hb : L2.PE X b (EvE X.K cm db)) (hs : L2.PlainIx b) : L2.PE X (.Subscript a b pos) (EvE X.K cm (eBin oIx da db)) :=
  PE_imp (L2.pe_ix ix2 ha hb hs) fun σ H Q h => ev_bin ok_ix h
theorem isNon_of {ρ : List Addr} {H : L2.Hp} {x : PV} {v : L2.V} (r : RV ρ H x v) : decide (v = .non) = isNon x := by
  cases r <;> simp [isNon]
theorem r_notN {a : Expr} {da : ED} {j : Nat} {pos pos' : Pos} (ha : L2.PE X a (EvE X.K cm da)) : L2.PE X (.Compare a [.IsNot] [.Constant .none j pos'] pos) (EvE X.K cm (eNotN da)) :=
  PE_imp (L2.pe_cmp (L2.pc_notN ha)) fun σ H Q ⟨ρ, A, σp, v, A', rl, rs, ev, k⟩ => by
    obtain ⟨x, A1, e1, ev⟩ := bnd_inv ev
    cases ev
    exact ⟨ρ, A, σp, x, A', rl, rs, e1, fun ρ1 H1 v1 x1 rl1 rv1 => k ρ1 H1 _ x1 rl1 (by rw [isNon_of rv1]; exact .bl _)⟩
theorem r_tisN {a : Expr} {da : ED} {j : Nat} {pos pos' : Pos} (ha : L2.PE X a (EvE X.K cm da)) : L2.PT X (.Compare a [.Is] [.Constant .none j pos'] pos) (EvT X.K cm (tVal (eIsN da))) :=
  PT_imp (L2.pt_cmp (L2.pc_isN ha)) fun σ H Q q => ev_tval (t := L2.tIsN (EvE X.K cm da)) (fun σ H Q ⟨ρ, A, σp, v, A', rl, rs, ev, k⟩ => by
    obtain ⟨x, A1, e1, ev⟩ := bnd_inv ev
    cases ev
    exact ⟨ρ, A, σp, x, A', rl, rs, e1, fun ρ1 H1 v1 x1 rl1 rv1 => k ρ1 H1 _ x1 rl1 (by rw [isNon_of rv1]; exact .bl _)⟩) q
theorem r_tnotN {a : Expr} {da : ED} {j : Nat} {pos pos' : Pos} (ha : L2.PE X a (EvE X.K cm da)) : L2.PT X (.Compare a [.IsNot] [.Constant .none j pos'] pos) (EvT X.K cm (tVal (eNotN da))) :=
  PT_imp (L2.pt_cmp (L2.pc_notN ha)) fun σ H Q q => ev_tval (t := L2.tNotN (EvE X.K cm da)) (fun σ H Q ⟨ρ, A, σp, v, A', rl, rs, ev, k⟩ => by
    obtain ⟨x, A1, e1, ev⟩ := bnd_inv ev
    cases ev
    exact ⟨ρ, A, σp, x, A', rl, rs, e1, fun ρ1 H1 v1 x1 rl1 rv1 => k ρ1 H1 _ x1 rl1 (by rw [isNon_of rv1]; exact .bl _)⟩) q
theorem ev_chain {f g : OD} {r r' : L2.R2} {a b c : ED} (hf : OkOp X.K cm f r) (hg : OkOp X.K cm g r') {σ : L2.St} {H : L2.Hp} {Q : L2.VK} (h : EvE X.K cm (eChain f g a b c) σ H Q) : L2.tChain r r' (EvE X.K cm a) (EvE X.K cm b) (EvE X.K cm c) σ H Q := by
  obtain ⟨ρ, A, σp, z, A', rl, rs, ev, k⟩ := h
  obtain ⟨x, A1, e1, ev⟩ := bnd_inv ev
  obtain ⟨y, A2, e2, ev⟩ := bnd_inv ev
  obtain ⟨m, A3, e3, ev⟩ := bnd_inv ev
  refine ⟨ρ, A, σp, x, A1, rl, rs, e1, fun ρ1 H1 vx x1 rl1 rv1 => ⟨ρ1, A1, σp, y, A2, rl1, rs.mono x1, e2, fun ρ2 H2 vy x2 rl2 rv2 => hf ρ2 A2 H2 x y m A3 vx vy _ rl2 (rv1.mono x2) rv2 e3 fun ρ3 H3 v3 x3 rl3 rv3 => ?_⟩⟩
  have x13 := (x1.trans x2).trans x3
  cases m with
  | bl t =>
    cases rv3
    refine ⟨t, rfl, ?_⟩
    cases t with
    | true =>
      rw [if_pos rfl]
      obtain ⟨u, A4, e4, ev⟩ := bnd_inv ev
      exact ⟨ρ3, A3, σp, u, A4, rl3, rs.mono x13, e4, fun ρ4 H4 v4 x4 rl4 rv4 => hg ρ4 A4 H4 y u z A' vy v4 Q rl4 ((rv2.mono x3).mono x4) rv4 ev fun ρ5 H5 v5 x5 rl5 rv5 => k ρ5 H5 v5 ((x13.trans x4).trans x5) rl5 rv5⟩
    | false =>
      rw [if_neg (by simp)]
      cases ev
      exact k ρ3 H3 _ x13 rl3 (.bl false)
  | _ => cases ev
theorem r_chain {op op' : CmpOp} {f g : OD} {r r' : L2.R2} {a b c : Expr} {da db dc : ED} {pos : Pos} (ho : L2.OpR X (compareOp op) r) (hf : OkOp X.K cm f r) (ho' : L2.OpR X (compareOp op') r') (hg : OkOp X.K cm g r')
    (ha : L2.PE X a (EvE X.K cm da)) (hb : L2.PE X b (EvE X.K cm db)) (hc : L2.PE X c (EvE X.K cm dc)) (hm : lastMarks [op, op'] [b, c] = false := by with_unfolding_all rfl) : L2.PE X (.Compare a [op, op'] [b, c] pos) (EvE X.K cm (eChain f g da db dc)) :=
  PE_imp (L2.pe_chain ho ho' ha hb hc hm) fun σ H Q h => ev_chain hf hg h
theorem r_tnot {a : Expr} {t : TD} {pos : Pos} (h : L2.PT X a (EvT X.K cm t)) : L2.PT X (.UnaryOp .Not a pos) (EvT X.K cm (tNot t)) := PT_imp (L2.pt_not h) fun σ H Q ⟨ρ, A, σp, b, A', rl, rs, ev, k⟩ => by
  obtain ⟨c, A1, e1, ev⟩ := bnd_inv ev
  cases ev
  exact ⟨ρ, A, σp, c, A', rl, rs, e1, fun ρ1 H1 x1 rl1 => k ρ1 H1 x1 rl1⟩
theorem r_tand1 {a : Expr} {t : TD} {pos : Pos} (h : L2.PT X a (EvT X.K cm t)) : L2.PW X (.BoolOp .And [a] pos) (EvT X.K cm t) := L2.pw_and1 h
theorem r_tor1 {a : Expr} {t : TD} {pos : Pos} (h : L2.PT X a (EvT X.K cm t)) : L2.PW X (.BoolOp .Or [a] pos) (EvT X.K cm t) := L2.pw_or1 h
theorem r_tand {a b : Expr} {rest : List Expr} {t u : TD} {pos : Pos} (ha : L2.PT X a (EvT X.K cm t)) (hb : L2.PW X (.BoolOp .And (b :: rest) pos) (EvT X.K cm u)) : L2.PW X (.BoolOp .And (a :: b :: rest) pos) (EvT X.K cm (tAnd t u)) :=
  PW_imp (L2.pw_and ha hb) fun σ H Q ⟨ρ, A, σp, z, A', rl, rs, ev, k⟩ => by
    obtain ⟨c, A1, e1, ev⟩ := bnd_inv ev
    refine ⟨ρ, A, σp, c, A1, rl, rs, e1, fun ρ1 H1 x1 rl1 => ?_⟩
    cases c with
    | true => rw [if_pos rfl] at ev ⊢; exact ⟨ρ1, A1, σp, z, A', rl1, rs.mono x1, ev, fun ρ2 H2 x2 rl2 => k ρ2 H2 (x1.trans x2) rl2⟩
    | false => rw [if_neg (by simp)] at ev ⊢; cases ev; exact k ρ1 H1 x1 rl1
theorem r_tor {a b : Expr} {rest : List Expr} {t u : TD} {pos : Pos} (ha : L2.PT X a (EvT X.K cm t)) (hb : L2.PW X (.BoolOp .Or (b :: rest) pos) (EvT X.K cm u)) : L2.PW X (.BoolOp .Or (a :: b :: rest) pos) (EvT X.K cm (tOr t u)) :=
  PW_imp (L2.pw_or ha hb) fun σ H Q ⟨ρ, A, σp, z, A', rl, rs, ev, k⟩ => by
    obtain ⟨c, A1, e1, ev⟩ := bnd_inv ev
    refine ⟨ρ, A, σp, c, A1, rl, rs, e1, fun ρ1 H1 x1 rl1 => ?_⟩
    cases c with
    | true => rw [if_pos rfl] at ev ⊢; cases ev; exact k ρ1 H1 x1 rl1
    | false => rw [if_neg (by simp)] at ev ⊢; exact ⟨ρ1, A1, σp, z, A', rl1, rs.mono x1, ev, fun ρ2 H2 x2 rl2 => k ρ2 H2 (x1.trans x2) rl2⟩
theorem asB_inv {x : PV} {A A' : PHp} {c : Bool} (h : asB x A = .ok c A') : x = .bl c ∧ A' = A := by
  cases x with
  | bl b => cases h; exact ⟨rfl, rfl⟩
  | _ => cases h
theorem r_and1 {a : Expr} {d : ED} {pos : Pos} (h : L2.PE X a (EvE X.K cm d)) : L2.PE X (.BoolOp .And [a] pos) (EvE X.K cm d) := L2.pe_one h
theorem r_and {a b : Expr} {rest : List Expr} {d u : ED} {pos : Pos} (ha : L2.PE X a (EvE X.K cm d)) (hb : L2.PE X (.BoolOp .And (b :: rest) pos) (EvE X.K cm u)) : L2.PE X (.BoolOp .And (a :: b :: rest) pos) (EvE X.K cm (eAnd d u)) :=
  PE_imp (L2.pe_and ha hb) fun σ H Q ⟨ρ, A, σp, z, A', rl, rs, ev, k⟩ => by
    obtain ⟨c, A1, e1, ev⟩ := bnd_inv ev
    obtain ⟨x, A0, e0, e1⟩ := bnd_inv e1
    obtain ⟨rfl, rfl⟩ := asB_inv e1
    refine ⟨ρ, A, σp, _, _, rl, rs, e0, fun ρ1 H1 v1 x1 rl1 rv1 => ?_⟩
    cases rv1
    refine ⟨c, rfl, ?_⟩
    cases c with
    | true => rw [if_pos rfl] at ev ⊢; exact ⟨ρ1, _, σp, z, A', rl1, rs.mono x1, ev, fun ρ2 H2 v2 x2 rl2 => k ρ2 H2 v2 (x1.trans x2) rl2⟩
    | false => rw [if_neg (by simp)] at ev ⊢; cases ev; exact k ρ1 H1 _ x1 rl1 (.bl false)
theorem r_not {a : Expr} {d : ED} {pos : Pos} (ha : L2.PE X a (EvE X.K cm d)) : L2.PE X (.UnaryOp .Not a pos) (EvE X.K cm (eNot d)) :=
  PE_imp (L2.pe_not ha) fun σ H Q ⟨ρ, A, σp, z, A', rl, rs, ev, k⟩ => by
    obtain ⟨c, A1, e1, ev⟩ := bnd_inv ev
    obtain ⟨x, A0, e0, e1⟩ := bnd_inv e1
    obtain ⟨rfl, rfl⟩ := asB_inv e1
    cases ev
    refine ⟨ρ, A, σp, _, _, rl, rs, e0, fun ρ1 H1 v1 x1 rl1 rv1 => ?_⟩
    cases rv1
    exact ⟨c, rfl, k ρ1 H1 _ x1 rl1 (.bl _)⟩
theorem r_nil : L2.PA X [] (EvA X.K cm aNil) := PA_imp L2.pa_nil fun σ H Q ⟨ρ, A, σp, vs, A', rl, rs, ev, k⟩ => by
  cases ev
  exact k ρ H [] (Ext.refl _ _) rl .nil
theorem r_cons {e : Expr} {es : List Expr} {d : ED} {ds : AD} (h : L2.PE X e (EvE X.K cm d)) (hr : L2.PA X es (EvA X.K cm ds)) (hs : starEach (e :: es) X.env = (false, eval e X.env) :: starEach es X.env := by rfl) : L2.PA X (e :: es) (EvA X.K cm (aCons d ds)) :=
  PA_imp (L2.pa_cons h hr hs) fun σ H Q ⟨ρ, A, σp, vs, A', rl, rs, ev, k⟩ => by
    obtain ⟨x, A1, e1, ev⟩ := bnd_inv ev
    obtain ⟨xs, A2, e2, ev⟩ := bnd_inv ev
    cases ev
    exact ⟨ρ, A, σp, x, A1, rl, rs, e1, fun ρ1 H1 v1 x1 rl1 rv1 => ⟨ρ1, A1, σp, xs, A', rl1, rs.mono x1, e2, fun ρ2 H2 vs2 x2 rl2 rv2 => k ρ2 H2 _ (x1.trans x2) rl2 (.cons (rv1.mono x2) rv2)⟩⟩
theorem r_tup {es : List Expr} {ds : AD} {x1 : Nat} {pos : Pos} (h : L2.PA X es (EvA X.K cm ds)) : L2.PE X (.Tuple es x1 pos) (EvE X.K cm (eTup ds)) :=
  PE_imp (L2.pe_tup h) fun σ H Q ⟨ρ, A, σp, v, A', rl, rs, ev, k⟩ => by
    obtain ⟨xs, A1, e1, ev⟩ := bnd_inv ev
    obtain ⟨c, ev⟩ := guard_inv ev
    cases ev
    refine ⟨ρ, A, σp, xs, A', rl, rs, e1, fun ρ1 H1 vs1 x1 rl1 rv1 => ⟨by rw [← rv1.length]; exact LIM_line c, fun p hp => ?_⟩⟩
    have e : Ext ρ1 H1 ρ1 (L2.upd H1 p (.tup vs1)) := Ext.same hp
    exact k ρ1 _ _ (x1.trans e) (rl1.tup hp) (.tup L2.upd_same (rv1.mono e))
theorem r_lst {es : List Expr} {ds : AD} {pos : Pos} (h : L2.PA X es (EvA X.K cm ds)) : L2.PE X (.List es pos) (EvE X.K cm (eLst ds)) :=
  PE_imp (L2.pe_lst h) fun σ H Q ⟨ρ, A, σp, v, A', rl, rs, ev, k⟩ => by
    obtain ⟨xs, A1, e1, ev⟩ := bnd_inv ev
    obtain ⟨c, ev⟩ := guard_inv ev
    cases ev
    refine ⟨ρ, A, σp, xs, A1, rl, rs, e1, fun ρ1 H1 vs1 x1 rl1 rv1 => ⟨by rw [← rv1.length]; exact LIM_line c, fun p hp => ?_⟩⟩
    have e : Ext ρ1 H1 (ρ1 ++ [p]) (L2.upd H1 p (.lst vs1)) := Ext.new hp
    exact k (ρ1 ++ [p]) _ _ (x1.trans e) (rl1.alloc hp ⟨_, L2.upd_same, rv1.mono e⟩ rfl) (.ref (by rw [← rl1.len]; simp))
end
end Ws
namespace Ws
open PySem
section
variable {X : L2.Cx} {cm : Nat → Addr}
noncomputable def EvL (K : PySem.W.Frag) (cm : Nat → Addr) (d : LD) : L2.TO := fun σ H Q => ∃ (ρ : List Addr) (A : PHp) (σp : PSt) (v : Option Int) (A' : PHp), Rel K cm ρ A H ∧ RSt ρ H σp σ ∧ d σp A = .ok v A' ∧
  ∀ ρ' H', Ext ρ H ρ' H' → Rel K cm ρ' A' H' → Q v H'
theorem PO_imp {e : Option Expr} {t t' : L2.TO} (h : L2.PO X e t) (k : ∀ σ H Q, t' σ H Q → t σ H Q) : L2.PO X e t' := fun pins s σ H Q I q => h pins s σ H Q I (k σ H Q q)
theorem r_lno : L2.PO X none (EvL X.K cm lNo) := PO_imp L2.po_none fun σ H Q ⟨ρ, A, σp, v, A', rl, rs, ev, k⟩ => by
  cases ev; exact k ρ H (Ext.refl _ _) rl
theorem r_lat {e : Expr} {d : ED} (h : L2.PE X e (EvE X.K cm d)) : L2.PO X (some e) (EvL X.K cm (lAt d)) := PO_imp (L2.po_some h) fun σ H Q ⟨ρ, A, σp, v, A', rl, rs, ev, k⟩ => by
  obtain ⟨x, A1, e1, ev1⟩ := bnd_inv ev
  refine ⟨ρ, A, σp, x, A1, rl, rs, e1, fun ρ1 H1 v1 x1 rl1 rv1 => ?_⟩
  cases x with
  | int i => cases ev1; cases rv1; exact ⟨i, rfl, k ρ1 H1 x1 rl1⟩
  | _ => cases ev1
theorem r_cut {e : Expr} {lo hi : Option Expr} {d : ED} {dl dh : LD} {p2 pos : Pos} (he : L2.PE X e (EvE X.K cm d)) (hl : L2.PO X lo (EvL X.K cm dl)) (hu : L2.PO X hi (EvL X.K cm dh)) : L2.PE X (.Subscript e (.Slice lo hi none p2) pos) (EvE X.K cm (eCut d dl dh)) :=
  PE_imp (L2.pe_slice (L2.sl_list.or L2.sl_tup) he hl hu) fun σ H Q ⟨ρ, A, σp, v, A', rl, rs, ev, k⟩ => by
    obtain ⟨x, A1, e1, ev1⟩ := bnd_inv ev
    obtain ⟨l, A2, e2, ev2⟩ := bnd_inv ev1
    obtain ⟨h, A3, e3, ev3⟩ := bnd_inv ev2
    refine ⟨ρ, A, σp, x, A1, rl, rs, e1, fun ρ1 H1 v1 x1 rl1 rv1 => ⟨ρ1, A1, σp, l, A2, rl1, rs.mono x1, e2, fun ρ2 H2 x2 rl2 => ⟨ρ2, A2, σp, h, A3, rl2, (rs.mono x1).mono x2, e3, fun ρ3 H3 x3 rl3 => ?_⟩⟩⟩
    have x13 := (x1.trans x2).trans x3
    have rv3 := rv1.mono (x2.trans x3)
    cases x with
    | ref n =>
      obtain ⟨xs, A4, e4, ev4⟩ := bnd_inv ev3
      obtain ⟨rfl, a, vs, rfl, hs, r⟩ := lst_read rl3 rv3 e4
      cases ev4
      refine .inl ⟨a, vs, rfl, hs, fun p hp => ?_⟩
      have e : Ext ρ3 H3 (ρ3 ++ [p]) (L2.upd H3 p (.lst (L2.cutV vs l h))) := Ext.new hp
      exact k (ρ3 ++ [p]) _ _ (x13.trans e) (rl3.alloc hp ⟨_, L2.upd_same, (r.slc l h).mono e⟩ rfl) (.ref (by rw [← rl3.len]; simp))
    | tup xs =>
      obtain ⟨c, ev4⟩ := guard_inv ev3
      cases ev4
      cases rv3 with
      | tup ha r =>
        refine .inr ⟨_, _, rfl, L2.SqT.of ha, by rw [cutIx_eq, cutIx_eq, ← r.length]; exact c, fun p hp => ?_⟩
        exact k ρ3 _ _ (x13.trans (Ext.same hp)) (rl3.tup hp) (.tup L2.upd_same ((r.slc l h).mono (Ext.same hp)))
    | _ => cases ev3
theorem ev_one {d : ED} {f : PV → M PV} {r : List L2.V → L2.Hp → L2.VK → Prop} {e : ED} (he : ∀ σ, e σ = bnd (d σ) f)
    (hf : ∀ ρ A H x z A' v (Q : L2.VK), Rel X.K cm ρ A H → RV ρ H x v → f x A = .ok z A' → (∀ ρ' H' v', Ext ρ H ρ' H' → Rel X.K cm ρ' A' H' → RV ρ' H' z v' → Q v' H') → r [v] H Q)
    {σ : L2.St} {H : L2.Hp} {Q : L2.VK} (h : EvE X.K cm e σ H Q) : L2.tCB r (EvA X.K cm (aCons d aNil)) σ H Q := by
  obtain ⟨ρ, A, σp, z, A', rl, rs, ev, k⟩ := h
  rw [he] at ev
  obtain ⟨x, A1, e1, ev1⟩ := bnd_inv ev
  refine ⟨ρ, A, σp, [x], A1, rl, rs, by show bnd (d σp) _ A = _; rw [bnd_ok e1]; rfl, fun ρ1 H1 vs1 x1 rl1 rv1 => ?_⟩
  cases rv1 with
  | cons hv hr =>
    cases hr
    exact hf ρ1 A1 H1 x z A' _ Q rl1 hv ev1 fun ρ2 H2 v2 x2 rl2 rv2 => k ρ2 H2 v2 (x1.trans x2) rl2 rv2
theorem r_len {e : Expr} {d : ED} {p pos : Pos} (he : L2.PE X e (EvE X.K cm d)) (hg : L2.Gl X "len") (hm : X.mg "len" = none) (hs : starEach [e] X.env = (false, eval e X.env) :: starEach [] X.env := by rfl) : L2.PE X (.Call (.Name "len" p) [e] [] pos) (EvE X.K cm (eLen d)) :=
  PE_imp (L2.pe_callB L2.call_len_seq hg hm PySem.boot_len (r_cons he r_nil hs) (he := hs)) fun σ H Q h => ev_one (f := fun x => bnd (seqOf x) fun l => ret (.int l.length)) (fun _ => rfl) (fun ρ A H x z A' v Q rl rx ev k => by
    obtain ⟨l, A1, e1, ev1⟩ := bnd_inv ev
    obtain ⟨rfl, a, xs, rfl, hq, r⟩ := seq_read rl rx e1
    cases ev1
    exact ⟨a, xs, rfl, hq, k ρ H _ (Ext.refl _ _) rl (by rw [← r.length]; exact .int _)⟩) h
theorem Pairs.look {f : Nat → Str} {ρ : List Addr} {H : L2.Hp} (hf : ∀ i j, f i = f j → i < 19 → j < 19 → i = j) : ∀ {kvs : List (Nat × PV)} {kv : List (Str × L2.V)} {i : Nat} {x : PV}, Pairs f ρ H kvs kv → (∀ p ∈ kvs, p.1 < 19) → i < 19 → getFld i kvs = some x → ∃ v, kv.lookup (f i) = some v ∧ RV ρ H x v
  | [], kv, i, x, h, _, _, e => by cases e
  | (g, u) :: r, kv, i, x, h, hs, hi, e => by
    cases kv with
    | nil => have := h.keys; simp at this
    | cons p q =>
      have k := h.keys
      simp only [List.map_cons, List.cons.injEq] at k
      have hv := h.vals
      simp only [List.map_cons] at hv
      cases hv with
      | cons h1 h2 =>
        have hg : g < 19 := hs _ List.mem_cons_self
        obtain ⟨p1, p2⟩ := p
        by_cases hgi : g = i
        · subst hgi
          simp [getFld] at e
          subst e
          exact ⟨p2, by rw [List.lookup_cons]; simp [show p1 = f g from k.1], h1⟩
        · have hne : ¬ f i = p1 := fun z => hgi (hf g i (by rw [z]; exact k.1.symm) hg hi)
          simp only [getFld, hgi, if_false] at e
          obtain ⟨v, a, b⟩ := Pairs.look hf (kvs := r) (kv := q) ⟨k.2, h2⟩ (fun p hp => hs p (List.mem_cons_of_mem _ hp)) hi e
          refine ⟨v, ?_, b⟩
          rw [List.lookup_cons, beq_eq_false_iff_ne.mpr hne]
          exact a
end
end Ws
namespace Ws
open PySem
theorem fnm_inj : ∀ i j, fnm i = fnm j → i < 19 → j < 19 → i = j := by
  intro i j h hi hj
  have key : ∀ i : _root_.Fin 19, ∀ j : _root_.Fin 19, fnm i.1 = fnm j.1 → i = j := by decide +kernel
  exact congrArg (·.1) (key ⟨i, hi⟩ ⟨j, hj⟩ h)
section
variable {X : L2.Cx} {cm : Nat → Addr}
theorem r_fld {o : Expr} {d : ED} {f : Str} {i : Nat} {pos : Pos} (he : L2.PE X o (EvE X.K cm d)) (hf : fnm i = f) (hi : i < 19) (hc : ∀ c, c < 7 → L2.Cls X.K (cm c)) (hn : ∀ c, c < 7 → L2.NoAttr X.K (cm c) f)
    (hb : attributeBase o f X.env (eval o X.env) = eval o X.env := by rfl) : L2.PE X (.Attribute o f pos) (EvE X.K cm (eFld d i)) :=
  PE_imp (L2.pe_fld he hb) fun σ H Q ⟨ρ, A, σp, v, A', rl, rs, ev, k⟩ => by
    obtain ⟨x, A1, e1, ev1⟩ := bnd_inv ev
    refine ⟨ρ, A, σp, x, A1, rl, rs, e1, fun ρ1 H1 v1 x1 rl1 rv1 => ?_⟩
    cases x with
    | ref n =>
      obtain ⟨o, A2, e2, ev2⟩ := bnd_inv ev1
      obtain ⟨rfl, hA, a, dx, kv, rfl, hn', hH, hp, hs⟩ := ins_read rl1 rv1 e2
      rcases hg : getFld i o.2 with _ | u
      · rw [hg] at ev2; cases ev2
      · rw [hg] at ev2
        cases ev2
        obtain ⟨w, hw, rw'⟩ := hp.look fnm_inj hs hi hg
        rw [hf] at hw
        exact ⟨a, _, dx, kv, w, rfl, hH, hc _ (ins_lt rl1 hA hn'), hn _ (ins_lt rl1 hA hn'), hw, k ρ1 H1 w x1 rl1 rw'⟩
    | _ => cases ev1
theorem Pairs.put {ρ : List Addr} {H : L2.Hp} {i : Nat} {x : PV} {v : L2.V} (hi : i < 19) (rv : RV ρ H x v) : ∀ {kvs : List (Nat × PV)} {kv : List (Str × L2.V)}, Pairs fnm ρ H kvs kv → (∀ p ∈ kvs, p.1 < 19) → Pairs fnm ρ H (putFld i x kvs) (L2.putF (fnm i) v kv)
  | [], kv, h, _ => by
    cases kv with
    | nil => exact ⟨rfl, .cons rv .nil⟩
    | cons p q => have := h.keys; simp at this
  | (g, u) :: r, kv, h, hs => by
    cases kv with
    | nil => have := h.keys; simp at this
    | cons p q =>
      have k := h.keys
      simp only [List.map_cons, List.cons.injEq] at k
      have hv := h.vals
      simp only [List.map_cons] at hv
      cases hv with
      | cons h1 h2 =>
        obtain ⟨p1, p2⟩ := p
        have hg : g < 19 := hs _ List.mem_cons_self
        have k1 : p1 = fnm g := k.1
        by_cases hgi : g = i
        · subst hgi
          have e : L2.putF (fnm g) v ((p1, p2) :: q) = (p1, v) :: q := by
            show (if p1 = fnm g then _ else _) = _
            rw [if_pos k1]
          rw [e]
          simp only [putFld, if_true]
          exact ⟨by simp [k1, k.2], .cons rv h2⟩
        · have hne : ¬ p1 = fnm i := fun z => hgi (fnm_inj g i (by rw [← z]; exact k1.symm) hg hi)
          have e : L2.putF (fnm i) v ((p1, p2) :: q) = (p1, p2) :: L2.putF (fnm i) v q := by
            show (if p1 = fnm i then _ else _) = _
            rw [if_neg hne]
          rw [e]
          simp only [putFld, hgi, if_false]
          have ih := Pairs.put hi rv (kvs := r) (kv := q) ⟨k.2, h2⟩ fun p hp => hs p (List.mem_cons_of_mem _ hp)
          exact ⟨by simp only [List.map_cons]; rw [ih.keys, k1], .cons h1 ih.vals⟩
theorem putFld_lt {i : Nat} {x : PV} (hi : i < 19) : ∀ {kvs : List (Nat × PV)}, (∀ p ∈ kvs, p.1 < 19) → ∀ p ∈ putFld i x kvs, p.1 < 19
  | [], _, p, hp => by simp [putFld] at hp; subst hp; exact hi
  | (g, u) :: r, hs, p, hp => by
    unfold putFld at hp
    split at hp
    · rcases List.mem_cons.mp hp with rfl | hp
      · exact hs (g, u) List.mem_cons_self
      · exact hs p (List.mem_cons_of_mem _ hp)
    · rcases List.mem_cons.mp hp with rfl | hp
      · exact hs (g, u) List.mem_cons_self
      · exact putFld_lt hi (fun q hq => hs q (List.mem_cons_of_mem _ hq)) p hp
theorem s_fld {o value : Expr} {d e : ED} {f : Str} {i : Nat} {pos pos' : Pos} (ho : L2.PE X o (EvE X.K cm d)) (hv : L2.PE X value (EvE X.K cm e)) (hf : fnm i = f) (hi : i < 19) (hc : ∀ c, c < 7 → L2.Cls X.K (cm c)) (hn : ∀ c, c < 7 → L2.NoAttr X.K (cm c) f)
    (hs : swapsWith value (some (.Attribute o f pos')) pos.line X.env = pure false := by rfl) : L2.PS X (.Assign [.Attribute o f pos'] value pos) (EvS X.K cm (sFld d i e)) :=
  PS_imp (L2.ps_fld ho hv hs) fun D σ H ⟨ρ, A, σp, fl, A', rl, rs, ev, k⟩ => by
    obtain ⟨y, A1, e1, ev1⟩ := bnd_inv ev
    obtain ⟨x, A2, e2, ev2⟩ := bnd_inv ev1
    refine ⟨ρ, A, σp, y, A1, rl, rs, e1, fun ρ1 H1 v1 x1 rl1 rv1 => ⟨ρ1, A1, σp, x, A2, rl1, rs.mono x1, e2, fun ρ2 H2 v2 x2 rl2 rv2 => ?_⟩⟩
    cases x with
    | ref n =>
      obtain ⟨o, A3, e3, ev3⟩ := bnd_inv ev2
      obtain ⟨rfl, hA, a, dx, kv, rfl, hn', hH, hp, hs'⟩ := ins_read rl2 rv2 e3
      obtain ⟨c, ev4⟩ := guard_inv ev3
      cases ev4
      have hkl : kv.length = o.2.length := by have := congrArg List.length hp.keys; simpa using this
      refine ⟨a, cm o.1, dx, kv, rfl, hH, hc _ (ins_lt rl2 hA hn'), hn _ (ins_lt rl2 hA hn'), by omega, ?_⟩
      rw [← hf]
      have ex : Ext ρ2 H2 ρ2 (L2.upd H2 a (.ins (cm o.1) dx (L2.putF (fnm i) v1 kv))) := Ext.put rl2 hn' hA rfl
      have rl3 : Rel X.K cm ρ2 (A3.set n (.ins o.1 (putFld i y o.2))) (L2.upd H2 a (.ins (cm o.1) dx (L2.putF (fnm i) v1 kv))) :=
        rl2.put hn' hA rfl rfl ⟨⟨ins_lt rl2 hA hn', putFld_lt hi hs'⟩, dx, _, L2.upd_same, (hp.mono ex).put hi ((rv1.mono x2).mono ex) hs'⟩
      exact k ρ2 _ ((x1.trans x2).trans ex) rl3 σ (((rs.mono x1).mono x2).mono ex)
    | _ => cases ev2
theorem r_append {o e : Expr} {d u : ED} {apos cpos : Pos} (ho : L2.PE X o (EvE X.K cm d)) (he : L2.PE X e (EvE X.K cm u))
    (hb : attributeBase o "append" X.env (eval o X.env) = eval o X.env := by rfl) (hs : starEach [e] X.env = (false, eval e X.env) :: starEach [] X.env := by rfl)
    (hfew : ((backTo cpos (starEach [e] X.env)).all (fun x => !x.1) && (backToKw cpos (keywordEach [] X.env)).all (fun x => x.1.isSome) && decide ([e].length + ([] : List Keyword).length + (if ([] : List Keyword).isEmpty then 0 else 1) < 30)) = true := by rfl)
    (hline : (apos.endLine == cpos.line) = true := by rfl) : L2.PE X (.Call (.Attribute o "append" apos) [e] [] cpos) (EvE X.K cm (eAppend d u)) :=
  PE_imp (L2.pe_bm PySem.F.plainAttrs_list PySem.F.slot_list_append PySem.F.type_list_append L2.mt_append ho (r_cons he r_nil hs) (hbase := hb) (hfew := hfew) (hline := hline) (hs := hs)) fun σ H Q ⟨ρ, A, σp, v, A', rl, rs, ev, k⟩ => by
    obtain ⟨x, A1, e1, ev1⟩ := bnd_inv ev
    refine ⟨ρ, A, σp, x, A1, rl, rs, e1, fun ρ1 H1 v1 x1 rl1 rv1 => ?_⟩
    cases x with
    | ref n =>
      obtain ⟨l0, A2, e2, ev2⟩ := bnd_inv ev1
      obtain ⟨rfl, hA, a, xs, rfl, hn, hH, r0⟩ := mut_read rl1 rv1 e2
      refine ⟨.inl ⟨rfl, xs, L2.SqL.of hH⟩, ?_⟩
      obtain ⟨y, A3, e3, ev3⟩ := bnd_inv ev2
      obtain ⟨l, A4, e4, ev4⟩ := bnd_inv ev3
      obtain ⟨c, ev5⟩ := guard_inv ev4
      cases ev5
      refine ⟨ρ1, _, σp, [y], A3, rl1, rs.mono x1, by show bnd (u σp) _ _ = _; rw [bnd_ok e3]; rfl, fun ρ2 H2 vs2 x2 rl2 rv2 => ?_⟩
      cases rv2 with
      | cons hv hr =>
        cases hr
        obtain ⟨rfl, hA2, a2, ys, e5, hn2, hH2, r2⟩ := mut_read rl2 (rv1.mono x2) e4
        cases e5
        refine ⟨a, ys, _, rfl, rfl, hH2, by rw [← r2.length]; exact LIM_lt c, ?_⟩
        refine k ρ2 _ _ ((x1.trans x2).trans (Ext.put rl2 hn2 hA2 rfl)) (rl2.put hn2 hA2 rfl rfl ⟨_, L2.upd_same, ?_⟩) .non
        exact (r2.mono (Ext.put rl2 hn2 hA2 rfl)).append (.cons (hv.mono (Ext.put rl2 hn2 hA2 rfl)) .nil)
    | _ => cases ev1
theorem g_name {i : Nat} {e : Expr} (h : L2.PG X e (L2.gName i)) : L2.PG X e (EvG X.K cm (gName i)) := PG_imp h fun v σ H Q ⟨ρ, A, σp, x, σp', A', rl, rs, rv, ev, k⟩ => by
  cases ev
  exact k ρ H _ (Ext.refl _ _) rl (rs.set i rv)
theorem g_nil : L2.PGs X [] (EvGs X.K cm gNil) := PGs_imp L2.pgs_nil fun vs σ H Q ⟨ρ, A, σp, xs, σp', A', rl, rs, rv, ev, k⟩ => by
  cases xs with
  | nil => cases ev; cases rv; exact ⟨rfl, k ρ H _ (Ext.refl _ _) rl rs⟩
  | cons y ys => cases ev
theorem g_cons {e : Expr} {es : List Expr} {g : GD} {r : GDs} (h1 : L2.PG X e (EvG X.K cm g)) (h2 : L2.PGs X es (EvGs X.K cm r)) (hs : (assignEach (e :: es) X.env).map (·.2) = assign e X.env :: (assignEach es X.env).map (·.2) := by rfl) : L2.PGs X (e :: es) (EvGs X.K cm (gCons g r)) :=
  PGs_imp (L2.pgs_cons h1 h2 hs) fun vs σ H Q ⟨ρ, A, σp, xs, σp', A', rl, rs, rv, ev, k⟩ => by
    cases xs with
    | nil => cases ev
    | cons y ys =>
      obtain ⟨σ1, A1, e1, ev1⟩ := bnd_inv ev
      cases rv with
      | cons hv hr =>
        exact ⟨_, _, rfl, ρ, A, σp, y, σ1, A1, rl, rs, hv, e1, fun ρ1 H1 σ' x1 rl1 rs1 => ⟨ρ1, A1, σ1, ys, σp', A', rl1, rs1, hr.mono x1, ev1, fun ρ2 H2 σ2 x2 rl2 rs2 => k ρ2 H2 σ2 (x1.trans x2) rl2 rs2⟩⟩
theorem g_tup {es : List Expr} {j n : Nat} {g : GDs} {pos : Pos} (hc : X.calm = true) (h : L2.PGs X es (EvGs X.K cm g)) (hn : (assignEach es X.env).length = n := by rfl) (hst : (assignEach es X.env).findIdx? (·.1) = none := by rfl) : L2.PG X (.Tuple es j pos) (EvG X.K cm (gTup n g)) :=
  PG_imp (L2.pg_tup hc h hn hst) fun v σ H Q ⟨ρ, A, σp, x, σp', A', rl, rs, rv, ev, k⟩ => by
    cases x with
    | tup l =>
      obtain ⟨c, ev1⟩ := guard_inv ev
      cases rv with
      | tup ha r => exact ⟨_, _, rfl, L2.SqT.of ha, by rw [← r.length]; exact c, ρ, A, σp, l, σp', A', rl, rs, r, ev1, k⟩
    | _ => cases ev
theorem s_never {st : Stmt} : L2.PS X st (EvS X.K cm sNever) := PS_imp L2.ps_never fun D σ H ⟨ρ, A, σp, f, A', rl, rs, ev, k⟩ => by cases ev
theorem ss_nil : L2.PSs X [] (EvS X.K cm sPass) := PSs_imp L2.pss_nil fun D σ H ⟨ρ, A, σp, f, A', rl, rs, ev, k⟩ => by
  cases ev; exact k ρ H (Ext.refl _ _) rl σ rs
theorem ss_one {st : Stmt} {s : SD} (h : L2.PS X st (EvS X.K cm s)) : L2.PSs X [st] (EvS X.K cm s) := L2.pss_one h
theorem ss_cons {st : Stmt} {rest : List Stmt} {s r : SD} (h1 : L2.PS X st (EvS X.K cm s)) (h2 : L2.PSs X rest (EvS X.K cm r)) : L2.PSs X (st :: rest) (EvS X.K cm (sSeq s r)) :=
  PSs_imp (L2.pss_cons h1 h2) fun D σ H ⟨ρ, A, σp, f, A', rl, rs, ev, k⟩ => by
    obtain ⟨o, A1, e1, ev1⟩ := bnd_inv ev
    refine ⟨ρ, A, σp, o, A1, rl, rs, e1, fun ρ1 H1 x1 rl1 => ?_⟩
    cases o with
    | nx σ1 => exact fun σ' rs' => ⟨ρ1, A1, σ1, f, A', rl1, rs', ev1, fun ρ2 H2 x2 rl2 => k ρ2 H2 (x1.trans x2) rl2⟩
    | rt v => cases ev1; exact fun v' rv => k ρ1 H1 x1 rl1 v' rv
    | bk σ1 => cases ev1; exact fun σ' rs' => k ρ1 H1 x1 rl1 σ' rs'
    | ct σ1 => cases ev1; exact fun σ' rs' => k ρ1 H1 x1 rl1 σ' rs'
theorem s_expr {e : Expr} {d : ED} {pos : Pos} (h : L2.PE X e (EvE X.K cm d)) (hs : swapsWith e none pos.line X.env = pure false := by rfl) : L2.PS X (.Expr e pos) (EvS X.K cm (sExpr d)) :=
  PS_imp (L2.ps_expr h hs) fun D σ H ⟨ρ, A, σp, f, A', rl, rs, ev, k⟩ => by
    obtain ⟨x, A1, e1, ev1⟩ := bnd_inv ev
    cases ev1
    exact ⟨ρ, A, σp, x, A', rl, rs, e1, fun ρ1 H1 v1 x1 rl1 rv1 => k ρ1 H1 x1 rl1 σ (rs.mono x1)⟩
theorem s_ret {e : Expr} {d : ED} {pos : Pos} (h : L2.PE X e (EvE X.K cm d)) : L2.PS X (.Return (some e) pos) (EvS X.K cm (sRet d)) :=
  PS_imp (L2.ps_ret h) fun D σ H ⟨ρ, A, σp, f, A', rl, rs, ev, k⟩ => by
    obtain ⟨x, A1, e1, ev1⟩ := bnd_inv ev
    cases ev1
    exact ⟨ρ, A, σp, x, A', rl, rs, e1, fun ρ1 H1 v1 x1 rl1 rv1 => k ρ1 H1 x1 rl1 v1 rv1⟩
theorem s_if {c : Expr} {a b : List Stmt} {t : TD} {s u : SD} {pos : Pos} (hc : L2.PT X c (EvT X.K cm t)) (ha : L2.PSs X a (EvS X.K cm s)) (hb : L2.PSs X b (EvS X.K cm u)) : L2.PS X (.If c a b pos) (EvS X.K cm (sIf t s u)) :=
  PS_imp (L2.ps_if hc ha hb) fun D σ H ⟨ρ, A, σp, f, A', rl, rs, ev, k⟩ => by
    obtain ⟨x, A1, e1, ev1⟩ := bnd_inv ev
    refine ⟨ρ, A, σp, x, A1, rl, rs, e1, fun ρ1 H1 x1 rl1 => ?_⟩
    cases x with
    | true => rw [if_pos rfl] at ev1 ⊢; exact ⟨ρ1, A1, σp, f, A', rl1, rs.mono x1, ev1, fun ρ2 H2 x2 rl2 => k ρ2 H2 (x1.trans x2) rl2⟩
    | false => rw [if_neg (by simp)] at ev1 ⊢; exact ⟨ρ1, A1, σp, f, A', rl1, rs.mono x1, ev1, fun ρ2 H2 x2 rl2 => k ρ2 H2 (x1.trans x2) rl2⟩
theorem ev_asg {d : ED} {g : GD} {te : L2.TE} {tg : L2.TG} (he : ∀ σ H Q, EvE X.K cm d σ H Q → te σ H Q) (hg : ∀ v σ H Q, EvG X.K cm g v σ H Q → tg v σ H Q) {D : L2.Ends} {σ : L2.St} {H : L2.Hp} (h : EvS X.K cm (sAsg d g) D σ H) : L2.tAsg te tg D σ H := by
  obtain ⟨ρ, A, σp, f, A', rl, rs, ev, k⟩ := h
  obtain ⟨x, A1, e1, ev1⟩ := bnd_inv ev
  obtain ⟨σ1, A2, e2, ev2⟩ := bnd_inv ev1
  cases ev2
  exact he _ _ _ ⟨ρ, A, σp, x, A1, rl, rs, e1, fun ρ1 H1 v1 x1 rl1 rv1 => hg _ _ _ _ ⟨ρ1, A1, σp, x, σ1, A', rl1, rs.mono x1, rv1, e2, fun ρ2 H2 σ2 x2 rl2 rs2 => k ρ2 H2 (x1.trans x2) rl2 σ2 rs2⟩⟩
theorem s_asg {tg e : Expr} {d : ED} {g : GD} {pos : Pos} (he : L2.PE X e (EvE X.K cm d)) (hg : L2.PG X tg (EvG X.K cm g)) (hs : swapsWithSole [tg] e pos.line X.env = pure false := by rfl) (hw : swappedStores [tg] e X.env = pure none := by rfl)
    (h1 : (assignEach [tg] X.env).map (·.2) = [assign tg X.env] := by rfl) : L2.PS X (.Assign [tg] e pos) (EvS X.K cm (sAsg d g)) :=
  PS_imp (L2.ps_asg he hg hs hw h1) fun D σ H h => ev_asg (fun _ _ _ z => z) (fun _ _ _ _ z => z) h
theorem s_set {i : Nat} {x : Str} {e : Expr} {d : ED} {pos pos' : Pos} (hN : X.N.Nodup) (hi : X.N[i]? = some x) (hx : L2.Loc X.env.scope x) (he : L2.PE X e (EvE X.K cm d)) (hs : swapsWith e (some (.Name x pos')) pos.line X.env = pure false := by rfl)
    (hf : X.fn x = true ∨ X.env.scope.names.lookup x = some .local := by first | exact .inl rfl | exact .inr rfl | assumption) : L2.PS X (.Assign [.Name x pos'] e pos) (EvS X.K cm (sAsg d (gName i))) :=
  PS_imp (L2.ps_set hN hi hx he hs hf) fun D σ H h => ev_asg (fun _ _ _ z => z) (fun v σ H Q ⟨ρ, A, σp, x, σp', A', rl, rs, rv, ev, k⟩ => by
    cases ev
    exact k ρ H _ (Ext.refl _ _) rl (rs.set i rv)) h
end
end Ws
namespace Ws
open PySem
noncomputable def SpF (K : PySem.W.Frag) (cm : Nat → Addr) (f : Fun) (n : Nat) : L2.Sp := fun vs H Q _ => ∃ (ρ : List Addr) (A : PHp) (ps : List PV) (v : PV) (A' : PHp), Rel K cm ρ A H ∧ RVs ρ H ps vs ∧ ps.length = n ∧ f ps A = .ok v A' ∧
  ∀ ρ' H' v', Ext ρ H ρ' H' → Rel K cm ρ' A' H' → RV ρ' H' v v' → Q v' H'
theorem RSt.start0 {ρ : List Addr} {H : L2.Hp} {ps : List PV} {vs : List L2.V} {N : List Str} (r : RVs ρ H ps vs) : RSt ρ H (Ws.start N.length ps) (L2.start N vs) := by
  have hl := r.length
  refine ⟨by unfold Ws.start L2.start; simp [hl], fun i p hp => ?_⟩
  unfold Ws.start at hp
  by_cases hi : i < ps.length
  · rw [List.getElem?_append_left (by simpa using hi), List.getElem?_map] at hp
    rcases e : ps[i]? with _ | q
    · rw [e] at hp; cases hp
    · rw [e] at hp; cases hp
      obtain ⟨v, h1, h2⟩ := r.get e
      refine ⟨v, ?_, h2⟩
      unfold L2.start
      rw [List.getElem?_append_left (by simp; omega), List.getElem?_map, h1]; rfl
  · rw [List.getElem?_append_right (by simpa using hi), List.getElem?_replicate] at hp
    split at hp <;> cases hp
section
variable {P : Program} {w : World} {K : PySem.W.Frag} {mg : Str → Option Value} {base : Heap} {cm : Nat → Addr}
theorem fn_ok {x qual : Str} {st : Stmt} {f : Addr} {fd : FuncData} {N ps : List Str} {k : Nat} {s : SD} (F : L2.Fun K x qual st f fd) (S : L2.FnScope N ps (L2.defScope st))
    (hbody : ∀ (cdv : Value) (A : Around) (outer : List Env) (s0 : Shared) (H : L2.Hp) (E : L2.XK), L2.Room k (A.deeper (PyProof.Rows.envOfC qual (L2.defScope st) s0.heap.objs.size f cdv)) →
      L2.PSs (L2.cxOf L2.CX0 P w K mg base N qual (L2.defScope st) f cdv A outer s0 H E).nox (L2.defBody st) (EvS K cm s)) :
    L2.FnOk P w K mg base L2.CX0 (k + 1) f fd ps (SpF K cm (fn N.length ps.length s) ps.length) := by
  refine F.ok S (fun vs H Q E ⟨ρ, A, qs, v, A', rl, rv, hl, _, _⟩ => by rw [← rv.length]; exact hl) fun cdv A outer s0 H vs Q E hr h => ⟨_, hbody cdv A outer s0 H E hr, ?_⟩
  obtain ⟨ρ, B, qs, v, B', rl, rv, hl, ev, k⟩ := h
  obtain ⟨_, ev1⟩ := guard_inv ev
  obtain ⟨o, B1, e1, ev2⟩ := bnd_inv ev1
  refine ⟨ρ, B, Ws.start N.length qs, o, B1, rl, RSt.start0 rv, e1, fun ρ1 H1 x1 rl1 => ?_⟩
  cases o with
  | nx σ1 => cases ev2; exact fun σ' _ => k ρ1 H1 _ x1 rl1 .non
  | rt u => cases ev2; exact fun v' rv' => k ρ1 H1 v' x1 rl1 rv'
  | bk σ1 => cases ev2
  | ct σ1 => cases ev2
end
section
variable {X : L2.Cx} {cm : Nat → Addr}
theorem ev_call {f : Fun} {n : Nat} {ds : AD} (hn : ∀ vs A v A', f vs A = .ok v A' → vs.length = n) {σ : L2.St} {H : L2.Hp} {Q : L2.VK} (h : EvE X.K cm (eCall f ds) σ H Q) : L2.tCall (SpF X.K cm f n) [] L2.E0 (EvA X.K cm ds) σ H Q := by
  obtain ⟨ρ, A, σp, v, A', rl, rs, ev, k⟩ := h
  obtain ⟨xs, A1, e1, ev1⟩ := bnd_inv ev
  refine ⟨ρ, A, σp, xs, A1, rl, rs, e1, fun ρ1 H1 vs1 x1 rl1 rv1 => ?_⟩
  show SpF X.K cm f n (vs1 ++ []) H1 Q _
  rw [List.append_nil]
  exact ⟨ρ1, A1, xs, v, A', rl1, rv1, hn _ _ _ _ ev1, ev1, fun ρ2 H2 v2 x2 rl2 rv2 => k ρ2 H2 v2 (x1.trans x2) rl2 rv2⟩
theorem fn_len {n p : Nat} {s : SD} {vs : List PV} {A A' : PHp} {v : PV} (h : fn n p s vs A = .ok v A') : vs.length = p := (guard_inv h).1
theorem r_call {f : Fun} {n k : Nat} {fa : Addr} {fd : FuncData} {ps : List Str} {x : Str} {e : Expr} {es : List Expr} {ds : AD} {p pos : Pos} (F : L2.FnOk X.prog X.w X.K X.mg X.base L2.CX0 k fa fd ps (SpF X.K cm f n)) (hn : ∀ vs A v A', f vs A = .ok v A' → vs.length = n) (hr : L2.Room k X.A) (hg : L2.Gl X x) (hm : X.mg x = some (.ref fa)) (hk : PySem.W.keepIn X.K (.ref fa) = true) (hb : L2.Binds X.K fd ps [])
    (ha : L2.PA X (e :: es) (EvA X.K cm ds)) (hdb : (x == ("__debug__" : Str)) = false := by decide) (he : starEach (e :: es) X.env = (false, eval e X.env) :: starEach es X.env := by rfl) (hpl : (backTo pos (starEach es X.env)).any (·.1) = false := by rfl) :
    L2.PE X (.Call (.Name x p) (e :: es) [] pos) (EvE X.K cm (eCall f ds)) :=
  PE_imp (L2.pe_call F hr hg hm hk hb .nil L2.pass0 ha hdb he hpl) fun σ H Q h => ev_call hn h
theorem ev_meth {c : Nat} {f : Fun} {n : Nat} {m : Str} {d : ED} {ds : AD} (hn : ∀ vs A v A', f vs A = .ok v A' → vs.length = n) (hm : ∀ i, i < 19 → fnm i ≠ m) {σ : L2.St} {H : L2.Hp} {Q : L2.VK} (h : EvE X.K cm (eMeth c f d ds) σ H Q) :
    L2.tMeth (cm c) m (SpF X.K cm f n) [] L2.E0 (EvE X.K cm d) (EvA X.K cm ds) σ H Q := by
  obtain ⟨ρ, A, σp, v, A', rl, rs, ev, k⟩ := h
  obtain ⟨x, A1, e1, ev1⟩ := bnd_inv ev
  refine ⟨ρ, A, σp, x, A1, rl, rs, e1, fun ρ1 H1 v1 x1 rl1 rv1 => ?_⟩
  cases x with
  | ref j =>
    obtain ⟨o, A2, e2, ev2⟩ := bnd_inv ev1
    obtain ⟨rfl, hA, a, dx, kv, rfl, hn', hH, hp, hs⟩ := ins_read rl1 rv1 e2
    obtain ⟨hc, ev3⟩ := guard_inv ev2
    obtain ⟨xs, A3, e3, ev4⟩ := bnd_inv ev3
    subst hc
    have hno : kv.lookup m = none := by
      have key : ∀ (l : List (Str × L2.V)), (∀ z ∈ l.map (·.1), z ≠ m) → l.lookup m = none := fun l => by
        induction l with
        | nil => intro _; rfl
        | cons p q ih =>
          intro hz
          rw [List.lookup_cons, beq_eq_false_iff_ne.mpr (fun z => hz p.1 (by simp) z.symm)]
          exact ih fun z hz' => hz z (by simp at hz' ⊢; exact .inr hz')
      refine key kv fun z hz => ?_
      rw [hp.keys] at hz
      obtain ⟨q, hq, rfl⟩ := List.mem_map.mp hz
      exact hm _ (hs q hq)
    refine ⟨a, dx, kv, rfl, hH, hno, ρ1, _, σp, xs, A3, rl1, rs.mono x1, e3, fun ρ2 H2 vs2 x2 rl2 rv2 => ?_⟩
    show SpF X.K cm f n (.ref a :: (vs2 ++ [])) H2 Q _
    rw [List.append_nil]
    exact ⟨ρ2, A3, .ref j :: xs, v, A', rl2, .cons (rv1.mono x2) rv2, hn _ _ _ _ ev4, ev4, fun ρ3 H3 v3 x3 rl3 rv3 => k ρ3 H3 v3 ((x1.trans x2).trans x3) rl3 rv3⟩
  | _ => cases ev1
theorem r_meth {c : Nat} {f : Fun} {n k : Nat} {fa : Addr} {fd : FuncData} {ps : List Str} {m : Str} {o e : Expr} {es : List Expr} {d : ED} {ds : AD} {apos pos : Pos} {pl : Sem Bool} (ho : L2.PE X o (EvE X.K cm d)) (hc : L2.Cls X.K (cm c)) (hm : L2.Meth X.K (cm c) m fa)
    (F : L2.FnOk X.prog X.w X.K X.mg X.base L2.CX0 k fa fd ps (SpF X.K cm f n)) (hn : ∀ vs A v A', f vs A = .ok v A' → vs.length = n) (hnm : ∀ i, i < 19 → fnm i ≠ m) (hr : L2.Room k X.A) (hb : L2.Binds X.K fd ps []) (ha : L2.PA X (e :: es) (EvA X.K cm ds))
    (hst : starEach (e :: es) X.env = (false, eval e X.env) :: starEach es X.env := by rfl) (hpl : (backTo pos (starEach es X.env)).any (·.1) = false := by rfl)
    (ht : eval (.Call (.Attribute o m apos) (e :: es) [] pos) X.env = (do
      let ov ← eval o X.env
      standAt apos.atName
      let (f, first) ← holding [ov] (getMethod ov m pl)
      callWith pos f first (backTo pos (starEach (e :: es) X.env)) (backToKw pos (keywordEach [] X.env))) := by rfl) :
    L2.PE X (.Call (.Attribute o m apos) (e :: es) [] pos) (EvE X.K cm (eMeth c f d ds)) :=
  PE_imp (L2.pe_meth (pl := pl) ho hc hm F hr hb .nil L2.pass0 ha hst hpl ht) fun σ H Q h => ev_meth hn hnm h
theorem ev_make {c : Nat} {f : Fun} {n : Nat} {ds : AD} (h7 : c < 7) (hn : ∀ vs A v A', f vs A = .ok v A' → vs.length = n ∧ v = .non) {σ : L2.St} {H : L2.Hp} {Q : L2.VK} (h : EvE X.K cm (eMake c f ds) σ H Q) : L2.tMake (cm c) (SpF X.K cm f n) [] L2.E0 (EvA X.K cm ds) σ H Q := by
  obtain ⟨ρ, A, σp, v, A', rl, rs, ev, k⟩ := h
  obtain ⟨xs, A1, e1, ev1⟩ := bnd_inv ev
  obtain ⟨x, A2, e2, ev2⟩ := bnd_inv ev1
  cases e2
  obtain ⟨u, A3, e3, ev3⟩ := bnd_inv ev2
  cases ev3
  refine ⟨ρ, A, σp, xs, A1, rl, rs, e1, fun ρ1 H1 vs1 x1 rl1 rv1 x dx hx hdx hne => ?_⟩
  rw [List.append_nil]
  have g1 : Ext ρ1 H1 ρ1 (L2.upd H1 dx (.own x)) := Ext.same hdx
  have rl2 : Rel X.K cm ρ1 A1 (L2.upd H1 dx (.own x)) := rl1.grow g1 (keep_new hdx)
  have hx2 : L2.upd H1 dx (.own x) x = none := by rw [L2.upd_ne (Ne.symm hne)]; exact hx
  have g2 : Ext ρ1 (L2.upd H1 dx (.own x)) (ρ1 ++ [x]) (L2.upd (L2.upd H1 dx (.own x)) x (.ins (cm c) dx [])) := Ext.new hx2
  have rl3 : Rel X.K cm (ρ1 ++ [x]) (A1 ++ [.ins c []]) (L2.upd (L2.upd H1 dx (.own x)) x (.ins (cm c) dx [])) := rl2.alloc hx2 ⟨⟨h7, by simp⟩, dx, [], L2.upd_same, ⟨rfl, .nil⟩⟩ rfl
  have hl : (ρ1 ++ [x])[A1.length]? = some x := by rw [← rl1.len]; simp
  obtain ⟨hn1, rfl⟩ := hn _ _ _ _ e3
  refine ⟨ρ1 ++ [x], _, .ref A1.length :: xs, .non, A', rl3, .cons (.ref hl) ((rv1.mono g1).mono g2), hn1, e3, fun ρ4 H4 v4 x4 rl4 rv4 => ?_⟩
  cases rv4
  exact ⟨rfl, k ρ4 H4 _ (((x1.trans g1).trans g2).trans x4) rl4 (.ref (pre_at x4.pre hl))⟩
theorem r_make {c : Nat} (h7 : c < 7) {f : Fun} {n k : Nat} {fa : Addr} {fd : FuncData} {ps : List Str} {x : Str} {e : Expr} {es : List Expr} {ds : AD} {p pos : Pos} (Mk : L2.Mk X.K (cm c) fa) (F : L2.FnOk X.prog X.w X.K X.mg X.base L2.CX0 k fa fd ps (SpF X.K cm f n)) (hn : ∀ vs A v A', f vs A = .ok v A' → vs.length = n ∧ v = .non) (hr : L2.Room (k + 1) X.A)
    (hg : L2.Gl X x) (hm : X.mg x = some (.ref (cm c))) (hb : L2.Binds X.K fd ps []) (ha : L2.PA X (e :: es) (EvA X.K cm ds)) (hdb : (x == ("__debug__" : Str)) = false := by decide) (he : starEach (e :: es) X.env = (false, eval e X.env) :: starEach es X.env := by rfl) (hpl : (backTo pos (starEach es X.env)).any (·.1) = false := by rfl) :
    L2.PE X (.Call (.Name x p) (e :: es) [] pos) (EvE X.K cm (eMake c f ds)) :=
  PE_imp (L2.pe_make Mk F hr hg hm hb .nil L2.pass0 ha hdb he hpl) fun σ H Q h => ev_make h7 hn h
noncomputable def Ite (K : PySem.W.Frag) (a : Addr) : L2.It :=
  ⟨fun i H => ∃ xs x, L2.SqL K H a xs ∧ xs[i]? = some x, fun i H x H' => ∃ y p, (∀ xs, L2.SqL K H a xs → xs[i]? = some y) ∧ H p = none ∧ x = .ref p ∧ H' = L2.upd H p (.tup [.int i, y]), fun i H => ∃ xs, L2.SqL K H a xs ∧ xs.length ≤ i⟩
noncomputable def Itf (vs : List L2.V) : L2.It := ⟨fun i _ => i < vs.length, fun i H x H' => H' = H ∧ vs[i]? = some x, fun i _ => vs.length ≤ i⟩
noncomputable def SqK (k : Bool) (K : PySem.W.Frag) (H : L2.Hp) (a : Addr) (xs : List L2.V) : Prop := match k with
  | true => L2.SqT K H a xs
  | false => L2.SqL K H a xs
noncomputable def kindOf : PV → Bool
  | .tup _ => true
  | _ => false
noncomputable def Itz (K : PySem.W.Frag) (k1 k2 : Bool) (a b : Addr) : L2.It :=
  ⟨fun i H => ∃ xs ys x y, SqK k1 K H a xs ∧ SqK k2 K H b ys ∧ xs[i]? = some x ∧ ys[i]? = some y,
   fun i H v H' => ∃ x y p, (∀ xs, SqK k1 K H a xs → xs[i]? = some x) ∧ (∀ ys, SqK k2 K H b ys → ys[i]? = some y) ∧ H p = none ∧ v = .ref p ∧ H' = L2.upd H p (.tup [x, y]),
   fun i H => ∃ xs ys, SqK k1 K H a xs ∧ SqK k2 K H b ys ∧ (xs.length ≤ i ∨ ys.length ≤ i)⟩
theorem seqk_read {K : PySem.W.Frag} {ρ : List Addr} {H : L2.Hp} {A : PHp} {l : List PV} {v : L2.V} {x : PV} {A' : PHp} (rl : Rel K cm ρ A H) (r : RV ρ H x v) (h : seqOf x A = .ok l A') : A' = A ∧ ∃ a xs, v = .ref a ∧ SqK (kindOf x) K H a xs ∧ RVs ρ H l xs := by
  cases x with
  | ref n =>
    obtain ⟨e, a, xs, h1, h2, h3⟩ := lst_read rl r h
    exact ⟨e, a, xs, h1, h2, h3⟩
  | tup m =>
    cases h
    cases r with
    | tup h1 h2 => exact ⟨rfl, _, _, rfl, L2.SqT.of h1, h2⟩
  | _ => cases h
noncomputable def RIt (K : PySem.W.Frag) (ρ : List Addr) (H : L2.Hp) : It → L2.It → Prop
  | .rng lo n, j => j = L2.Itr lo n
  | .lst m, j => ∃ a, ρ[m]? = some a ∧ j = L2.Itl K a
  | .tup l, j => ∃ a vs, H a = some (.tup vs) ∧ RVs ρ H l vs ∧ j = L2.Itt K a
  | .enm m, j => ∃ a, ρ[m]? = some a ∧ j = Ite K a
  | .fix l, j => ∃ vs, RVs ρ H l vs ∧ j = Itf vs
  | .zip x y, j => ∃ a b, RV ρ H x (.ref a) ∧ RV ρ H y (.ref b) ∧ j = Itz K (kindOf x) (kindOf y) a b
theorem RIt.mono {K : PySem.W.Frag} {ρ ρ' : List Addr} {H H' : L2.Hp} {J : It} {j : L2.It} (h : RIt K ρ H J j) (e : Ext ρ H ρ' H') : RIt K ρ' H' J j := by
  cases J with
  | rng lo n => exact h
  | lst m => obtain ⟨a, h1, h2⟩ := h; exact ⟨a, pre_at e.pre h1, h2⟩
  | tup l => obtain ⟨a, vs, h1, h2, h3⟩ := h; exact ⟨a, vs, e.tup _ _ h1, h2.mono e, h3⟩
  | enm m => obtain ⟨a, h1, h2⟩ := h; exact ⟨a, pre_at e.pre h1, h2⟩
  | fix l => obtain ⟨vs, h1, h2⟩ := h; exact ⟨vs, h1.mono e, h2⟩
  | zip x y => obtain ⟨a, b, h1, h2, h3⟩ := h; exact ⟨a, b, h1.mono e, h2.mono e, h3⟩
noncomputable def EvI (K : PySem.W.Frag) (cm : Nat → Addr) (d : ID) : L2.TI := fun σ H R => ∃ (ρ : List Addr) (A : PHp) (σp : PSt) (J : It) (A' : PHp), Rel K cm ρ A H ∧ RSt ρ H σp σ ∧ d σp A = .ok J A' ∧
  ∀ ρ' H' j, Ext ρ H ρ' H' → Rel K cm ρ' A' H' → RIt K ρ' H' J j → R j H'
noncomputable def ItemIs (K : PySem.W.Frag) (cm : Nat → Addr) (ρ : List Addr) (A : PHp) (H : L2.Hp) (j : L2.It) (i : Nat) : Option PV → Prop
  | none => j.stop i H
  | some v => j.go i H ∧ ∀ y H', j.yld i H y H' → Ext ρ H ρ H' ∧ Rel K cm ρ A H' ∧ RV ρ H' v y
theorem item_ok {K : PySem.W.Frag} {ρ : List Addr} {H : L2.Hp} {A A' : PHp} {J : It} {j : L2.It} {i : Nat} {x : Option PV} (rl : Rel K cm ρ A H) (rj : RIt K ρ H J j) (e : item J i A = .ok x A') :
    A' = A ∧ ItemIs K cm ρ A H j i x := by
  cases J with
  | rng lo n =>
    cases e
    cases rj
    refine ⟨rfl, ?_⟩
    by_cases h : i < n
    · show ItemIs K cm ρ A H _ i (if i < n then some (PV.int (lo + i)) else none)
      rw [if_pos h]
      refine ⟨h, fun y H' ⟨e1, e2⟩ => ?_⟩
      subst e1; subst e2
      exact ⟨Ext.refl _ _, rl, .int _⟩
    · show ItemIs K cm ρ A H _ i (if i < n then some (PV.int (lo + i)) else none)
      rw [if_neg h]
      exact Nat.le_of_not_lt h
  | fix l =>
    cases e
    obtain ⟨vs, r, rfl⟩ := rj
    refine ⟨rfl, ?_⟩
    rcases hi : l[i]? with _ | v
    · show vs.length ≤ i
      rw [← r.length]; exact List.getElem?_eq_none_iff.mp hi
    · obtain ⟨u, hu, rv⟩ := r.get hi
      refine ⟨(List.getElem?_eq_some_iff.mp hu).1, fun y H' ⟨e3, e4⟩ => ?_⟩
      subst e3
      rw [hu] at e4; cases e4
      exact ⟨Ext.refl _ _, rl, rv⟩
  | zip x y =>
    obtain ⟨a, b, ra, rb, rfl⟩ := rj
    obtain ⟨l, A1, e1, e2⟩ := bnd_inv e
    obtain ⟨rfl, a', xs, h1, q1, r1⟩ := seqk_read rl ra e1
    cases h1
    obtain ⟨m, A2, e3, e4⟩ := bnd_inv e2
    obtain ⟨rfl, b', ys, h2, q2, r2⟩ := seqk_read rl rb e3
    cases h2
    cases e4
    refine ⟨rfl, ?_⟩
    rcases hi : l[i]? with _ | u
    · exact ⟨xs, ys, q1, q2, .inl (by rw [← r1.length]; exact List.getElem?_eq_none_iff.mp hi)⟩
    · rcases hj : m[i]? with _ | v
      · exact ⟨xs, ys, q1, q2, .inr (by rw [← r2.length]; exact List.getElem?_eq_none_iff.mp hj)⟩
      · obtain ⟨u', hu, ru⟩ := r1.get hi
        obtain ⟨v', hv, rv⟩ := r2.get hj
        refine ⟨⟨xs, ys, u', v', q1, q2, hu, hv⟩, fun z H' ⟨x', y', p, g1, g2, g3, g4, g5⟩ => ?_⟩
        have g1 := g1 xs q1
        have g2 := g2 ys q2
        rw [hu] at g1; cases g1
        rw [hv] at g2; cases g2
        subst g4; subst g5
        exact ⟨Ext.same g3, rl.tup g3, .tup L2.upd_same (.cons (ru.mono (Ext.same g3)) (.cons (rv.mono (Ext.same g3)) .nil))⟩
  | lst m =>
    obtain ⟨a, ha, rfl⟩ := rj
    obtain ⟨l, A1, e1, e2⟩ := bnd_inv e
    obtain ⟨rfl, b, xs, hb, hs, r⟩ := lst_read rl (.ref ha) e1
    cases hb
    cases e2
    refine ⟨rfl, ?_⟩
    rcases hi : l[i]? with _ | v
    · exact ⟨xs, hs, by rw [← r.length]; exact List.getElem?_eq_none_iff.mp hi⟩
    · obtain ⟨u, hu, rv⟩ := r.get hi
      refine ⟨⟨xs, u, hs, hu⟩, fun y H' ⟨e3, e4⟩ => ?_⟩
      subst e3
      have := e4 xs hs
      rw [hu] at this; cases this
      exact ⟨Ext.refl _ _, rl, rv⟩
  | tup l =>
    obtain ⟨a, vs, ha, r, rfl⟩ := rj
    cases e
    refine ⟨rfl, ?_⟩
    rcases hi : l[i]? with _ | v
    · exact ⟨vs, L2.SqT.of ha, by rw [← r.length]; exact List.getElem?_eq_none_iff.mp hi⟩
    · obtain ⟨u, hu, rv⟩ := r.get hi
      refine ⟨⟨vs, u, L2.SqT.of ha, hu⟩, fun y H' ⟨e3, e4⟩ => ?_⟩
      subst e3
      have := e4 vs (L2.SqT.of ha)
      rw [hu] at this; cases this
      exact ⟨Ext.refl _ _, rl, rv⟩
  | enm m =>
    obtain ⟨a, ha, rfl⟩ := rj
    obtain ⟨l, A1, e1, e2⟩ := bnd_inv e
    obtain ⟨rfl, b, xs, hb, hs, r⟩ := lst_read rl (.ref ha) e1
    cases hb
    cases e2
    refine ⟨rfl, ?_⟩
    rcases hi : l[i]? with _ | v
    · exact ⟨xs, hs, by rw [← r.length]; exact List.getElem?_eq_none_iff.mp hi⟩
    · obtain ⟨u, hu, rv⟩ := r.get hi
      refine ⟨⟨xs, u, hs, hu⟩, fun y H' ⟨y', p, h2, h3, h4, h5⟩ => ?_⟩
      have h2 := h2 xs hs
      rw [hu] at h2; cases h2
      subst h4; subst h5
      exact ⟨Ext.same h3, rl.tup h3, .tup L2.upd_same (.cons (.int _) (.cons (rv.mono (Ext.same h3)) .nil))⟩
theorem fuel_same {J : It} {A A' : PHp} {n : Nat} (h : fuelOf J A = .ok n A') : A' = A := by
  have key : ∀ a, bnd (lstAt a) (fun l => ret l.length) A = .ok n A' → A' = A := fun a h => by
    obtain ⟨l, A1, e1, e2⟩ := bnd_inv h
    cases e2
    unfold lstAt at e1
    rcases hA : A[a]? with _ | o
    · rw [hA] at e1; cases e1
    · cases o <;> rw [hA] at e1 <;> cases e1 <;> rfl
  cases J with
  | rng lo n => cases h; rfl
  | lst m => exact key m h
  | tup l => cases h; rfl
  | fix l => cases h; rfl
  | enm m => exact key m h
  | zip x y =>
    cases x with
    | ref n =>
      exact key n h
    | tup l => cases h; rfl
    | _ => cases h
theorem s_for {tg iter : Expr} {body : List Stmt} {it : ID} {g : GD} {b : SD} {pos : Pos} (hp : PassesOwn (model X.prog X.w) X.A X.env X.xe) (hc : X.calm = true) (hi : L2.PI X tg iter (EvI X.K cm it)) (hg : L2.PG X tg (EvG X.K cm g)) (hb : L2.PSs X body (EvS X.K cm b))
    (hs : ∀ x, foldedSetIterable iter X.env x = pure x := by intro _; rfl) : L2.PS X (.For tg iter body [] pos) (EvS X.K cm (sFor it g b)) :=
  PS_imp (L2.ps_for hp hc hi hg hb hs) fun D σ H ⟨ρ, A, σp, f, A', rl, rs, ev, k⟩ => by
    obtain ⟨J, A1, e1, ev1⟩ := bnd_inv ev
    obtain ⟨n, A2, e2, ev2⟩ := bnd_inv ev1
    obtain rfl := fuel_same e2
    refine ⟨ρ, A, σp, J, A2, rl, rs, e1, fun ρ1 H1 j x1 rl1 rj => ?_⟩
    refine ⟨fun i m σ' H' => ∃ ρ' B σp', Ext ρ1 H1 ρ' H' ∧ Rel X.K cm ρ' B H' ∧ RSt ρ' H' σp' σ' ∧ turns J g b (m + 1) i σp' B = .ok f A', ⟨n, ρ1, A2, σp, Ext.refl _ _, rl1, rs.mono x1, ev2⟩, ?_⟩
    rintro i m σ' H' ⟨ρ', B, σp', x2, rl2, rs2, ev3⟩
    rw [turns_succ] at ev3
    obtain ⟨x, B1, e3, ev4⟩ := bnd_inv ev3
    obtain ⟨rfl, hit⟩ := item_ok rl2 (rj.mono x2) e3
    cases x with
    | none =>
      cases ev4
      exact .inl ⟨hit, k ρ' H' (x1.trans x2) rl2 σ' rs2⟩
    | some v =>
      refine .inr ⟨hit.1, fun σ3 H3 => ∃ ρ3 B3 σp3, Ext ρ1 H1 ρ3 H3 ∧ Rel X.K cm ρ3 B3 H3 ∧ RSt ρ3 H3 σp3 σ3 ∧ turns J g b m (i + 1) σp3 B3 = .ok f A', ?_, fun y H3 hy => ?_⟩
      · rintro σ3 H3 ⟨ρ3, B3, σp3, x3, rl3, rs3, ev5⟩
        cases m with
        | zero => rw [turns_zero] at ev5; cases ev5
        | succ m => exact ⟨m, Nat.lt_succ_self _, ρ3, B3, σp3, x3, rl3, rs3, ev5⟩
      · obtain ⟨x3, rl3, rv3⟩ := hit.2 y H3 hy
        obtain ⟨σ4, B4, e4, ev5⟩ := bnd_inv ev4
        obtain ⟨o, B5, e5, ev6⟩ := bnd_inv ev5
        refine ⟨ρ', B1, σp', v, σ4, B4, rl3, rs2.mono x3, rv3, e4, fun ρ4 H4 σ5 x4 rl4 rs4 => ⟨ρ4, B4, σ4, o, B5, rl4, rs4, e5, fun ρ5 H5 x5 rl5 => ?_⟩⟩
        have x15 := (((x2.trans x3).trans x4).trans x5)
        cases o with
        | nx σ6 => exact fun σ7 rs7 => ⟨ρ5, B5, σ6, x15, rl5, rs7, ev6⟩
        | ct σ6 => exact fun σ7 rs7 => ⟨ρ5, B5, σ6, x15, rl5, rs7, ev6⟩
        | bk σ6 => cases ev6; exact fun σ7 rs7 => k ρ5 H5 (x1.trans x15) rl5 σ7 rs7
        | rt u => cases ev6; exact fun v' rv' => k ρ5 H5 (x1.trans x15) rl5 v' rv'
theorem s_while {c : Expr} {body : List Stmt} {t : TD} {b : SD} {pos : Pos} (hp : PassesOwn (model X.prog X.w) X.A X.env X.xe) (hc : L2.PT X c (EvT X.K cm t)) (hb : L2.PSs X body (EvS X.K cm b)) : L2.PS X (.While c body [] pos) (EvS X.K cm (sWhile t b)) :=
  PS_imp (L2.ps_while hp hc hb) fun D σ H ⟨ρ, A, σp, f, A', rl, rs, ev, k⟩ => by
    refine ⟨fun m σ' H' => ∃ ρ' B σp', Ext ρ H ρ' H' ∧ Rel X.K cm ρ' B H' ∧ RSt ρ' H' σp' σ' ∧ wturns t b m σp' B = .ok f A', ⟨LIM, ρ, A, σp, Ext.refl _ _, rl, rs, ev⟩, ?_⟩
    rintro m σ' H' ⟨ρ', B, σp', x1, rl1, rs1, ev1⟩
    cases m with
    | zero => rw [wturns_zero] at ev1; cases ev1
    | succ m =>
      rw [wturns_succ] at ev1
      obtain ⟨x, B1, e1, ev2⟩ := bnd_inv ev1
      refine ⟨ρ', B, σp', x, B1, rl1, rs1, e1, fun ρ2 H2 x2 rl2 => ?_⟩
      cases x with
      | false =>
        rw [if_neg (by simp)] at ev2 ⊢
        cases ev2
        exact k ρ2 H2 (x1.trans x2) rl2 σ' (rs1.mono x2)
      | true =>
        rw [if_pos rfl] at ev2 ⊢
        obtain ⟨o, B2, e2, ev3⟩ := bnd_inv ev2
        refine ⟨fun σ3 H3 => ∃ ρ3 B3 σp3, Ext ρ H ρ3 H3 ∧ Rel X.K cm ρ3 B3 H3 ∧ RSt ρ3 H3 σp3 σ3 ∧ wturns t b m σp3 B3 = .ok f A', fun σ3 H3 h => ⟨m, Nat.lt_succ_self _, h⟩, ρ2, B1, σp', o, B2, rl2, rs1.mono x2, e2, fun ρ3 H3 x3 rl3 => ?_⟩
        have x13 := (x1.trans x2).trans x3
        cases o with
        | nx σ6 => exact fun σ7 rs7 => ⟨ρ3, B2, σ6, x13, rl3, rs7, ev3⟩
        | ct σ6 => exact fun σ7 rs7 => ⟨ρ3, B2, σ6, x13, rl3, rs7, ev3⟩
        | bk σ6 => cases ev3; exact fun σ7 rs7 => k ρ3 H3 x13 rl3 σ7 rs7
        | rt u => cases ev3; exact fun v' rv' => k ρ3 H3 x13 rl3 v' rv'
theorem PI_imp {tg iter : Expr} {t t' : L2.TI} (h : L2.PI X tg iter t) (k : ∀ σ H R, t' σ H R → t σ H R) : L2.PI X tg iter t' := fun pins s σ H R I q => h pins s σ H R I (k σ H R q)
theorem i_rng1 {tg a : Expr} {d : ED} {p pos : Pos} (hg : L2.Gl X "range") (hm : X.mg "range" = none) (ha : L2.PE X a (EvE X.K cm d)) (hs : starEach [a] X.env = [(false, eval a X.env)] := by rfl) : L2.PI X tg (.Call (.Name "range" p) [a] [] pos) (EvI X.K cm (iRng1 d)) :=
  PI_imp (L2.pi_range1 hg hm (r_cons ha r_nil hs) hs) fun σ H R ⟨ρ, A, σp, J, A', rl, rs, ev, k⟩ => by
    obtain ⟨x, A1, e1, ev1⟩ := bnd_inv ev
    refine ⟨ρ, A, σp, [x], A1, rl, rs, by show bnd (d σp) _ A = _; rw [bnd_ok e1]; rfl, fun ρ1 H1 vs1 x1 rl1 rv1 => ?_⟩
    cases x with
    | int i =>
      obtain ⟨c, ev2⟩ := guard_inv ev1
      cases ev2
      cases rv1 with
      | cons hv hr => cases hr; cases hv; exact ⟨i, rfl, c.1, c.2, k ρ1 H1 _ x1 rl1 rfl⟩
    | _ => cases ev1
noncomputable def iSeq2 (K : PySem.W.Frag) (tl : L2.TE) : L2.TI := fun σ H R => tl σ H fun x H1 => (∃ a, x = .ref a ∧ (∃ xs, L2.SqL K H1 a xs) ∧ R (L2.Itl K a) H1) ∨ (∃ a, x = .ref a ∧ (∃ xs, L2.SqT K H1 a xs) ∧ R (L2.Itt K a) H1)
theorem pi_seq2 {tg l : Expr} {tl : L2.TE} (hl : L2.PE X l tl) : L2.PI X tg l (iSeq2 X.K tl) := by
  intro pins s σ H R I h
  have a1 := L2.pi_list (tg := tg) hl
  have a2 := L2.pi_tup (tg := tg) hl
  refine L2.thn (hl pins s σ H _ I h) fun v s1 ⟨x, H1, I1, r1, q1⟩ => ?_
  rcases q1 with ⟨a, e, ⟨xs, hq⟩, q⟩ | ⟨a, e, ⟨xs, hq⟩, q⟩
  · subst e
    cases r1
    obtain ⟨its, rv, p, hz⟩ := I1.list hq
    refine wpAny_pyIter_list p.isList ?_
    refine ⟨s1.heap.objs.size, [s1.heap.objs.size], _, _, H1, rfl, I1.kept (t' := s1.toks) fun b o e => Heap.get?_push_of_some _ e, L2.turn_list a _, ⟨_, Heap.get?_push_size _ rfl, rfl, rfl⟩, fun b hb => ?_, q⟩
    have e : b = s1.heap.objs.size := by simpa using hb
    subst e
    exact I1.fpOk (Nat.le_refl _) (I1.hok.fresh (Nat.le_refl _))
  · subst e
    cases r1
    obtain ⟨its, rv, p, hz⟩ := I1.tuple hq
    refine wpAny_pyIter_tuple (show s1.heap.IsTuple a its.toArray from p) ?_
    refine ⟨s1.heap.objs.size, [s1.heap.objs.size], _, _, H1, rfl, I1.kept (t' := s1.toks) fun b o e => Heap.get?_push_of_some _ e, L2.turn_tuple a _, ⟨_, Heap.get?_push_size _ rfl, rfl, rfl⟩, fun b hb => ?_, q⟩
    have e : b = s1.heap.objs.size := by simpa using hb
    subst e
    exact I1.fpOk (Nat.le_refl _) (I1.hok.fresh (Nat.le_refl _))
theorem i_seq {tg l : Expr} {d : ED} (hl : L2.PE X l (EvE X.K cm d)) : L2.PI X tg l (EvI X.K cm (iSeq d)) := PI_imp (pi_seq2 hl) fun σ H R ⟨ρ, A, σp, J, A', rl, rs, ev, k⟩ => by
  obtain ⟨x, A1, e1, ev1⟩ := bnd_inv ev
  refine ⟨ρ, A, σp, x, A1, rl, rs, e1, fun ρ1 H1 v1 x1 rl1 rv1 => ?_⟩
  cases x with
  | ref n =>
    obtain ⟨l, A2, e2, ev2⟩ := bnd_inv ev1
    obtain ⟨rfl, a, xs, rfl, hs, r⟩ := lst_read rl1 rv1 e2
    cases ev2
    cases rv1 with
    | ref hn => exact .inl ⟨a, rfl, ⟨xs, hs⟩, k ρ1 H1 _ x1 rl1 ⟨a, hn, rfl⟩⟩
  | tup l =>
    cases ev1
    cases rv1 with
    | tup ha r => exact .inr ⟨_, rfl, ⟨_, L2.SqT.of ha⟩, k ρ1 H1 _ x1 rl1 ⟨_, _, ha, r, rfl⟩⟩
  | _ => cases ev1
end
end Ws
namespace Ws
open PySem
section
variable {ρ : List Addr} {H : L2.Hp}
mutual
theorem RV.uniq : ∀ {x y : PV} {v : L2.V}, RV ρ H x v → RV ρ H y v → nice x = true → nice y = true → x = y
  | _, _, _, .non, h, _, _ => by cases h; rfl
  | _, _, _, .bl b, _, n, _ => by simp [nice] at n
  | _, _, _, .int i, h, _, _ => by cases h; rfl
  | _, _, _, .str z, h, _, _ => by cases h; rfl
  | _, _, _, .tup h1 r1, h, n1, n2 => by
    cases h with
    | tup h2 r2 =>
      rw [h1] at h2; cases h2
      rw [RVs.uniq r1 r2 (by simpa [nice] using n1) (by simpa [nice] using n2)]
    | ref h2 => simp [nice] at n2
  | _, _, _, .ref _, _, n, _ => by simp [nice] at n
theorem RVs.uniq : ∀ {l m : List PV} {vs : List L2.V}, RVs ρ H l vs → RVs ρ H m vs → nices l = true → nices m = true → l = m
  | _, _, _, .nil, h, _, _ => by cases h; rfl
  | _, _, _, .cons h1 r1, h, n1, n2 => by
    cases h with
    | cons h2 r2 =>
      simp only [nices, Bool.and_eq_true] at n1 n2
      rw [RV.uniq h1 h2 n1.1 n2.1, RVs.uniq r1 r2 n1.2 n2.2]
end
end
theorem eqvs_len : ∀ {l m : List PV}, l.length ≠ m.length → eqvs l m = false
  | [], [], h => absurd rfl h
  | [], _ :: _, _ => rfl
  | _ :: _, [], _ => rfl
  | x :: xs, y :: ys, h => by
    have : xs.length ≠ ys.length := by simpa using h
    simp [eqvs, eqvs_len this]
theorem eqvs_all : ∀ {l m : List PV}, l.length = m.length → eqvs l m = (List.range l.length).all fun j => eqv (l.getD j .non) (m.getD j .non)
  | [], [], _ => rfl
  | [], _ :: _, h => by simp at h
  | _ :: _, [], h => by simp at h
  | x :: xs, y :: ys, h => by
    have e : xs.length = ys.length := by simpa using h
    rw [List.length_cons, List.range_succ_eq_map, List.all_cons, List.all_map]
    simp only [eqvs, eqvs_all e]
    rfl
theorem eqvs_tup {l m : List PV} : eqvs l m = ((List.range (min l.length m.length)).all (fun j => eqv (l.getD j .non) (m.getD j .non)) && l.length == m.length) := by
  by_cases h : l.length = m.length
  · rw [eqvs_all h, h]; simp
  · rw [eqvs_len h, beq_eq_false_iff_ne.mpr h, Bool.and_false]
section
variable {X : L2.Cx} {pins : List (Addr × Obj)} {σ : L2.St} {H : L2.Hp} {s : Shared} {ρ : List Addr} {A : Around}
open PySem.SeqAt
theorem eqAt0 {x y : PV} {vx vy : L2.V} {u v : Value} (rx : RV ρ H x vx) (ry : RV ρ H y vy) (hx : flat0 x = true) (hy : flat0 y = true) (ux : L2.RelV vx u) (uy : L2.RelV vy v) : EqAt A s u v (eqv x y) := by
  have key := L2.eqAt_V (A := A) (s := s) ux uy (by cases rx <;> simp_all [flat0, L2.flatV]) (by cases ry <;> simp_all [flat0, L2.flatV])
  have e : L2.eqV vx vy = eqv x y := by
    cases rx <;> cases ry <;> simp_all [flat0, L2.eqV, eqv] <;> (try (exact (Bool.beq_eq_decide_eq _ _)))
  rw [← e]; exact key
theorem eqAt_tups {f : PV → Bool} {l m : List PV} {a b : Addr} {vs ws : List L2.V} (I : L2.Inv X pins σ H s) (ha : H a = some (.tup vs)) (hb : H b = some (.tup ws)) (r1 : RVs ρ H l vs) (r2 : RVs ρ H m ws) (hl : l.all f = true) (hm : m.all f = true) (hf : ∀ x, f x = true → nice x = true) (hu : A.units < cLine)
    (ih : ∀ x y vx vy u v, RV ρ H x vx → RV ρ H y vy → f x = true → f y = true → L2.RelV vx u → L2.RelV vy v → EqAt A.in1 s u v (eqv x y)) :
    (a ≠ b → RcAt A s (.ref a) (.ref b) (eqvs l m)) ∧ RcAt A s (.ref a) (.ref b) (eqvs l m) ∧ EqAt A s (.ref a) (.ref b) (eqvs l m) := by
  obtain ⟨_, its, ri, pi⟩ := I.hok a _ ha
  obtain ⟨_, its2, ri2, pi2⟩ := I.hok b _ hb
  have rc : RcAt A s (.ref a) (.ref b) (eqvs l m) := by
    have h := RcAt.tuples (A := A) (s := s) (l := a) (b := b) (items := its.toArray) (items2 := its2.toArray) (e := fun j => eqv (l.getD j .non) (m.getD j .non)) pi pi2 hu (fun j h1 h2 => by
      simp only [List.size_toArray] at h1 h2
      have l1 : j < vs.length := by rw [ri.length]; exact h1
      have l2 : j < ws.length := by rw [ri2.length]; exact h2
      obtain ⟨x, ex, rx⟩ := r1.get' (i := j) (v := vs[j]) (by simp [l1])
      obtain ⟨y, ey, ry⟩ := r2.get' (i := j) (v := ws[j]) (by simp [l2])
      obtain ⟨u, eu, ru⟩ := ri.get (i := j) (x := vs[j]) (by simp [l1])
      obtain ⟨v, ev, rv⟩ := ri2.get (i := j) (x := ws[j]) (by simp [l2])
      have d1 : l.getD j .non = x := by rw [List.getD_eq_getElem?_getD, ex]; rfl
      have d2 : m.getD j .non = y := by rw [List.getD_eq_getElem?_getD, ey]; rfl
      have q1 : its.toArray[j] = u := by
        rw [List.getElem?_eq_getElem h1] at eu
        simpa using Option.some.inj eu
      have q2 : its2.toArray[j] = v := by
        rw [List.getElem?_eq_getElem h2] at ev
        simpa using Option.some.inj ev
      rw [d1, d2, q1, q2]
      exact ih x y _ _ u v rx ry (List.all_eq_true.mp hl x (List.mem_of_getElem? ex)) (List.all_eq_true.mp hm y (List.mem_of_getElem? ey)) ru rv)
    rw [eqvs_tup]
    have z1 : its.toArray.size = l.length := by rw [List.size_toArray, ← ri.length, r1.length]
    have z2 : its2.toArray.size = m.length := by rw [List.size_toArray, ← ri2.length, r2.length]
    rw [z1, z2] at h
    exact h
  refine ⟨fun _ => rc, rc, ?_⟩
  by_cases hab : a = b
  · subst hab
    rw [ha] at hb; cases hb
    have e := RVs.uniq r1 r2 (nices_of hf l hl) (nices_of hf m hm)
    subst e
    rw [(eqvs_nice l l (nices_of hf l hl)).mpr rfl]
    exact EqAt.same _
  · exact EqAt.of_refs hab rc
theorem eqAt_mix {x y : PV} {vx vy : L2.V} {u v : Value} (I : L2.Inv X pins σ H s) (rx : RV ρ H x vx) (ry : RV ρ H y vy) (hu : A.units < cLine) (ux : L2.RelV vx u) (uy : L2.RelV vy v)
    (h : (∃ l, x = .tup l ∧ flat0 y = true) ∨ (∃ m, y = .tup m ∧ flat0 x = true)) : EqAt A s u v (eqv x y) ∧ RcAt A s u v (eqv x y) ∧ RcNeAt A s u v (!eqv x y) := by
  rcases h with ⟨l, rfl, hy⟩ | ⟨m, rfl, hx⟩
  · cases rx with
    | tup ha r =>
      obtain ⟨_, its, ri, pi⟩ := I.hok _ _ ha
      cases ux
      cases ry with
      | non => cases uy; exact ⟨EqAt.tuple_none pi hu, RcAt.tuple_none pi hu, RcNeAt.tuple_none pi hu⟩
      | int i => obtain ⟨t, rfl⟩ := uy; exact ⟨EqAt.tuple_int _ _ pi hu, RcAt.tuple_int _ _ pi hu, RcNeAt.tuple_int _ _ pi hu⟩
      | str i => obtain ⟨t, rfl⟩ := uy; exact ⟨EqAt.tuple_str _ _ pi hu, RcAt.tuple_str _ _ pi hu, RcNeAt.tuple_str _ _ pi hu⟩
      | bl b => simp [flat0] at hy
      | tup h2 r2 => simp [flat0] at hy
      | ref h2 => simp [flat0] at hy
  · cases ry with
    | tup ha r =>
      obtain ⟨_, its, ri, pi⟩ := I.hok _ _ ha
      cases uy
      cases rx with
      | non => cases ux; exact ⟨EqAt.none_tuple pi hu, RcAt.none_tuple pi hu, RcNeAt.none_tuple pi hu⟩
      | int i => obtain ⟨t, rfl⟩ := ux; exact ⟨EqAt.int_tuple _ _ pi hu, RcAt.int_tuple _ _ pi hu, RcNeAt.int_tuple _ _ pi hu⟩
      | str i => obtain ⟨t, rfl⟩ := ux; exact ⟨EqAt.str_tuple _ _ pi hu, RcAt.str_tuple _ _ pi hu, RcNeAt.str_tuple _ _ pi hu⟩
      | bl b => simp [flat0] at hx
      | tup h2 r2 => simp [flat0] at hx
      | ref h2 => simp [flat0] at hx
theorem in1_units (A : Around) (n : Nat) (h : A.units + (n + 1) < cLine) : A.in1.units + n < cLine := by
  show A.units + 1 + n < cLine; omega
theorem eqAt1 (I : L2.Inv X pins σ H s) (A : Around) (hu : A.units + 1 < cLine) (x y : PV) (vx vy : L2.V) (u v : Value) (rx : RV ρ H x vx) (ry : RV ρ H y vy) (hx : flat1 x = true) (hy : flat1 y = true) (ux : L2.RelV vx u) (uy : L2.RelV vy v) : EqAt A s u v (eqv x y) := by
  cases x with
  | tup l =>
    cases y with
    | tup m =>
      cases rx with
      | tup ha r1 =>
        cases ry with
        | tup hb r2 =>
          cases ux; cases uy
          exact (eqAt_tups I ha hb r1 r2 hx hy nice0 (by omega) (fun x y vx vy u v rx ry h1 h2 u1 u2 => eqAt0 rx ry h1 h2 u1 u2)).2.2
    | _ => exact (eqAt_mix I rx ry (by omega) ux uy (.inl ⟨_, rfl, hy⟩)).1
  | _ =>
    cases y with
    | tup m => exact (eqAt_mix I rx ry (by omega) ux uy (.inr ⟨_, rfl, hx⟩)).1
    | _ => exact eqAt0 rx ry hx hy ux uy
theorem eqAt2 (I : L2.Inv X pins σ H s) (A : Around) (hu : A.units + 2 < cLine) (x y : PV) (vx vy : L2.V) (u v : Value) (rx : RV ρ H x vx) (ry : RV ρ H y vy) (hx : flat2 x = true) (hy : flat2 y = true) (ux : L2.RelV vx u) (uy : L2.RelV vy v) : EqAt A s u v (eqv x y) := by
  cases x with
  | tup l =>
    cases y with
    | tup m =>
      cases rx with
      | tup ha r1 =>
        cases ry with
        | tup hb r2 =>
          cases ux; cases uy
          exact (eqAt_tups I ha hb r1 r2 hx hy nice1 (by omega) (fun x y vx vy u v rx ry h1 h2 u1 u2 => eqAt1 I A.in1 (in1_units A 1 (by omega)) x y vx vy u v rx ry h1 h2 u1 u2)).2.2
    | _ => exact (eqAt_mix I rx ry (by omega) ux uy (.inl ⟨_, rfl, hy⟩)).1
  | _ =>
    cases y with
    | tup m => exact (eqAt_mix I rx ry (by omega) ux uy (.inr ⟨_, rfl, hx⟩)).1
    | _ => exact eqAt0 rx ry hx hy ux uy
theorem eqAt3 (I : L2.Inv X pins σ H s) (A : Around) (hu : A.units + 3 < cLine) (x y : PV) (vx vy : L2.V) (u v : Value) (rx : RV ρ H x vx) (ry : RV ρ H y vy) (hx : plain x = true) (hy : plain y = true) (ux : L2.RelV vx u) (uy : L2.RelV vy v) : EqAt A s u v (eqv x y) := by
  cases x with
  | tup l =>
    cases y with
    | tup m =>
      cases rx with
      | tup ha r1 =>
        cases ry with
        | tup hb r2 =>
          cases ux; cases uy
          exact (eqAt_tups I ha hb r1 r2 hx hy nice2 (by omega) (fun x y vx vy u v rx ry h1 h2 u1 u2 => eqAt2 I A.in1 (in1_units A 2 (by omega)) x y vx vy u v rx ry h1 h2 u1 u2)).2.2
    | _ => exact (eqAt_mix I rx ry (by omega) ux uy (.inl ⟨_, rfl, hy⟩)).1
  | _ =>
    cases y with
    | tup m => exact (eqAt_mix I rx ry (by omega) ux uy (.inr ⟨_, rfl, hx⟩)).1
    | _ => exact eqAt0 rx ry hx hy ux uy
end
end Ws
namespace Ws
open PySem PySem.SeqAt
section
variable {X : L2.Cx} {cm : Nat → Addr} {pins : List (Addr × Obj)} {σ : L2.St} {H : L2.Hp} {s : Shared} {ρ : List Addr} {A : Around}
theorem rc0 {x y : PV} {vx vy : L2.V} {u v : Value} (rx : RV ρ H x vx) (ry : RV ρ H y vy) (hx : flat0 x = true) (hy : flat0 y = true) (ux : L2.RelV vx u) (uy : L2.RelV vy v) : RcAt A s u v (eqv x y) ∧ RcNeAt A s u v (!eqv x y) := by
  have hb : ∀ (i j : Int), (i == j) = decide (i = j) := fun i j => by rw [Bool.beq_eq_decide_eq]
  have hs : ∀ (i j : Str), (i == j) = decide (i = j) := fun i j => by rw [Bool.beq_eq_decide_eq]
  cases rx with
  | non =>
    cases ux
    cases ry with
    | non => cases uy; exact ⟨RcAt.none_none, RcNeAt.none_none⟩
    | int i => obtain ⟨t, rfl⟩ := uy; exact ⟨RcAt.none_int _ _, RcNeAt.none_int _ _⟩
    | str i => obtain ⟨t, rfl⟩ := uy; exact ⟨RcAt.none_str _ _, RcNeAt.none_str _ _⟩
    | _ => simp [flat0] at hy
  | int i =>
    obtain ⟨t, rfl⟩ := ux
    cases ry with
    | non => cases uy; exact ⟨RcAt.int_none _ _, RcNeAt.int_none _ _⟩
    | int j => obtain ⟨t', rfl⟩ := uy; simp only [eqv, ← hb]; exact ⟨RcAt.int_int _ _ _ _, RcNeAt.int_int _ _ _ _⟩
    | str j => obtain ⟨t', rfl⟩ := uy; exact ⟨RcAt.int_str _ _ _ _, RcNeAt.int_str _ _ _ _⟩
    | _ => simp [flat0] at hy
  | str i =>
    obtain ⟨t, rfl⟩ := ux
    cases ry with
    | non => cases uy; exact ⟨RcAt.str_none _ _, RcNeAt.str_none _ _⟩
    | int j => obtain ⟨t', rfl⟩ := uy; exact ⟨RcAt.str_int _ _ _ _, RcNeAt.str_int _ _ _ _⟩
    | str j => obtain ⟨t', rfl⟩ := uy; simp only [eqv, ← hs]; exact ⟨RcAt.str_str _ _ _ _, RcNeAt.str_str _ _ _ _⟩
    | _ => simp [flat0] at hy
  | _ => simp [flat0] at hx
theorem items_eq {f : PV → Bool} {l m : List PV} {vs ws : List L2.V} {its its2 : List Value} (r1 : RVs ρ H l vs) (r2 : RVs ρ H m ws) (ri : L2.Vals vs its) (ri2 : L2.Vals ws its2) (hl : l.all f = true) (hm : m.all f = true)
    (ih : ∀ x y vx vy u v, RV ρ H x vx → RV ρ H y vy → f x = true → f y = true → L2.RelV vx u → L2.RelV vy v → EqAt A s u v (eqv x y)) :
    ∀ j (h1 : j < its.toArray.size) (h2 : j < its2.toArray.size), EqAt A s its.toArray[j] its2.toArray[j] (eqv (l.getD j .non) (m.getD j .non)) := fun j h1 h2 => by
  simp only [List.size_toArray] at h1 h2
  have l1 : j < vs.length := by rw [ri.length]; exact h1
  have l2 : j < ws.length := by rw [ri2.length]; exact h2
  obtain ⟨x, ex, rx⟩ := r1.get' (i := j) (v := vs[j]) (by simp [l1])
  obtain ⟨y, ey, ry⟩ := r2.get' (i := j) (v := ws[j]) (by simp [l2])
  obtain ⟨u, eu, ru⟩ := ri.get (i := j) (x := vs[j]) (by simp [l1])
  obtain ⟨v, ev, rv⟩ := ri2.get (i := j) (x := ws[j]) (by simp [l2])
  have d1 : l.getD j .non = x := by rw [List.getD_eq_getElem?_getD, ex]; rfl
  have d2 : m.getD j .non = y := by rw [List.getD_eq_getElem?_getD, ey]; rfl
  have q1 : its.toArray[j] = u := by
    rw [List.getElem?_eq_getElem h1] at eu
    simpa using Option.some.inj eu
  have q2 : its2.toArray[j] = v := by
    rw [List.getElem?_eq_getElem h2] at ev
    simpa using Option.some.inj ev
  rw [d1, d2, q1, q2]
  exact ih x y _ _ u v rx ry (List.all_eq_true.mp hl x (List.mem_of_getElem? ex)) (List.all_eq_true.mp hm y (List.mem_of_getElem? ey)) ru rv
noncomputable def rEqP (K : PySem.W.Frag) (g : Bool → Bool) : L2.R2 := fun vx vy H Q => ∃ (ρ : List Addr), 
  (∃ x y, RV ρ H x vx ∧ RV ρ H y vy ∧ plain x = true ∧ plain y = true ∧ Q (.bl (g (eqv x y))) H) ∨ (∃ b c, vx = .bl b ∧ vy = .bl c ∧ Q (.bl (g (b == c))) H) ∨
  (∃ a b l m xs ys, vx = .ref a ∧ vy = .ref b ∧ L2.SqL K H a xs ∧ L2.SqL K H b ys ∧ RVs ρ H l xs ∧ RVs ρ H m ys ∧ plains l = true ∧ plains m = true ∧ Q (.bl (g (eqvs l m))) H)
theorem eq_core (hr : X.A.units + 64 < cLine) {vx vy : L2.V} {u v : Value} {Q : L2.VK} {g : Bool → Bool} (I : L2.Inv X pins σ H s) (ux : L2.RelV vx u) (uy : L2.RelV vy v) (h : rEqP X.K g vx vy H Q) : ∃ b, RcAt X.A s u v b ∧ RcNeAt X.A s u v (!b) ∧ Q (.bl (g b)) H := by
  obtain ⟨ρ, h⟩ := h
  rcases h with ⟨x, y, rx, ry, px, py, q⟩ | ⟨b, c, rfl, rfl, q⟩ | ⟨a, b, l, m, xs, ys, rfl, rfl, h1, h2, r1, r2, p1, p2, q⟩
  · refine ⟨eqv x y, ?_, ?_, q⟩ <;>
    (cases x with
    | tup l =>
      cases y with
      | tup m =>
        cases rx with
        | tup ha r1 =>
          cases ry with
          | tup hb r2 =>
            cases ux; cases uy
            obtain ⟨_, its, ri, pi⟩ := I.hok _ _ ha
            obtain ⟨_, its2, ri2, pi2⟩ := I.hok _ _ hb
            have z1 : its.toArray.size = l.length := by rw [List.size_toArray, ← ri.length, r1.length]
            have z2 : its2.toArray.size = m.length := by rw [List.size_toArray, ← ri2.length, r2.length]
            have hi := items_eq (A := X.A.in1) (s := s) r1 r2 ri ri2 (show l.all flat2 = true from px) (show m.all flat2 = true from py) (fun x y vx vy u v rx ry h1 h2 u1 u2 => eqAt2 I X.A.in1 (in1_units X.A 2 (by omega)) x y vx vy u v rx ry h1 h2 u1 u2)
            first
              | (have h := RcAt.tuples (A := X.A) (s := s) (e := fun j => eqv (l.getD j .non) (m.getD j .non)) pi pi2 (by omega) hi
                 rw [z1, z2, ← eqvs_tup] at h; exact h)
              | (have h := RcNeAt.tuples (A := X.A) (s := s) (e := fun j => eqv (l.getD j .non) (m.getD j .non)) pi pi2 (by omega) hi
                 rw [z1, z2, ← eqvs_tup] at h; exact h)
      | _ => first | exact (eqAt_mix I rx ry (by omega) ux uy (.inl ⟨_, rfl, py⟩)).2.1 | exact (eqAt_mix I rx ry (by omega) ux uy (.inl ⟨_, rfl, py⟩)).2.2
    | _ =>
      cases y with
      | tup m => first | exact (eqAt_mix I rx ry (by omega) ux uy (.inr ⟨_, rfl, px⟩)).2.1 | exact (eqAt_mix I rx ry (by omega) ux uy (.inr ⟨_, rfl, px⟩)).2.2
      | _ => first | exact (rc0 rx ry px py ux uy).1 | exact (rc0 rx ry px py ux uy).2)
  · cases ux; cases uy
    exact ⟨b == c, RcAt.bool_bool _ _, RcNeAt.bool_bool _ _, q⟩
  · cases ux; cases uy
    obtain ⟨its, ri, pi, _⟩ := I.list h1
    obtain ⟨its2, ri2, pi2, _⟩ := I.list h2
    have z1 : its.toArray.size = l.length := by rw [List.size_toArray, ← ri.length, r1.length]
    have z2 : its2.toArray.size = m.length := by rw [List.size_toArray, ← ri2.length, r2.length]
    refine ⟨eqvs l m, ?_, ?_, q⟩
    · by_cases hlm : l.length = m.length
      · have hi := items_eq (A := X.A.in1) (s := s) r1 r2 ri ri2 p1 p2 (fun x y vx vy u v rx ry h1 h2 u1 u2 => eqAt3 I X.A.in1 (in1_units X.A 3 (by omega)) x y vx vy u v rx ry h1 h2 u1 u2)
        have h := RcAt.lists (A := X.A) (s := s) (e := fun j => eqv (l.getD j .non) (m.getD j .non)) pi.isList pi2.isList (by rw [z1, z2, hlm]) (by omega) hi
        rw [z1, ← eqvs_all hlm] at h; exact h
      · rw [eqvs_len hlm]
        exact RcAt.lists_lengths pi.isList pi2.isList (by rw [z1, z2]; exact bne_iff_ne.mpr hlm) (by omega)
    · by_cases hlm : l.length = m.length
      · have hi := items_eq (A := X.A.in1) (s := s) r1 r2 ri ri2 p1 p2 (fun x y vx vy u v rx ry h1 h2 u1 u2 => eqAt3 I X.A.in1 (in1_units X.A 3 (by omega)) x y vx vy u v rx ry h1 h2 u1 u2)
        have h := RcNeAt.lists (A := X.A) (s := s) (e := fun j => eqv (l.getD j .non) (m.getD j .non)) pi.isList pi2.isList (by rw [z1, z2, hlm]) (by omega) hi
        rw [z1, ← eqvs_all hlm] at h; exact h
      · rw [eqvs_len hlm]
        exact RcNeAt.lists_lengths pi.isList pi2.isList (by rw [z1, z2]; exact bne_iff_ne.mpr hlm) (by omega)
theorem op_eqP (hr : X.A.units + 64 < cLine) : L2.OpR X (compareOp .Eq) (rEqP X.K id) := by
  intro pins s σ H x y v u Q I rx ry q
  obtain ⟨b, h1, _, h3⟩ := eq_core hr I rx ry q
  exact h1 _ _ _ _ ⟨.bl b, H, I, rfl, h3⟩
theorem op_neP (hr : X.A.units + 64 < cLine) : L2.OpR X (compareOp .NotEq) (rEqP X.K not) := by
  intro pins s σ H x y v u Q I rx ry q
  obtain ⟨b, _, h2, h3⟩ := eq_core hr I rx ry q
  exact h2 _ _ _ _ ⟨.bl (!b), H, I, rfl, h3⟩
theorem pEq_ok {x y : PV} {B B' : PHp} {b : Bool} {vx vy : L2.V} {Q : L2.VK} {g : Bool → Bool} (rl : Rel X.K cm ρ B H) (rx : RV ρ H x vx) (ry : RV ρ H y vy) (h : pEq x y B = .ok b B') (q : Q (.bl (g b)) H) : B' = B ∧ rEqP X.K g vx vy H Q := by
  have gen : ∀ x y, RV ρ H x vx → RV ρ H y vy → guard (bothBl x y = true ∨ (plain x = true ∧ plain y = true)) (ret (eqv x y)) B = .ok b B' → B' = B ∧ rEqP X.K g vx vy H Q := fun x y rx ry h => by
    obtain ⟨c, h⟩ := guard_inv h
    cases h
    refine ⟨rfl, ρ, ?_⟩
    rcases c with c | c
    · cases x with
      | bl b1 =>
        cases y with
        | bl b2 => cases rx; cases ry; exact .inr (.inl ⟨b1, b2, rfl, rfl, q⟩)
        | _ => simp [bothBl] at c
      | _ => simp [bothBl] at c
    · exact .inl ⟨x, y, rx, ry, c.1, c.2, q⟩
  cases x with
  | ref n =>
    cases y with
    | ref k =>
      obtain ⟨l, B1, e1, h1⟩ := bnd_inv h
      obtain ⟨rfl, a, xs, rfl, hs, r⟩ := lst_read rl rx e1
      obtain ⟨m, B2, e2, h2⟩ := bnd_inv h1
      obtain ⟨rfl, a2, ys, rfl, hs2, r2⟩ := lst_read rl ry e2
      obtain ⟨c, h3⟩ := guard_inv h2
      cases h3
      exact ⟨rfl, ρ, .inr (.inr ⟨a, a2, l, m, xs, ys, rfl, rfl, hs, hs2, r, r2, c.1, c.2, q⟩)⟩
    | _ => exact gen _ _ rx ry h
  | _ => cases y <;> exact gen _ _ rx ry h
theorem ok_eq : OkOp X.K cm oEq (rEqP X.K id) := fun ρ B H x y z B' vx vy Q rl rx ry ev k => by
  obtain ⟨b, B1, e1, ev1⟩ := bnd_inv ev
  cases ev1
  have hB : B' = B := (pEq_ok (g := id) (Q := fun _ _ => True) rl rx ry e1 trivial).1
  subst hB
  exact (pEq_ok (g := id) rl rx ry e1 (k ρ H _ (Ext.refl _ _) rl (.bl b))).2
theorem ok_ne : OkOp X.K cm oNe (rEqP X.K not) := fun ρ B H x y z B' vx vy Q rl rx ry ev k => by
  obtain ⟨b, B1, e1, ev1⟩ := bnd_inv ev
  cases ev1
  have hB : B' = B := (pEq_ok (g := not) (Q := fun _ _ => True) rl rx ry e1 trivial).1
  subst hB
  exact (pEq_ok (g := not) rl rx ry e1 (k ρ H _ (Ext.refl _ _) rl (.bl _))).2
noncomputable def rInP (K : PySem.W.Frag) (neg : Bool) : L2.R2 := fun vx vy H Q => ∃ (ρ : List Addr) (x : PV) (a : Addr) (l : List PV) (xs : List L2.V), RV ρ H x vx ∧ vy = .ref a ∧ (L2.SqL K H a xs ∨ L2.SqT K H a xs) ∧ RVs ρ H l xs ∧ plain x = true ∧ plains l = true ∧ Q (.bl (if neg then !pIn x l else pIn x l)) H
noncomputable def ansU (ρ : List Addr) (H : L2.Hp) (x : PV) (u : Value) : Bool := @decide (∃ y vy, L2.RelV vy u ∧ RV ρ H y vy ∧ plain y = true ∧ eqv y x = true) (Classical.propDecidable _)
theorem ansU_of {x y : PV} {vy : L2.V} {u : Value} (ru : L2.RelV vy u) (ry : RV ρ H y vy) (py : plain y = true) : ansU ρ H x u = eqv y x := by
  unfold ansU
  cases e : eqv y x with
  | true => exact @decide_eq_true _ (Classical.propDecidable _) ⟨y, vy, ru, ry, py, e⟩
  | false =>
    refine @decide_eq_false _ (Classical.propDecidable _) fun ⟨z, vz, rz, qz, pz, ez⟩ => ?_
    have := rz.inj ru
    subst this
    have := RV.uniq qz ry (plain_nice _ pz) (plain_nice _ py)
    subst this
    rw [e] at ez; cases ez
theorem any_ansU {x : PV} : ∀ {l : List PV} {xs : List L2.V} {us : List Value}, RVs ρ H l xs → L2.Vals xs us → plains l = true → us.any (ansU ρ H x) = pIn x l
  | _, _, _, .nil, .nil, _ => rfl
  | _, _, _, .cons h r, .cons h' r', p => by
    have p' := p
    unfold plains at p'
    rw [List.all_cons, Bool.and_eq_true] at p'
    rw [List.any_cons, ansU_of h' h p'.1, any_ansU r r' p'.2]; rfl
theorem mem_ansU {x : PV} {vx : L2.V} {v : Value} (I : L2.Inv X pins σ H s) (A : Around) (hu : A.units + 3 < cLine) (rx : RV ρ H x vx) (px : plain x = true) (ux : L2.RelV vx v) : ∀ {l : List PV} {xs : List L2.V} {us : List Value}, RVs ρ H l xs → L2.Vals xs us → plains l = true → ∀ u ∈ us, EqAt A s u v (ansU ρ H x u)
  | _, _, _, .nil, .nil, _ => fun u hu => by cases hu
  | _, _, _, .cons h r, .cons h' r', p => fun u hm => by
    have p' := p
    unfold plains at p'
    rw [List.all_cons, Bool.and_eq_true] at p'
    rcases List.mem_cons.mp hm with rfl | hm
    · rw [ansU_of h' h p'.1]; exact eqAt3 I A hu _ _ _ _ _ _ h rx p'.1 px h' ux
    · exact mem_ansU I A hu rx px ux r r' p'.2 u hm
theorem op_inP (hr : X.A.units + 64 < cLine) : L2.OpR X (compareOp .In) (rInP X.K false) := by
  intro pins s σ H x y v u Q I rx ry h
  obtain ⟨ρ, z, a, l, xs, rz, rfl, hq, r, pz, pl, q⟩ := h
  cases ry
  rcases hq with hq | hq
  · obtain ⟨its, ri, pi, hz⟩ := I.list hq
    refine in_listAt (ansU ρ H z) pi.isList (fun w hw => mem_ansU I X.A.in1 (in1_units X.A 3 (by omega)) rz pz rx r ri pl w (by simpa using hw)) ⟨.bl _, H, I, rfl, ?_⟩
    rw [List.any_toArray, any_ansU r ri pl]; exact q
  · obtain ⟨its, ri, pi, hz⟩ := I.tuple hq
    refine in_tupleAt (ansU ρ H z) pi (fun w hw => mem_ansU I X.A.in1 (in1_units X.A 3 (by omega)) rz pz rx r ri pl w (by simpa using hw)) ⟨.bl _, H, I, rfl, ?_⟩
    rw [List.any_toArray, any_ansU r ri pl]; exact q
theorem op_notInP (hr : X.A.units + 64 < cLine) : L2.OpR X (compareOp .NotIn) (rInP X.K true) := by
  intro pins s σ H x y v u Q I rx ry h
  obtain ⟨ρ, z, a, l, xs, rz, rfl, hq, r, pz, pl, q⟩ := h
  cases ry
  rcases hq with hq | hq
  · obtain ⟨its, ri, pi, hz⟩ := I.list hq
    refine notIn_listAt (ansU ρ H z) pi.isList (fun w hw => mem_ansU I X.A.in1 (in1_units X.A 3 (by omega)) rz pz rx r ri pl w (by simpa using hw)) ⟨.bl _, H, I, rfl, ?_⟩
    rw [List.any_toArray, any_ansU r ri pl]; exact q
  · obtain ⟨its, ri, pi, hz⟩ := I.tuple hq
    refine notIn_tupleAt (ansU ρ H z) pi (fun w hw => mem_ansU I X.A.in1 (in1_units X.A 3 (by omega)) rz pz rx r ri pl w (by simpa using hw)) ⟨.bl _, H, I, rfl, ?_⟩
    rw [List.any_toArray, any_ansU r ri pl]; exact q
theorem ok_in : OkOp X.K cm oIn (rInP X.K false) := fun ρ B H x y z B' vx vy Q rl rx ry ev k => by
  obtain ⟨l, B1, e1, ev1⟩ := bnd_inv ev
  obtain ⟨rfl, a, xs, rfl, hs, r⟩ := seq_read rl ry e1
  obtain ⟨c, ev2⟩ := guard_inv ev1
  cases ev2
  exact ⟨ρ, x, a, l, xs, rx, rfl, hs, r, c.1, c.2, k ρ H _ (Ext.refl _ _) rl (.bl _)⟩
theorem ok_notIn : OkOp X.K cm oNotIn (rInP X.K true) := fun ρ B H x y z B' vx vy Q rl rx ry ev k => by
  obtain ⟨l, B1, e1, ev1⟩ := bnd_inv ev
  obtain ⟨rfl, a, xs, rfl, hs, r⟩ := seq_read rl ry e1
  obtain ⟨c, ev2⟩ := guard_inv ev1
  cases ev2
  exact ⟨ρ, x, a, l, xs, rx, rfl, hs, r, c.1, c.2, k ρ H _ (Ext.refl _ _) rl (.bl _)⟩
noncomputable def tyName : Ty → String
  | .int => "int"
  | .bool => "bool"
  | .tuple => "tuple"
  | .list => "list"
structure Kit (K : PySem.W.Frag) : Prop where
  t (a b : String) (ha : a ∈ ["NoneType", "bool", "int", "str", "list", "tuple"]) (hb : b ∈ ["int", "bool", "tuple", "list"]) : PySem.W.kitOne K (.type a) (.type b) = some (a == b || (a == "bool" && b == "int"))
noncomputable def rIsA (K : PySem.W.Frag) (t : Ty) : List L2.V → L2.Hp → L2.VK → Prop := fun vs H Q => ∃ v ty, vs = [v, .ty (tyName t)] ∧ ty ∈ ["NoneType", "bool", "int", "str", "list", "tuple"] ∧ L2.TyOf K H v (.type ty) ∧ Q (.bl (ty == tyName t || (ty == "bool" && tyName t == "int"))) H
theorem call_isA (kit : Kit X.K) (t : Ty) : L2.CallR X (.builtin "isinstance") (rIsA X.K t) := by
  intro pins s σ H xs us Q I r h
  obtain ⟨v, ty, rfl, hm, hty, q⟩ := h
  obtain ⟨u, w, rfl, ru, rw'⟩ := L2.vals2 r
  cases rw'
  exact L2.isinst_ok I ru hty (kit.t ty (tyName t) hm (by cases t <;> simp [tyName])) fun tk => ⟨.bl _, H, I.tok tk, rfl, q⟩
theorem r_isA {e : Expr} {d : ED} {t : Ty} {tn : Str} {p p2 pos : Pos} (kit : Kit X.K) (he : L2.PE X e (EvE X.K cm d)) (hg : L2.Gl X "isinstance") (hm : X.mg "isinstance" = none) (hgt : L2.Gl X tn) (hmt : X.mg tn = none) (hbt : bootBuiltins tn = some (.type (tyName t)))
    (hs : starEach [e, .Name tn p2] X.env = (false, eval e X.env) :: starEach [.Name tn p2] X.env := by rfl) (hs2 : starEach [Expr.Name tn p2] X.env = (false, eval (.Name tn p2) X.env) :: starEach [] X.env := by rfl) (hpl : (backTo pos (starEach [Expr.Name tn p2] X.env)).any (·.1) = false := by rfl)
    (hn : tn ≠ "__name__" := by decide) (hdb : (tn == ("__debug__" : Str)) = false := by decide) :
    L2.PE X (.Call (.Name "isinstance" p) [e, .Name tn p2] [] pos) (EvE X.K cm (eIsA d t)) :=
  PE_imp (L2.pe_callB (call_isA kit t) hg hm PyProof.Rows.boot_isinstance (L2.pa_cons he (L2.pa_cons (L2.pe_bltn (v := .ty (tyName t)) hgt hmt hbt rfl hn hdb) L2.pa_nil hs2) hs) (he := hs) (hpl := hpl)) fun σ H Q ⟨ρ, A, σp, v, A', rl, rs, ev, k⟩ => by
    obtain ⟨x, A1, e1, ev1⟩ := bnd_inv ev
    obtain ⟨b, A2, e2, ev2⟩ := bnd_inv ev1
    cases ev2
    refine ⟨ρ, A, σp, x, A1, rl, rs, e1, fun ρ1 H1 v1 x1 rl1 rv1 => ?_⟩
    cases x with
    | non => cases rv1; cases t <;> cases e2 <;> exact ⟨_, "NoneType", rfl, by simp, .non, k ρ1 H1 _ x1 rl1 (.bl _)⟩
    | bl c => cases rv1; cases t <;> cases e2 <;> exact ⟨_, "bool", rfl, by simp, .bl c, k ρ1 H1 _ x1 rl1 (.bl _)⟩
    | int i => cases rv1; cases t <;> cases e2 <;> exact ⟨_, "int", rfl, by simp, .int i, k ρ1 H1 _ x1 rl1 (.bl _)⟩
    | str z => cases rv1; cases t <;> cases e2 <;> exact ⟨_, "str", rfl, by simp, .str z, k ρ1 H1 _ x1 rl1 (.bl _)⟩
    | tup l =>
      cases rv1 with
      | tup ha r => cases t <;> cases e2 <;> exact ⟨_, "tuple", rfl, by simp, .tup ha, k ρ1 H1 _ x1 rl1 (.bl _)⟩
    | ref n =>
      cases t <;>
      (obtain ⟨l, A3, e3, e4⟩ := bnd_inv e2
       obtain ⟨rfl, hA, a, xs, rfl, hn, hH, r⟩ := mut_read rl1 rv1 e3
       cases e4
       exact ⟨_, "list", rfl, by simp, .lst hH, k ρ1 H1 _ x1 rl1 (.bl _)⟩)
end
end Ws
namespace Ws
open PySem
theorem turned_new {X : L2.Cx} {pins : List (Addr × Obj)} {σ : L2.St} {H : L2.Hp} {s : Shared} {h' : Heap} {t' : Nat} {fp : List Addr} {T : Addr} {o : L2.HO} (I : L2.Inv X pins σ H s) (hf : ∀ b ∈ fp, L2.FpOk X pins H b)
    (k : ∀ b u, b ∉ fp → s.heap.get? b = some u → h'.get? b = some u) (hT : s.heap.objs.size ≤ T) (new : L2.ObjOk X.prog X.w (L2.upd H T o) h' T o) : L2.Inv X pins σ (L2.upd H T o) { s with heap := h', toks := t' } := by
  have hn : H T = none := I.hok.fresh hT
  have neT : ∀ b u, s.heap.get? b = some u → b ≠ T := fun b u e => Nat.ne_of_lt (Nat.lt_of_lt_of_le (Heap.lt_size e) hT)
  have nfp : ∀ b u, H b = some u → b ∉ fp := fun b u e z => by rw [(hf b z).1] at e; cases e
  refine I.step (g' := s.gens) (d' := s.drawn) (ch := fp) (fun b hb => ?_) (fun b u _ _ hc e _ => k b u hc e) (fun b u _ _ hc e _ => ⟨u.slots, k b u hc e⟩) (fun b u hc e n => by rw [L2.upd_ne (neT b u e)]; exact n) (fun b u hc e => ⟨u, k b u hc e⟩)
    (fun b xs e => by rw [L2.upd_ne (L2.ne_of_none e hn)]; exact e) (fun b u xs e => by rw [L2.upd_ne (L2.ne_of_none e hn)]; exact e) (fun b ps e => ⟨#[], by rw [L2.upd_ne (L2.ne_of_none e hn), e]; simp⟩) (fun m hm => ?_) (fun b u e => ?_) I.bare
  · obtain ⟨_, f1, _, f3, f4, f5⟩ := hf b hb
    exact ⟨f3, f1, f4, f5⟩
  · obtain ⟨ob, es, ep, ho, r⟩ := hm
    exact ⟨ob, es, ep, k _ ob (fun z => (hf _ z).2.1 rfl) ho, r⟩
  · by_cases hb : b = T
    · subst hb; rw [L2.upd_same] at e; cases e; exact new
    · rw [L2.upd_ne hb] at e
      refine (I.hok b u e).stay (fun c v hc q => k c v ?_ q) (fun c q => by rw [L2.upd_ne (L2.ne_of_none q hn)]; exact q) fun c xs q => by rw [L2.upd_ne (L2.ne_of_none q hn)]; exact q
      rcases hc with rfl | hc
      · exact nfp c u e
      · exact nfp c _ hc
theorem turned_fp {X : L2.Cx} {pins : List (Addr × Obj)} {σ : L2.St} {H : L2.Hp} {s : Shared} {h' : Heap} {t' : Nat} {fp : List Addr} (I : L2.Inv X pins σ H s) (hf : ∀ b ∈ fp, L2.FpOk X pins H b)
    (k : ∀ b u, b ∉ fp → s.heap.get? b = some u → h'.get? b = some u) : L2.Inv X pins σ H { s with heap := h', toks := t' } := by
  have nfp : ∀ b u, H b = some u → b ∉ fp := fun b u e z => by rw [(hf b z).1] at e; cases e
  refine I.step (g' := s.gens) (d' := s.drawn) (ch := fp) (fun b hb => ?_) (fun b u _ _ hc e _ => k b u hc e) (fun b u _ _ hc e _ => ⟨u.slots, k b u hc e⟩) (fun b u hc e n => n) (fun b u hc e => ⟨u, k b u hc e⟩)
    (fun b xs e => e) (fun b u xs e => e) (fun b ps e => ⟨#[], by rw [e]; simp⟩) (fun m hm => ?_) (fun b u e => ?_) I.bare
  · obtain ⟨_, f1, _, f3, f4, f5⟩ := hf b hb
    exact ⟨f3, f1, f4, f5⟩
  · obtain ⟨ob, es, ep, ho, r⟩ := hm
    exact ⟨ob, es, ep, k _ ob (fun z => (hf _ z).2.1 rfl) ho, r⟩
  · refine (I.hok b u e).stay (fun c v hc q => k c v ?_ q) (fun c q => q) fun c xs q => q
    rcases hc with rfl | hc
    · exact nfp c u e
    · exact nfp c _ hc
theorem turn_enum {P : Program} {w : World} {K : PySem.W.Frag} {elts : List Expr} {x1 : Nat} {pos : Pos} (a e it : Addr) (hei : e ≠ it) : L2.Turn P w K (.Tuple elts x1 pos) (Ite K a) [e, it] e (fun i h => (∃ old, IsEnum h e it i old) ∧ h.IsListIter it a i) where
  mem := by simp
  obj := fun i h st b hb => by
    obtain ⟨⟨old, he⟩, o, e1, c, d⟩ := st
    rcases List.mem_cons.mp hb with rfl | hb
    · exact ⟨_, he, fun v z => by cases z⟩
    · have e2 : b = it := by simpa using hb
      subst e2
      exact ⟨o, e1, fun v z => by rw [d] at z; cases z⟩
  keep := fun i h h' st k => by
    obtain ⟨⟨old, he⟩, hit⟩ := st
    exact ⟨⟨old, k e (by simp) _ he⟩, hit.at fun o x => k it (by simp) o x⟩
  item := by
    intro X hP hw hK hc i pins s σ H E I hf st hg
    subst hP hw hK
    obtain ⟨xs, x, hq, hx⟩ := hg
    obtain ⟨its, rv, p, hz⟩ := I.list hq
    obtain ⟨u, hu, ru⟩ := rv.get hx
    obtain ⟨⟨old, he⟩, hit⟩ := st
    have el := Heap.lt_size he
    refine wpAny_pyNext_enum_item he hit p.isList (x := u) (by simpa using hu) hei fun h' ho hit' hT hsz hk => ?_
    refine ⟨.ref s.heap.objs.size, rfl, wpAny_letOwnedTupleGo_enum (s := { s with heap := h', toks := s.toks + 1 }) ho fun h2 he2 hs2 => ?_⟩
    have sb : ∀ b u, b ≠ e → h'.get? b = some u → h2.get? b = some u := fun b u hb q => (hs2.2 b hb).trans q
    have hTe : s.heap.objs.size ≠ e := Nat.ne_of_gt el
    have I2 : L2.Inv X pins σ (L2.upd H s.heap.objs.size (.tup [.int i, x])) { s with heap := h2, toks := s.toks + 1 } := by
      refine turned_new (s := s) (t' := s.toks + 1) I hf (fun b u hb q => ?_) (Nat.le_refl _) ?_
      · have h1 : b ≠ e := fun z => hb (by simp [z])
        have h2 : b ≠ it := fun z => hb (by simp [z])
        exact sb b u h1 (hk b u h1 h2 q)
      · exact ⟨by show 2 ≤ sizeLine; decide, [.int i s.toks, u], .cons ⟨_, rfl⟩ (.cons ru .nil), _, sb _ _ hTe hT, rfl, _, rfl⟩
    refine ⟨.ref s.heap.objs.size, L2.upd H s.heap.objs.size (.tup [.int i, x]), I2, rfl, ⟨x, s.heap.objs.size, fun ys hy => by rw [I.list_inj hy hq]; exact hx, I.hok.fresh (Nat.le_refl _), rfl, rfl⟩, ⟨⟨u, by exact_mod_cast he2⟩, hit'.at fun o y => sb it o hei.symm y⟩, fun b hb => ?_⟩
    · rw [L2.upd_ne]
      · exact (hf b hb).1
      · rcases List.mem_cons.mp hb with rfl | hb
        · exact hTe.symm
        · have e2 : b = it := by simpa using hb
          subst e2
          obtain ⟨_, y, _⟩ := hit
          exact Nat.ne_of_lt (Heap.lt_size y)
  done := by
    intro X hP hw hK hc i pins s σ H E I hf st hg
    subst hP hw hK
    obtain ⟨xs, hq, hx⟩ := hg
    obtain ⟨its, rv, p, hz⟩ := I.list hq
    obtain ⟨⟨old, he⟩, hit⟩ := st
    have hl := rv.length
    exact wpAny_pyNext_enum_end (I.ok.hd hc) he hit p.isList (by rw [Array.getElem?_eq_none]; simp; omega) fun h' eb => ⟨rfl, turned_fp (t' := s.toks) I hf fun b u hb q => eb b u (fun z => hb (by simp [z])) q⟩
  self := fun _ _ _ _ _ st h => by
    obtain ⟨⟨old, he⟩, _⟩ := st
    exact wpAny_pyIter_enum he h
section
variable {X : L2.Cx} {cm : Nat → Addr}
theorem i_enm {l : Expr} {d : ED} {elts : List Expr} {x1 : Nat} {tpos p pos : Pos} (hg : L2.Gl X "enumerate") (hm : X.mg "enumerate" = none) (hl : L2.PE X l (EvE X.K cm d)) (hs : starEach [l] X.env = (false, eval l X.env) :: starEach [] X.env := by rfl) : L2.PI X (.Tuple elts x1 tpos) (.Call (.Name "enumerate" p) [l] [] pos) (EvI X.K cm (iEnm d)) := by
  intro pins s σ H R I h
  obtain ⟨ρ, A, σp, J, A', rl, rs, ev, k⟩ := h
  obtain ⟨x, A1, e1, ev1⟩ := bnd_inv ev
  refine PyProof.Rows.Call_ (L2.ld_blt I hg hm PyProof.Rows.boot_enumerate (PyProof.Rows.callWith_type1 (L2.thn ((r_cons hl r_nil hs) pos pins s σ H (fun vs H1 => ∃ a xs, vs = [.ref a] ∧ L2.SqL X.K H1 a xs ∧ R (Ite X.K a) H1) I ⟨ρ, A, σp, [x], A1, rl, rs, by show bnd (d σp) _ A = _; rw [bnd_ok e1]; rfl, fun ρ1 H1 vs1 x1 rl1 rv1 => ?_⟩) fun us s1 ⟨vs, H1, I1, r1, q1⟩ => ?_) hs rfl))
  · cases x with
    | ref n =>
      obtain ⟨m, A2, e2, ev2⟩ := bnd_inv ev1
      cases rv1 with
      | cons hv hr =>
        cases hr
        obtain ⟨rfl, a, xs, rfl, hq, r⟩ := lst_read rl1 hv e2
        cases ev2
        cases hv with
        | ref hn => exact ⟨a, xs, rfl, hq, k ρ1 H1 _ x1 rl1 ⟨a, hn, rfl⟩⟩
    | _ => cases ev1
  · obtain ⟨a, xs, rfl, hq, q⟩ := q1
    obtain ⟨u, rfl, rx⟩ := L2.vals1 r1
    cases rx
    obtain ⟨its, rv, pl, hz⟩ := I1.list hq
    refine call_enumerate_list pl.isList fun h' he hit hsz kp => ?_
    refine wpAny_pyIter_enum he ?_
    have I2 : L2.Inv X pins σ H1 { s1 with heap := h' } := I1.kept (t' := s1.toks) kp
    refine ⟨s1.heap.objs.size + 1, [s1.heap.objs.size + 1, s1.heap.objs.size], _, _, H1, rfl, I2, turn_enum a _ _ (Nat.succ_ne_self _), ⟨⟨_, he⟩, hit⟩, fun b hb => ?_, q⟩
    have hb2 : s1.heap.objs.size ≤ b := by
      rcases List.mem_cons.mp hb with rfl | hb
      · exact Nat.le_succ _
      · have : b = s1.heap.objs.size := by simpa using hb
        exact Nat.le_of_eq this.symm
    exact I1.fpOk hb2 (I1.hok.fresh hb2)
end
end Ws
namespace Ws
open PySem
structure Def (P : Program) (w : World) (K : PySem.W.Frag) (mg : Str → Option Value) (base : Heap) (cm : Nat → Addr) (x : Str) (k : Nat) (ps : List Str) (f : Fun) (n : Nat) : Prop where
  ex : ∃ (fa : Addr) (fd : FuncData), L2.FnOk P w K mg base L2.CX0 k fa fd ps (SpF K cm f n) ∧ mg x = some (.ref fa) ∧ PySem.W.keepIn K (.ref fa) = true ∧ L2.Binds K fd ps []
  len : ∀ vs A v A', f vs A = .ok v A' → vs.length = n
structure MDef (P : Program) (w : World) (K : PySem.W.Frag) (mg : Str → Option Value) (base : Heap) (cm : Nat → Addr) (c : Nat) (m : Str) (k : Nat) (ps : List Str) (f : Fun) (n : Nat) : Prop where
  ex : ∃ (fa : Addr) (fd : FuncData), L2.FnOk P w K mg base L2.CX0 k fa fd ps (SpF K cm f n) ∧ L2.Meth K (cm c) m fa ∧ L2.Binds K fd ps []
  len : ∀ vs A v A', f vs A = .ok v A' → vs.length = n
structure CDef (P : Program) (w : World) (K : PySem.W.Frag) (mg : Str → Option Value) (base : Heap) (cm : Nat → Addr) (c : Nat) (x : Str) (k : Nat) (ps : List Str) (f : Fun) (n : Nat) : Prop where
  ex : ∃ (fa : Addr) (fd : FuncData), L2.FnOk P w K mg base L2.CX0 k fa fd ps (SpF K cm f n) ∧ L2.Mk K (cm c) fa ∧ mg x = some (.ref (cm c)) ∧ L2.Binds K fd ps []
  len : ∀ vs A v A', f vs A = .ok v A' → vs.length = n ∧ v = .non
section
variable {X : L2.Cx} {cm : Nat → Addr}
theorem r_callD {f : Fun} {n k k' : Nat} {ps : List Str} {x : Str} {e : Expr} {es : List Expr} {ds : AD} {p pos : Pos} (D : Def X.prog X.w X.K X.mg X.base cm x k ps f n) (hk : k ≤ k') (hr : L2.Room k' X.A) (hg : L2.Gl X x)
    (ha : L2.PA X (e :: es) (EvA X.K cm ds)) (hdb : (x == ("__debug__" : Str)) = false := by decide) (he : starEach (e :: es) X.env = (false, eval e X.env) :: starEach es X.env := by rfl) (hpl : (backTo pos (starEach es X.env)).any (·.1) = false := by rfl) :
    L2.PE X (.Call (.Name x p) (e :: es) [] pos) (EvE X.K cm (eCall f ds)) := by
  obtain ⟨fa, fd, F, hm, hkp, hb⟩ := D.ex
  exact r_call F D.len (hr.mono hk) hg hm hkp hb ha hdb he hpl
theorem r_methD {c : Nat} {f : Fun} {n k k' : Nat} {ps : List Str} {m : Str} {o e : Expr} {es : List Expr} {d : ED} {ds : AD} {apos pos : Pos} {pl : Sem Bool} (D : MDef X.prog X.w X.K X.mg X.base cm c m k ps f n) (hk : k ≤ k') (hr : L2.Room k' X.A) (hc : L2.Cls X.K (cm c)) (ho : L2.PE X o (EvE X.K cm d)) (ha : L2.PA X (e :: es) (EvA X.K cm ds)) (hnm : ∀ i, i < 19 → fnm i ≠ m)
    (hst : starEach (e :: es) X.env = (false, eval e X.env) :: starEach es X.env := by rfl) (hpl : (backTo pos (starEach es X.env)).any (·.1) = false := by rfl)
    (ht : eval (.Call (.Attribute o m apos) (e :: es) [] pos) X.env = (do
      let ov ← eval o X.env
      standAt apos.atName
      let (f, first) ← holding [ov] (getMethod ov m pl)
      callWith pos f first (backTo pos (starEach (e :: es) X.env)) (backToKw pos (keywordEach [] X.env))) := by rfl) :
    L2.PE X (.Call (.Attribute o m apos) (e :: es) [] pos) (EvE X.K cm (eMeth c f d ds)) := by
  obtain ⟨fa, fd, F, hm, hb⟩ := D.ex
  exact r_meth (pl := pl) ho hc hm F D.len hnm (hr.mono hk) hb ha hst hpl ht
theorem r_makeD {c : Nat} {f : Fun} {n k k' : Nat} {ps : List Str} {x : Str} {e : Expr} {es : List Expr} {ds : AD} {p pos : Pos} (D : CDef X.prog X.w X.K X.mg X.base cm c x k ps f n) (hk : k + 1 ≤ k') (hr : L2.Room k' X.A)
    (hg : L2.Gl X x) (ha : L2.PA X (e :: es) (EvA X.K cm ds)) (hdb : (x == ("__debug__" : Str)) = false := by decide) (he : starEach (e :: es) X.env = (false, eval e X.env) :: starEach es X.env := by rfl) (hpl : (backTo pos (starEach es X.env)).any (·.1) = false := by rfl) (h7 : c < 7 := by decide) :
    L2.PE X (.Call (.Name x p) (e :: es) [] pos) (EvE X.K cm (eMake c f ds)) := by
  obtain ⟨fa, fd, F, hM, hm, hb⟩ := D.ex
  exact r_make h7 hM F D.len (hr.mono hk) hg hm hb ha hdb he hpl
theorem r_glob {x : Str} {i : Int} {pos : Pos} (hg : L2.Gl X x) (hm : ∃ t, X.mg x = some (.int i t)) (hd : (x == ("__debug__" : Str)) = false := by decide) : L2.PE X (.Name x pos) (EvE X.K cm (eK (.int i))) := by
  obtain ⟨t, hm⟩ := hm
  exact r_k (L2.pe_glob hg hm (show L2.RelV (.int i) (.int i t) from ⟨t, rfl⟩) hd) fun _ _ => .int i
end
structure Base (K : PySem.W.Frag) (mg : Str → Option Value) (cm : Nat → Addr) : Prop where
  kit : Kit K
  cls : ∀ c, c < 7 → L2.Cls K (cm c)
  na : ∀ c i, i < 19 → c < 7 → L2.NoAttr K (cm c) (fnm i)
  b_len : mg "len" = none
  b_range : mg "range" = none
  b_list : mg "list" = none
  b_sorted : mg "sorted" = none
  b_isinstance : mg "isinstance" = none
  b_int : mg "int" = none
  b_bool : mg "bool" = none
  b_tuple : mg "tuple" = none
  b_enumerate : mg "enumerate" = none
  b_reversed : mg "reversed" = none
  b_max : mg "max" = none
  b_min : mg "min" = none
  b_all : mg "all" = none
  b_any : mg "any" = none
  b_set : mg "set" = none
  b_zip : mg "zip" = none
  b_dict : mg "dict" = none
end Ws
namespace Ws
open PySem
section
variable {prog : Program} {w : World} {A : Around} {R : Result → Shared → Prop} {s : Shared}
noncomputable abbrev testsOf (ifs : List Expr) (env : Env) : Sem Bool := forIn ifs true fun c r => if r = true then do let ok ← isTrue c env (eval c env); pure (ForInStep.yield ok) else pure (ForInStep.yield r)
theorem comp_loop {elt target iter : Expr} {ifs : List Expr} {scope : Scope} {pos : Pos} {it acc : Value} {env : Env} (I : Nat → Shared → Prop)
    (turn : ∀ n s, I n s → wpAny (model prog w) A (pyNext it) (fun r s₁ => match r with
      | none => R (.ok .next) s₁
      | some v => wpAny (model prog w) A (letOwnedTupleGo target it v) (fun _ s₀ => wpAny (model prog w) A (assign target env v) (fun _ s₂ =>
          wpAny (model prog w) A (testsOf ifs env) (fun ok s₃ =>
            if ok = true then wpAny (model prog w) A (eval elt env) (fun x s₄ =>
              wpAny (model prog w) A (call (.builtin "list.append") [acc, x]) (fun _ s₅ => ∃ m, m < n ∧ I m s₅) (fun _ _ => False) s₄) (fun _ _ => False) s₃
            else ∃ m, m < n ∧ I m s₃) (fun _ _ => False) s₂) (fun _ _ => False) s₀) (fun _ _ => False) s₁) (fun _ _ => False) s)
    (n : Nat) (h : I n s) : codeAny (model prog w) A (.compLoop (.ListComp elt [⟨target, iter, ifs, 0⟩] scope pos) 0 it acc env) R s := by
  have fe : ∀ {E' : Value → Shared → Prop} {e : Value} {s' : Shared}, False → E' e s' := fun h => h.elim
  refine codeAny_loop rfl I (fun n s hI => ?_) n h
  show wpAny _ A ((compTurn (.ListComp elt [⟨target, iter, ifs, 0⟩] scope pos) 0 it acc env).onRaise (fun x => do noteFrame x env; theTreesLotGoes x)) _ _ s
  refine wpAny_noted ?_
  rw [compTurn_list]
  refine wpAny_bind (wpAny_standAt (wpAny_bind (wpAny_mono (turn n s hI) (fun r s₁ h₁ => ?_) fun _ _ h' => h'.elim)))
  cases r with
  | none => exact wpAny_pure h₁
  | some v =>
    refine wpAny_bind (wpAny_mono h₁ (fun _ s₀ h₀ => ?_) fun _ _ h' => h'.elim)
    refine wpAny_bind (wpAny_mono h₀ (fun _ s₂ h₂ => wpAny_bind (wpAny_mono h₂ (fun ok s₃ h₃ => ?_) fun _ _ h' => h'.elim)) fun _ _ h' => h'.elim)
    cases ok with
    | false => exact wpAny_pure ⟨rfl, h₃⟩
    | true =>
      exact wpAny_bind (wpAny_bind (wpAny_mono h₃ (fun x s₄ h₄ => wpAny_bind (wpAny_mono h₄ (fun _ s₅ h₅ => wpAny_pure (wpAny_pure ⟨rfl, h₅⟩)) fun _ _ h' => h'.elim)) fun _ _ h' => h'.elim))
end
noncomputable def blk (X : L2.Cx) (N : List Str) (scope : Scope) (cl : List (Str × Addr)) (C : Addr) (s₀ : Shared) (H₀ : L2.Hp) (fp : List Addr) : L2.Cx where
  prog := X.prog
  w := X.w
  K := X.K
  mg := X.mg
  base := X.base
  A := X.A
  N := N
  s₀ := s₀
  H₀ := H₀
  env := compEnvC scope cl C X.env
  outer := X.stack
  stack := X.stack
  ex := fp
  fn := fun _ => false
  calm := X.calm
  pn := []
  xe := fun _ _ => False
inductive FreeOk (X : L2.Cx) (scope : Scope) (cl : List (Str × Addr)) : List Str → List (Option Nat) → Prop where
  | nil : FreeOk X scope cl [] []
  | own {x : Str} {N : List Str} {js : List (Option Nat)} (h : FreeOk X scope cl N js) : FreeOk X scope cl (x :: N) (none :: js)
  | free {x : Str} {j : Nat} {N : List Str} {js : List (Option Nat)} (h1 : X.N[j]? = some x) (h2 : X.env.kindOf x = some .cell ∨ X.env.kindOf x = some .free) (h3 : L2.Vis X.env.scope x) (h4 : cl.lookup x = X.env.cells.lookup x) (h5 : (relabel scope X.env).names.lookup x = some .cell ∨ (relabel scope X.env).names.lookup x = some .free) (h : FreeOk X scope cl N js) : FreeOk X scope cl (x :: N) (some j :: js)
theorem FreeOk.len {X : L2.Cx} {scope : Scope} {cl : List (Str × Addr)} : ∀ {N : List Str} {js : List (Option Nat)}, FreeOk X scope cl N js → js.length = N.length
  | _, _, .nil => rfl
  | _, _, .own h => by simp [h.len]
  | _, _, .free _ _ _ _ _ h => by simp [h.len]
theorem FreeOk.get {X : L2.Cx} {scope : Scope} {cl : List (Str × Addr)} : ∀ {N : List Str} {js : List (Option Nat)} {i j : Nat} {x : Str}, FreeOk X scope cl N js → N[i]? = some x → js[i]? = some (some j) → X.N[j]? = some x ∧ (X.env.kindOf x = some .cell ∨ X.env.kindOf x = some .free) ∧ L2.Vis X.env.scope x ∧ cl.lookup x = X.env.cells.lookup x ∧ ((relabel scope X.env).names.lookup x = some .cell ∨ (relabel scope X.env).names.lookup x = some .free)
  | _, _, _, _, _, .nil, h, _ => by simp at h
  | _, _, 0, _, _, .own _, _, h => by simp at h
  | _, _, i + 1, _, _, .own h, h1, h2 => FreeOk.get (i := i) h (by simpa using h1) (by simpa using h2)
  | _, _, 0, _, _, .free a b c d e _, h1, h2 => by simp at h1 h2; subst h1; subst h2; exact ⟨a, b, c, d, e⟩
  | _, _, i + 1, _, _, .free _ _ _ _ _ h, h1, h2 => FreeOk.get (i := i) h (by simpa using h1) (by simpa using h2)
theorem bst_get {α : Type} {js : List (Option Nat)} {σ : List (Option α)} {i : Nat} {v : α} (h : (bst js σ)[i]? = some (some v)) : ∃ j, js[i]? = some (some j) ∧ σ[j]? = some (some v) := by
  unfold bst at h
  rw [List.getElem?_map] at h
  rcases e : js[i]? with _ | (_ | j)
  · rw [e] at h; cases h
  · rw [e] at h; cases h
  · rw [e] at h
    refine ⟨j, rfl, ?_⟩
    have h' : σ.getD j none = some v := Option.some.inj h
    rw [List.getD_eq_getElem?_getD] at h'
    rcases e2 : σ[j]? with _ | o
    · rw [e2] at h'; cases h'
    · rw [e2] at h'; exact congrArg some h'
theorem RSt.bst {ρ : List Addr} {H : L2.Hp} {σp : PSt} {σ : L2.St} (h : RSt ρ H σp σ) (js : List (Option Nat)) : RSt ρ H (Ws.bst js σp) (Ws.bst js σ) := by
  refine ⟨by simp [Ws.bst], fun i p hp => ?_⟩
  obtain ⟨j, h1, h2⟩ := bst_get hp
  obtain ⟨v, h3, h4⟩ := h.get j p h2
  refine ⟨v, ?_, h4⟩
  unfold Ws.bst
  rw [List.getElem?_map, h1]
  show some (σ.getD j none) = _
  rw [List.getD_eq_getElem?_getD, h3]; rfl
structure ScOk (X : L2.Cx) (scope : Scope) (cl : List (Str × Addr)) : Prop where
  kind : scope.kind = .function
  clos : closureFor scope X.env = pure cl
  nocell : ∀ y ∈ scope.names, y.2 ≠ .cell
  names : ∀ y ∈ scope.names, y.2 = .local → scope.names.lookup y.1 = some .local
  sub : ∀ p ∈ cl, X.env.cells.lookup p.1 = some p.2
  has : ∀ y ∈ scope.names, y.2 = .free → (cl.lookup y.1).isSome = true
theorem relabel_has {X : L2.Cx} {scope : Scope} {cl : List (Str × Addr)} (S : ScOk X scope cl) {x : Str} (h : (relabel scope X.env).names.lookup x = some .cell ∨ (relabel scope X.env).names.lookup x = some .free) : ∃ c, cl.lookup x = some c := by
  have key : ∀ k, (x, k) ∈ (relabel scope X.env).names → k = .cell ∨ k = .free → ∃ c, cl.lookup x = some c := fun k hm hk => by
    unfold relabel at hm
    obtain ⟨⟨n, k'⟩, hy, e⟩ := List.mem_map.mp hm
    dsimp only at e
    have hfree : n = x ∧ k' = .free := by
      split at e
      · rename_i hc
        cases e
        simp only [Bool.and_eq_true, beq_iff_eq] at hc
        exact ⟨rfl, hc.1.1⟩
      · cases e
        rcases hk with rfl | rfl
        · exact absurd rfl (S.nocell _ hy)
        · exact ⟨rfl, rfl⟩
    obtain ⟨rfl, rfl⟩ := hfree
    exact Option.isSome_iff_exists.mp (S.has _ hy rfl)
  rcases h with h | h
  · exact key _ (PySem.mem_of_lookup h) (.inl rfl)
  · exact key _ (PySem.mem_of_lookup h) (.inr rfl)
section
variable {X : L2.Cx} {cm : Nat → Addr} {pins : List (Addr × Obj)} {σ : L2.St} {H : L2.Hp} {s : Shared}
theorem blk_start {N : List Str} {js : List (Option Nat)} {scope : Scope} {cl : List (Str × Addr)} {C : Addr} {fp : List Addr} {h' : Heap} {t' : Nat} {m : Str → Option Value} (S : ScOk X scope cl) (Fr : FreeOk X scope cl N js) (I : L2.Inv X pins σ H s) (hf : ∀ b ∈ fp, L2.FpOk X pins H b) (hfl : ∀ b ∈ fp, b < s.heap.objs.size)
    (hC : s.heap.objs.size ≤ C) (kp : ∀ b u, s.heap.get? b = some u → h'.get? b = some u) (hns : h'.Ns C m) : L2.Inv (blk X N scope cl C s H fp) [] (Ws.bst js σ) H { s with heap := h', toks := t' } := by
  have I1 : L2.Inv X pins σ H { s with heap := h', toks := t' } := I.kept kp
  have sub : ∀ x c, cl.lookup x = some c → X.env.cells.lookup x = some c := fun x c e => S.sub (x, c) (PySem.mem_of_lookup e)
  refine ⟨⟨I.ok.mod, S.kind, I.ok.glob, I.ok.blt, hC, fun x y c h1 h2 => I.ok.inj x y c (sub x c h1) (sub y c h2), fun x hx => relabel_has S hx, fun x c h => (nomatch h), I.ok.hd, I.ok.frames, .inl rfl, fun b hb => ⟨Nat.ne_of_lt (Nat.lt_of_lt_of_le (hfl b hb) hC), fun x c e => (hf b hb).2.2.2.2.1 x c (sub x c e)⟩,
    I.bs, Nat.le_trans I.ok.bsz I.sz, fun b o e hb => ?_, fun b hb hz => ?_, I.stack, I.stkFree⟩, rfl, I.bare, L2.Un.kept kp, ⟨m, hns, fun i x v h1 h2 h3 => ?_⟩, fun x c e => I1.cell x c (sub x c e), I.hok.fresh hC, fun x c e => I.freeC x c (sub x c e), fun p hp => absurd (show p ∈ ([] : List (Addr × Obj)) from hp) (by simp), I1.hok, by simp [Ws.bst, Fr.len, blk]⟩
  · rcases (hf b hb).2.2.2.1 with z | z
    · exact I.ok.noex b o e z
    · exact absurd (Nat.lt_of_lt_of_le (Heap.lt_size e) (Nat.le_trans I.ok.bsz z)) (Nat.lt_irrefl _)
  · rcases List.mem_cons.mp (I.stkSub b hz) with z | z
    · exact (hf b hb).2.1 z
    · exact (hf b hb).2.2.1 z
  · obtain ⟨j, j1, j2⟩ := bst_get h2
    obtain ⟨a1, a2, a3, a4, a5⟩ := Fr.get h1 j1
    obtain ⟨m0, _, hl⟩ := I1.loc
    obtain ⟨u, ru, lk⟩ := hl j x v a1 j2 a3
    refine ⟨u, ru, ?_⟩
    rcases lk with ⟨q, _⟩ | ⟨_, c, e1, e2⟩
    · rcases a2 with a2 | a2 <;> (rw [a2] at q; cases q)
    · exact .inr ⟨a5, c, a4.trans e1, e2⟩
theorem adopt {D : Addr} {o : L2.HO} {fp : List Addr} (I : L2.Inv X pins σ H s) (hD : L2.FpOk X pins H D) (new : L2.ObjOk X.prog X.w (L2.upd H D o) s.heap D o) : L2.Inv X pins σ (L2.upd H D o) s := by
  have hn := hD.1
  have ne : ∀ b u, H b = some u → b ≠ D := fun b u e z => by rw [z, hn] at e; cases e
  obtain ⟨hp, g, d, tk, os⟩ := s
  refine I.step (g' := g) (d' := d) (t' := tk) (h' := hp) (ch := [D]) (fun b hb => ?_) (fun b u _ _ _ e _ => e) (fun b u _ _ _ e _ => ⟨u.slots, e⟩) (fun b u hc e n => by rw [L2.upd_ne (fun z => hc (by simp [z]))]; exact n) (fun b u _ e => ⟨u, e⟩)
    (fun b xs e => by rw [L2.upd_ne (ne b _ e)]; exact e) (fun b u xs e => by rw [L2.upd_ne (ne b _ e)]; exact e) (fun b ps e => ⟨#[], by rw [L2.upd_ne (ne b _ e), e]; simp⟩) (fun m hm => hm) (fun b u e => ?_) I.bare
  · have e : b = D := by simpa using hb
    subst e
    exact ⟨hD.2.2.2.1, hD.2.1, hD.2.2.2.2.1, hD.2.2.2.2.2⟩
  · by_cases hb : b = D
    · subst hb; rw [L2.upd_same] at e; cases e; exact new
    · rw [L2.upd_ne hb] at e
      exact (I.hok b u e).stay (fun c v _ q => q) (fun c q => by rw [L2.upd_ne (ne c _ q)]; exact q) fun c xs q => by rw [L2.upd_ne (ne c _ q)]; exact q
end
end Ws
namespace Ws
open PySem
section
variable {X : L2.Cx} {cm : Nat → Addr}
noncomputable def PTs (X : L2.Cx) (ifs : List Expr) (t : L2.TT) : Prop :=
  ∀ (pins : List (Addr × Obj)) (s : Shared) (σ : L2.St) (H : L2.Hp) (Q : Bool → L2.Hp → Prop), L2.Inv X pins σ H s → t σ H Q → wpAny (model X.prog X.w) X.A (testsOf ifs X.env) (L2.TP X pins σ Q) X.xe s
theorem ts_nil : PTs X [] (EvT X.K cm tTrue) := fun pins s σ H Q I ⟨ρ, A, σp, b, A', rl, rs, ev, k⟩ => by
  cases ev
  exact wpAny_tests_nil ⟨H, I, k ρ H (Ext.refl _ _) rl⟩
theorem ts_one {c : Expr} {t : TD} (h : L2.PT X c (EvT X.K cm t)) : PTs X [c] (EvT X.K cm t) := fun pins s σ H Q I q => wpAny_tests_one (h pins s σ H Q I q)
theorem comp_core {elt tg iter : Expr} {ifs : List Expr} {scope : Scope} {pos : Pos} {cl : List (Str × Addr)} {N : List Str} {js : List (Option Nat)} {g : GD} {t : TD} {e : ED} {pins : List (Addr × Obj)} {σ : L2.St} {H : L2.Hp} {s : Shared}
    {it : Addr} {fp : List Addr} {tn : Nat → Heap → Prop} {j : L2.It} {J : It} {ρ : List Addr} {A A' : PHp} {σp : PSt} {n : Nat} {ys : List PV} {RR : Value → Addr → Result → Shared → Prop} {E : Value → Shared → Prop}
    (hc : X.calm = true) (S : ScOk X scope cl) (Fr : FreeOk X scope cl N js)
    (hg : ∀ C s0 H0 fp, L2.PG (blk X N scope cl C s0 H0 fp) tg (EvG X.K cm g)) (ht : ∀ C s0 H0 fp, PTs (blk X N scope cl C s0 H0 fp) ifs (EvT X.K cm t)) (he : ∀ C s0 H0 fp, L2.PE (blk X N scope cl C s0 H0 fp) elt (EvE X.K cm e))
    (I : L2.Inv X pins σ H s) (T : L2.Turn X.prog X.w X.K tg j fp it tn) (st : tn 0 s.heap) (hf : ∀ b ∈ fp, L2.FpOk X pins H b) (rj : RIt X.K ρ H J j) (rl : Rel X.K cm ρ A H) (rs : RSt ρ H σp σ)
    (ev : cturns J g t e (n + 1) 0 (Ws.bst js σp) A = .ok ys A') (hy : ys.length ≤ LIM)
    (hRR : ∀ D C s' m, s'.heap.Ns C m → C ≠ X.env.locals → (∀ h'', Heap.SameBut C s'.heap h'' → ∃ ρ' H', Ext ρ H ρ' H' ∧ Rel X.K cm ρ' (A' ++ [.lst ys]) H' ∧ ρ'[A'.length]? = some D ∧ L2.Inv X pins σ H' { s' with heap := h'' } ∧ L2.FpOk X pins H' C) → RR (.ref D) C (.ok .next) s') :
    wpAny (model X.prog X.w) X.A (newList []) (fun acc s₃ => wpAny (model X.prog X.w) X.A (newFunctionEnv scope X.env.globals cl [] X.env.qual none .none (some X.env)) (fun cenv s₄ =>
      codeAny (model X.prog X.w) X.A (.compStart (.ListComp elt [⟨tg, iter, ifs, 0⟩] scope pos) 0 (.ref it) acc { cenv with scope := relabel scope X.env }) (RR acc cenv.locals) s₄) E s₃) E s := by
  refine wpAny_newObj_type (wpAny_newFunctionEnv S.nocell (by intro y hy; simp at hy) (fun h₁ hns₁ hsb₁ => ?_) S.kind)
  dsimp only at hns₁ hsb₁ ⊢
  generalize hH2 : s.heap.push { cls := .type "list", dict := none, data := .seq ([] : List Value).toArray } = H2 at hns₁ hsb₁ ⊢
  have hCz : H2.objs.size = s.heap.objs.size + 1 := by rw [← hH2, Heap.size_push]
  have hfl : ∀ b ∈ fp, b < s.heap.objs.size := fun b hb => by
    obtain ⟨o, ho, _⟩ := T.obj 0 _ st b hb
    exact Heap.lt_size ho
  have hDC : s.heap.objs.size ≠ H2.objs.size := by rw [hCz]; exact Nat.ne_of_lt (Nat.lt_succ_self _)
  have hCle : s.heap.objs.size ≤ H2.objs.size := by rw [hCz]; exact Nat.le_succ _
  have old : ∀ b o, s.heap.get? b = some o → h₁.get? b = some o := fun b o q => hsb₁.extBut b o (by rw [hCz]; exact Nat.ne_of_lt (Nat.lt_succ_of_lt (Heap.lt_size q))) (Heap.get?_push_of_some _ (hH2 ▸ Heap.get?_push_of_some _ q))
  have hacc : h₁.PlainList s.heap.objs.size #[] := ⟨_, hsb₁.extBut _ _ hDC (Heap.get?_push_of_some _ (hH2 ▸ Heap.get?_push_size _ rfl))⟩
  generalize hDe : s.heap.objs.size = D at *
  generalize hCe : H2.objs.size = C at *
  let Y := blk X N scope cl C s H fp
  have hDfp : ∀ b ∈ fp, b ≠ D := fun b hb => Nat.ne_of_lt (hfl b hb)
  have lt_of : ∀ b o, s.heap.get? b = some o → b < D := fun b o q => by rw [← hDe]; exact Heap.lt_size q
  have nD : D ∉ L2.frs X.stack := fun z => by
    obtain ⟨_, o, ho, _⟩ := I.stack.mem z
    exact Nat.lt_irrefl _ (lt_of _ _ ho)
  have cellD : ∀ x c, X.env.cells.lookup x = some c → c < D := fun x c q => by
    obtain ⟨v, o, ho, _⟩ := I.cell x c q
    exact lt_of _ _ ho
  have subc : ∀ x c, cl.lookup x = some c → X.env.cells.lookup x = some c := fun x c q => S.sub (x, c) (PySem.mem_of_lookup q)
  have fpY : ∀ (ps : List (Addr × Obj)) (H' : L2.Hp), (∀ p ∈ ps, ∀ b ∈ fp, p.1 ≠ b) → (∀ b ∈ fp, H' b = none) → ∀ b ∈ fp, L2.FpOk Y ps H' b := fun ps H' hps hn b hb =>
    ⟨hn b hb, Nat.ne_of_lt (Nat.lt_of_lt_of_le (hfl b hb) hCle), fun hz => (List.mem_cons.mp (I.stkSub b hz)).elim (hf b hb).2.1 (hf b hb).2.2.1, .inl hb, fun x c q => (hf b hb).2.2.2.2.1 x c (subc x c q), fun p hp => hps p (by simpa [Y, blk] using hp) b hb⟩
  have I0 : L2.Inv Y [] (Ws.bst js σ) H { s with heap := h₁, toks := s.toks + ([] : List (Str × Value)).length } := blk_start S Fr I hf (fun b hb => by rw [hDe]; exact hfl b hb) (by rw [hDe]; exact hCle) old hns₁
  have st1 : tn 0 h₁ := T.keep 0 _ _ st fun b hb o q => old b o q
  have loop : ∀ s₃ : Shared, s₃ = { s with heap := h₁, toks := s.toks + ([] : List (Str × Value)).length } →
      codeAny (model X.prog X.w) X.A (.compLoop (.ListComp elt [⟨tg, iter, ifs, 0⟩] scope pos) 0 (.ref it) (.ref D) (compEnvC scope cl C X.env)) (RR (.ref D) C) s₃ := by
    rintro s₃ rfl
    refine comp_loop (fun m s' => ∃ i σ' H' ρ' B σp' rest accp accv its, L2.Inv Y [] σ' H' s' ∧ tn i s'.heap ∧ (∀ b ∈ fp, H' b = none) ∧ Ext ρ H ρ' H' ∧ Rel X.K cm ρ' B H' ∧ RSt ρ' H' σp' σ' ∧ cturns J g t e (m + 1) i σp' B = .ok rest A' ∧
      s'.heap.PlainList D (List.toArray its) ∧ H' D = none ∧ L2.Vals accv its ∧ RVs ρ' H' accp accv ∧ accp ++ rest = ys) ?_ n ⟨0, _, H, ρ, A, Ws.bst js σp, ys, [], [], [], I0, st1, fun b hb => (hf b hb).1, Ext.refl _ _, rl, rs.bst js, ev, hacc, by rw [← hDe]; exact I.hok.fresh (Nat.le_refl _), .nil, .nil, rfl⟩
    rintro m s' ⟨i, σ', H', ρ', B, σp', rest, accp, accv, its, I1, st', fn', x1, rl1, rs1, ev1, pl, hDn, va, ra, hys⟩
    obtain ⟨nD0, hDo⟩ := id pl
    have dD : ∀ v, ({ cls := .type "list", data := .seq its.toArray nD0 } : Obj).data ≠ .cell v := fun v z => nomatch z
    have I2 : L2.Inv Y [(D, { cls := .type "list", data := .seq its.toArray nD0 })] σ' H' s' := I1.pins_of fun p hp => by
      have e : p = (D, { cls := .type "list", data := .seq its.toArray nD0 }) := by simpa using hp
      subst e
      exact ⟨hDo, hDn, hDC, nD, dD⟩
    have f2 := fpY [(D, { cls := .type "list", data := .seq its.toArray nD0 })] H' (fun p hp b hb => by
      have e : p = (D, { cls := .type "list", data := .seq its.toArray nD0 }) := by simpa using hp
      subst e
      exact (hDfp b hb).symm) fn'
    rw [cturns_succ] at ev1
    obtain ⟨x, B1, e1, ev2⟩ := bnd_inv ev1
    obtain ⟨rfl, hit⟩ := item_ok rl1 (rj.mono x1) e1
    cases x with
    | none =>
      cases ev2
      rw [List.append_nil] at hys
      subst hys
      refine L2.thn (T.done Y rfl rfl rfl hc i _ s' σ' H' (fun _ _ => False) I2 f2 st' hit) fun r s1 ⟨hr, I3⟩ => ?_
      subst hr
      have hD3 := I3.pin (D, { cls := .type "list", data := .seq its.toArray nD0 }) (by simp)
      obtain ⟨mC, hnC, _⟩ := id I3.loc
      refine hRR D C s1 mC hnC (fun z => ?_) fun h2 sb => ?_
      · have := I.lt
        rw [← z, hDe] at this
        exact absurd (Nat.lt_of_lt_of_le this hCle) (Nat.lt_irrefl _)
      · have ch : ∀ b ∈ fp, (b ∈ X.ex ∨ X.s₀.heap.objs.size ≤ b) ∧ b ≠ X.env.locals ∧ (∀ x c, X.env.cells.lookup x = some c → c ≠ b) ∧ ∀ p ∈ X.pn ++ pins, p.1 ≠ b := fun b hb => ⟨(hf b hb).2.2.2.1, (hf b hb).2.1, (hf b hb).2.2.2.2.1, (hf b hb).2.2.2.2.2⟩
        have IX : L2.Inv X pins σ H' s1 := I.call' I3.os I3.base I3.hok I3.bare ch
        have fpn : ∀ (H'' : L2.Hp) b, D ≤ b → H'' b = none → L2.FpOk X pins H'' b := fun H'' b hb hn => by
          rw [← hDe] at hb
          exact I.fpOk (H' := H'') hb hn
        have IX2 : L2.Inv X pins σ H' { s1 with heap := h2 } := IX.turned (t' := s1.toks) (fun b o hb q => (sb.2 b hb).trans q) I3.free (fpn H' C hCle I3.free).2.1 (fpn H' C hCle I3.free).2.2.2.1 (fpn H' C hCle I3.free).2.2.2.2.1 (fpn H' C hCle I3.free).2.2.2.2.2
        have hlen : accv.length ≤ sizeLine := by rw [← ra.length]; exact LIM_line hy
        have IX3 : L2.Inv X pins σ (L2.upd H' D (.lst accv)) { s1 with heap := h2 } := adopt (fp := fp) IX2 (fpn H' D (Nat.le_refl _) hDn) ⟨hlen, its, nD0, va, (sb.2 D hDC).trans hD3.1⟩
        have ex : Ext ρ' H' (ρ' ++ [D]) (L2.upd H' D (.lst accv)) := Ext.new hDn
        refine ⟨ρ' ++ [D], L2.upd H' D (.lst accv), x1.trans ex, rl1.alloc hDn ⟨accv, L2.upd_same, ra.mono ex⟩ rfl, by rw [← rl1.len]; simp, IX3, fpn _ C hCle ?_⟩
        rw [L2.upd_ne (Ne.symm hDC)]; exact I3.free
    | some v =>
      refine L2.thn (T.item Y rfl rfl rfl hc i _ s' σ' H' (fun _ _ => False) I2 f2 st' hit.1) fun r s1 ⟨u, hr, h4⟩ => ?_
      subst hr
      refine L2.thn h4 fun _ s2 ⟨xv, H3, I3, ru, hyl, st3, fn3⟩ => ?_
      obtain ⟨x2, rl3, rv3⟩ := hit.2 xv H3 hyl
      have f3 := fpY [(D, { cls := .type "list", data := .seq its.toArray nD0 })] H3 (fun p hp b hb => by
        have e : p = (D, { cls := .type "list", data := .seq its.toArray nD0 }) := by simpa using hp
        subst e
        exact (hDfp b hb).symm) fn3
      have I4 := I3.pinned f3 (T.obj _ _ st3)
      obtain ⟨σ4, B4, e4, ev3⟩ := bnd_inv ev2
      obtain ⟨b5, B5, e5, ev4⟩ := bnd_inv ev3
      refine L2.thn (hg C s H fp _ s2 σ' H3 xv u (fun σ5 H5 => ∃ ρ5, Ext ρ' H3 ρ5 H5 ∧ Rel X.K cm ρ5 B4 H5 ∧ RSt ρ5 H5 σ4 σ5) I4 ru ⟨ρ', B1, σp', v, σ4, B4, rl3, rs1.mono x2, rv3, e4, fun ρ5 H5 σ5 x5 rl5 rs5 => ⟨ρ5, x5, rl5, rs5⟩⟩) fun _ s5 ⟨σ5, H5, I5, ρ5, x5, rl5, rs5⟩ => ?_
      refine L2.thn (ht C s H fp _ s5 σ5 H5 (fun b H6 => b = b5 ∧ ∃ ρ6, Ext ρ5 H5 ρ6 H6 ∧ Rel X.K cm ρ6 B5 H6) I5 ⟨ρ5, B4, σ4, b5, B5, rl5, rs5, e5, fun ρ6 H6 x6 rl6 => ⟨rfl, ρ6, x6, rl6⟩⟩) fun ok s6 ⟨H6, I6, hok, ρ6, x6, rl6⟩ => ?_
      subst hok
      have x16 : Ext ρ' H' ρ6 H6 := (x2.trans x5).trans x6
      have unpin : ∀ {σ7 : L2.St} {H7 : L2.Hp} {s7 : Shared}, L2.Inv Y ([(D, { cls := .type "list", data := .seq its.toArray nD0 })] ++ L2.pinsAt fp s2.heap) σ7 H7 s7 → (s7.heap.get? D = some { cls := .type "list", data := .seq its.toArray nD0 } ∧ H7 D = none) ∧ (∀ b ∈ fp, H7 b = none) ∧ (∀ b ∈ fp, ∀ o, s2.heap.get? b = some o → s7.heap.get? b = some o) := fun {σ7 H7 s7} I7 => by
        have p1 := I7.pin (D, { cls := .type "list", data := .seq its.toArray nD0 }) (List.mem_append_right _ (List.mem_append_left _ (by simp)))
        refine ⟨⟨p1.1, p1.2.1⟩, fun b hb => ?_, fun b hb o q => ?_⟩
        · obtain ⟨o, q, _⟩ := T.obj _ _ st3 b hb
          exact (I7.pin (b, o) (List.mem_append_right _ (List.mem_append_right _ (L2.mem_pinsAt hb q)))).2.1
        · exact (I7.pin (b, o) (List.mem_append_right _ (List.mem_append_right _ (L2.mem_pinsAt hb q)))).1
      have bare0 : ∀ {ps : List (Addr × Obj)} {σ7 : L2.St} {H7 : L2.Hp} {s7 : Shared}, L2.Inv Y ps σ7 H7 s7 → L2.Inv Y [] σ7 H7 s7 := fun I7 => I7.pins_of fun p hp => absurd hp (by simp)
      cases ok with
      | false =>
        rw [if_neg (by simp)]
        rw [if_neg (by simp)] at ev4
        cases m with
        | zero => rw [cturns_zero] at ev4; cases ev4
        | succ m =>
          obtain ⟨⟨u1, u2⟩, u3, u4⟩ := unpin I6
          exact ⟨m, Nat.lt_succ_self _, i + 1, σ5, H6, ρ6, B5, σ4, rest, accp, accv, its, bare0 I6, T.keep _ _ _ st3 u4, u3, x1.trans x16, rl6, rs5.mono x6, ev4, ⟨nD0, u1⟩, u2, va, ra.mono x16, hys⟩
      | true =>
        rw [if_pos rfl]
        rw [if_pos rfl] at ev4
        obtain ⟨y, B7, e7, ev5⟩ := bnd_inv ev4
        obtain ⟨more, B8, e8, ev6⟩ := bnd_inv ev5
        cases ev6
        refine L2.thn (he C s H fp _ s6 σ5 H6 (fun yv H7 => ∃ ρ7, Ext ρ6 H6 ρ7 H7 ∧ Rel X.K cm ρ7 B7 H7 ∧ RV ρ7 H7 y yv) I6 ⟨ρ6, B5, σ4, y, B7, rl6, rs5.mono x6, e7, fun ρ7 H7 yv x7 rl7 rv7 => ⟨ρ7, x7, rl7, rv7⟩⟩) fun yu s7 ⟨yv, H7, I7, ry, ρ7, x7, rl7, rv7⟩ => ?_
        obtain ⟨⟨u1, u2⟩, u3, u4⟩ := unpin I7
        have hlen : its.length ≤ sizeLine := by
          rw [← va.length, ← ra.length]
          refine LIM_line (Nat.le_trans ?_ hy)
          rw [← hys, List.length_append]; exact Nat.le_add_right _ _
        refine wpAny_list_append_plain (items := its.toArray) ⟨nD0, u1⟩ (fun h8 pl8 sb8 => ?_) (by rw [List.size_toArray]; exact hlen)
        have I8 : L2.Inv Y [] σ5 H7 { s7 with heap := h8 } := (bare0 I7).turned (t' := s7.toks) (fun b o hb q => (sb8.2 b hb).trans q) u2 hDC (.inr (by show s.heap.objs.size ≤ D; rw [hDe]; exact Nat.le_refl _)) (fun x c q => Nat.ne_of_lt (cellD x c (subc x c q))) (fun p hp => absurd (show p ∈ ([] : List (Addr × Obj)) from hp) (by simp))
        cases m with
        | zero => rw [cturns_zero] at e8; cases e8
        | succ m =>
          have x17 := x16.trans x7
          refine ⟨m, Nat.lt_succ_self _, i + 1, σ5, H7, ρ7, B7, σ4, more, accp ++ [y], accv ++ [yv], its ++ [yu], I8, T.keep _ _ _ st3 fun b hb o q => (sb8.2 b (hDfp b hb)).trans (u4 b hb o q), u3, x1.trans x17, rl7, (rs5.mono x6).mono x7, e8, by simpa using pl8, u2, va.append (.cons ry .nil), (ra.mono x17).append (.cons rv7 .nil), by rw [← hys]; simp⟩
  exact codeAny_compStart_list (loop _ rfl) (T.self X.A 0 _ _ _ st1 (loop _ rfl))
end
end Ws
namespace Ws
open PySem
section
variable {X : L2.Cx} {cm : Nat → Addr}
theorem r_comp {elt tg iter : Expr} {ifs : List Expr} {scope : Scope} {pos : Pos} {cl : List (Str × Addr)} {N : List Str} (js : List (Option Nat)) {it : ID} {g : GD} {t : TD} {e : ED} (hc : X.calm = true) (S : ScOk X scope cl) (Fr : FreeOk X scope cl N js) (hi : L2.PI X tg iter (EvI X.K cm it))
    (hg : ∀ C s0 H0 fp, L2.PG (blk X N scope cl C s0 H0 fp) tg (EvG X.K cm g)) (ht : ∀ C s0 H0 fp, PTs (blk X N scope cl C s0 H0 fp) ifs (EvT X.K cm t)) (he : ∀ C s0 H0 fp, L2.PE (blk X N scope cl C s0 H0 fp) elt (EvE X.K cm e))
    (hs : ∀ x, foldedSetIterable iter X.env x = pure x := by intro _; rfl) : L2.PE X (.ListComp elt [⟨tg, iter, ifs, 0⟩] scope pos) (EvE X.K cm (eComp it (Ws.bst js) g t e)) := by
  intro pins s σ H Q I ⟨ρ, A, σp, v, A', rl, rs, ev, k⟩
  obtain ⟨J, A1, e1, ev1⟩ := bnd_inv ev
  obtain ⟨n, A2, e2, ev2⟩ := bnd_inv ev1
  obtain rfl := fuel_same e2
  obtain ⟨ys, A3, e3, ev3⟩ := bnd_inv ev2
  obtain ⟨c, ev4⟩ := guard_inv ev3
  cases ev4
  rw [eval_ListComp]
  refine wpAny_comprehension_free (use := none) rfl hs S.clos S.kind S.names (wpAny_mono (hi pins s σ H (fun j H1 => ∃ ρ1, Ext ρ H ρ1 H1 ∧ Rel X.K cm ρ1 A2 H1 ∧ RIt X.K ρ1 H1 J j) I ⟨ρ, A, σp, J, A2, rl, rs, e1, fun ρ1 H1 j x1 rl1 rj => ⟨ρ1, x1, rl1, rj⟩⟩) (fun xv s1 h1 => wpAny_mono h1 (fun itv s2 h2 => ?_) fun _ _ z => z) fun _ _ z => z)
  obtain ⟨itA, fp, tn, j, H1, rfl, I1, T, st, hf, ρ1, x1, rl1, rj⟩ := h2
  refine comp_core (RR := fun acc C => compPost (model X.prog X.w) X.A X.xe none (L2.EP X pins σ Q) acc C) hc S Fr hg ht he I1 T st hf rj rl1 (rs.mono x1) e3 c fun D C s' m hn hCL hfin => ⟨m, hn, fun h'' sb => ?_⟩
  obtain ⟨ρ2, H2, x2, rl2, hD, I2, _⟩ := hfin h'' sb
  exact ⟨.ref D, H2, I2, rfl, k ρ2 H2 _ (x1.trans x2) rl2 (.ref hD)⟩
theorem s_comp {elt tg iter : Expr} {ifs : List Expr} {scope : Scope} {pos spos py : Pos} {y : Str} {i : Nat} {cl : List (Str × Addr)} {N : List Str} (js : List (Option Nat)) {it : ID} {g : GD} {t : TD} {e : ED} (hc : X.calm = true) (S : ScOk X scope cl) (Fr : FreeOk X scope cl N js) (hi : L2.PI X tg iter (EvI X.K cm it))
    (hg : ∀ C s0 H0 fp, L2.PG (blk X N scope cl C s0 H0 fp) tg (EvG X.K cm g)) (ht : ∀ C s0 H0 fp, PTs (blk X N scope cl C s0 H0 fp) ifs (EvT X.K cm t)) (he : ∀ C s0 H0 fp, L2.PE (blk X N scope cl C s0 H0 fp) elt (EvE X.K cm e))
    (hN : X.N.Nodup) (hiy : X.N[i]? = some y) (hy : L2.Loc X.env.scope y)
    (hsw : swapsWith (.ListComp elt [⟨tg, iter, ifs, 0⟩] scope pos) (some (.Name y py)) spos.line X.env = pure true := by rfl)
    (hfn : X.fn y = true ∨ X.env.scope.names.lookup y = some .local := by first | exact .inl rfl | exact .inr rfl)
    (hs : ∀ x, foldedSetIterable iter X.env x = pure x := by intro _; rfl) : L2.PS X (.Assign [.Name y py] (.ListComp elt [⟨tg, iter, ifs, 0⟩] scope pos) spos) (EvS X.K cm (sAsg (eComp it (Ws.bst js) g t e) (gName i))) := by
  intro pins s σ H Dn I ⟨ρ, A, σp, fl, A', rl, rs, ev, k⟩
  obtain ⟨v, A0, e0, ev0⟩ := bnd_inv ev
  obtain ⟨σ1, A9, e9, ev9⟩ := bnd_inv ev0
  cases e9
  cases ev9
  obtain ⟨J, A1, e1, ev1⟩ := bnd_inv e0
  obtain ⟨n, A2, e2, ev2⟩ := bnd_inv ev1
  obtain rfl := fuel_same e2
  obtain ⟨ys, A3, e3, ev3⟩ := bnd_inv ev2
  obtain ⟨c, ev4⟩ := guard_inv ev3
  cases ev4
  rw [exec_Assign_Name_used _ _ _ _ hsw]
  refine wpAny_bind (wpAny_standAt (wpAny_bind ?_))
  show wpAny _ X.A (do let _ ← comprehension (.ListComp elt [⟨tg, iter, ifs, 0⟩] scope pos) scope X.env _ (newList []) false (eval iter X.env) (some (assign (.Name y py) X.env))) _ _ s
  refine wpAny_bind (wpAny_mono (wpAny_comprehension_free (use := some (assign (.Name y py) X.env)) (Q := fun _ s' => L2.SP X pins Dn .next s') rfl hs S.clos S.kind S.names (wpAny_mono (hi pins s σ H (fun j H1 => ∃ ρ1, Ext ρ H ρ1 H1 ∧ Rel X.K cm ρ1 A2 H1 ∧ RIt X.K ρ1 H1 J j) I ⟨ρ, A, σp, J, A2, rl, rs, e1, fun ρ1 H1 j x1 rl1 rj => ⟨ρ1, x1, rl1, rj⟩⟩) (fun xv s1 h1 => wpAny_mono h1 (fun itv s2 h2 => ?_) fun _ _ z => z) fun _ _ z => z)) (fun _ s' hq => wpAny_pure (wpAny_pure hq)) fun _ _ z => z)
  obtain ⟨itA, fp, tn, j, H1, rfl, I1, T, st, hf, ρ1, x1, rl1, rj⟩ := h2
  refine comp_core (RR := fun acc C => compPost (model X.prog X.w) X.A X.xe (some (assign (.Name y py) X.env)) (fun _ s' => L2.SP X pins Dn .next s') acc C) hc S Fr hg ht he I1 T st hf rj rl1 (rs.mono x1) e3 c fun D C s' m hn hCL hfin => ?_
  show wpAny _ X.A (assign (.Name y py) X.env (.ref D)) _ _ _
  obtain ⟨ρ2, H2, x2, rl2, hD, I2, fC⟩ := hfin s'.heap (.refl ..)
  obtain ⟨oC, es, ep, hoC, hdC, rC⟩ := id hn
  have I3 : L2.Inv X (pins ++ [(C, oC)]) σ H2 s' := L2.Inv.pins_of (I := I2) fun p hp => by
    rcases List.mem_append.mp hp with hp | hp
    · exact I2.pin p (List.mem_append_right _ hp)
    · have e : p = (C, oC) := by simpa using hp
      subst e
      exact ⟨hoC, fC.1, fC.2.1, fC.2.2.1, fun v z => by rw [hdC] at z; cases z⟩
  refine wpAny_assign_Name (L2.store_ok I3 hN hiy hy (show L2.RelV (.ref D) (.ref D) from rfl) (fun s3 I4 => ?_) hfn)
  have pC := I4.pin (C, oC) (by simp)
  refine ⟨m, ⟨oC, es, ep, pC.1, hdC, rC⟩, fun h4 sb => ?_⟩
  have I5 : L2.Inv X pins (σ.set i (some (.ref D))) H2 s3 := I4.pins_of fun p hp => I4.pin p (List.mem_append_right _ (List.mem_append_left _ hp))
  have I6 : L2.Inv X pins (σ.set i (some (.ref D))) H2 { s3 with heap := h4 } := I5.turned (t' := s3.toks) (fun b o hb q => (sb.2 b hb).trans q) fC.1 fC.2.1 fC.2.2.2.1 fC.2.2.2.2.1 fC.2.2.2.2.2
  exact ⟨σ.set i (some (.ref D)), H2, I6, k ρ2 H2 (x1.trans x2) rl2 _ (((rs.mono x1).mono x2).set i (.ref hD))⟩
end
theorem fa_nil {α : Type} {P : α → Prop} : ∀ x ∈ ([] : List α), P x := fun _ h => nomatch h
theorem fa_cons {α : Type} {P : α → Prop} {a : α} {l : List α} (h : P a) (r : ∀ x ∈ l, P x) : ∀ x ∈ a :: l, P x := fun x hx => (List.mem_cons.mp hx).elim (fun e => e ▸ h) (r x)
end Ws
namespace Ws
open PySem PySem.W PyProof.Rows
noncomputable def wpk {α : Type} (n : Nat) (lt : Nat → Nat → Bool) : KasT α → (α → Prop) → Prop
  | .ret a, Q => Q a
  | .ask i j k, Q => i < n ∧ j < n ∧ wpk n lt (k (lt i j)) Q
theorem wpk_bind {α β : Type} {n : Nat} {lt : Nat → Nat → Bool} {f : α → KasT β} {Q : β → Prop} : ∀ {t : KasT α}, wpk n lt t (fun a => wpk n lt (f a) Q) → wpk n lt (t.bind f) Q
  | .ret _, h => h
  | .ask _ _ k, ⟨h1, h2, h3⟩ => ⟨h1, h2, wpk_bind (t := k _) h3⟩
theorem wpk_run {α : Type} {n : Nat} {lt : Nat → Nat → Bool} {cmp : Nat → Nat → (Bool → Shared → Prop) → Shared → Prop} {G : α → Shared → Prop} {s : Shared} (hc : ∀ i j C, i < n → j < n → C (lt i j) s → cmp i j C s) : ∀ {t : KasT α} {Q : α → Prop}, wpk n lt t Q → (∀ a, Q a → G a s) → t.kasWp cmp G s
  | .ret a, Q, h, hq => hq a h
  | .ask i j k, Q, ⟨h1, h2, h3⟩, hq => hc i j _ h1 h2 (wpk_run hc (t := k _) h3 hq)
section
variable {n : Nat} {α : Type} {key : Nat → α} {lt : Nat → Nat → Bool}
structure Ord (key : Nat → α) (lt : Nat → Nat → Bool) : Prop where
  asym : ∀ a b, lt a b = true → lt b a = false
  tr : ∀ a b c, lt b a = false → lt c b = false → lt c a = false
  tot : ∀ a b, lt a b = false → lt b a = false → key a = key b
  cong : ∀ a b c d, key a = key b → key c = key d → lt a c = lt b d
structure Pm (n : Nat) (p : Array Nat) : Prop where
  size : p.size = n
  perm : p.Perm (List.toArray (List.range n))
theorem Pm.bd {p : Array Nat} (h : Pm n p) (hn : 0 < n) (i : Nat) : p.getD i 0 < n := by
  by_cases hi : i < p.size
  · have e : p.getD i 0 = p[i] := by simp [Array.getD, hi]
    rw [e]
    have hm : p[i] ∈ p.toList := by simp
    have := (Array.perm_iff_toList_perm.mp h.perm).mem_iff.mp hm
    simpa using this
  · have e : p.getD i 0 = 0 := by simp [Array.getD, hi]
    rw [e]; exact hn
theorem getD_of {p q : Array Nat} {i j : Nat} (h : p[i]? = q[j]?) : p.getD i 0 = q.getD j 0 := by
  rw [Array.getD_eq_getD_getElem?, Array.getD_eq_getD_getElem?, h]
theorem Pm.rev {p : Array Nat} (h : Pm n p) (i j : Nat) : Pm n (kas_rev p i j) := ⟨by unfold kas_rev; rw [mirror_size]; exact h.size, (mirror_perm _ _ _ _).trans h.perm⟩
theorem rev_at {p : Array Nat} {i j : Nat} (hj : j ≤ p.size) (k : Nat) : (kas_rev p i j).getD k 0 = if i ≤ k ∧ k < j then p.getD (i + j - 1 - k) 0 else p.getD k 0 := by
  have e := getElem?_mirror_all (xs := p) (i := i) hj k
  unfold kas_rev
  by_cases h : i ≤ k ∧ k < j
  · rw [if_pos h] at e ⊢; exact getD_of e
  · rw [if_neg h] at e ⊢; exact getD_of e
theorem Pm.bub {p : Array Nat} (h : Pm n p) (i d : Nat) : Pm n (bubble p i d) := ⟨by rw [bubble_size]; exact h.size, (bubble_perm _ _ _).trans h.perm⟩
theorem bub_at {p : Array Nat} {src d : Nat} (hs : src < p.size) (hd : d ≤ src) (k : Nat) : (bubble p src d).getD k 0 = if k = src - d then p.getD src 0 else if src - d < k ∧ k ≤ src then p.getD (k - 1) 0 else p.getD k 0 := by
  have e := getElem?_bubble hs d hd k
  by_cases h1 : k = src - d
  · rw [if_pos h1] at e ⊢; exact getD_of e
  · rw [if_neg h1] at e ⊢
    by_cases h2 : src - d < k ∧ k ≤ src
    · rw [if_pos h2] at e ⊢; exact getD_of e
    · rw [if_neg h2] at e ⊢; exact getD_of e
noncomputable def Inc (lt : Nat → Nat → Bool) (p : Array Nat) (m : Nat) : Prop := ∀ i j, i ≤ j → j < m → lt (p.getD j 0) (p.getD i 0) = false
noncomputable def Dec (lt : Nat → Nat → Bool) (p : Array Nat) (m : Nat) : Prop := ∀ i j, i ≤ j → j < m → lt (p.getD i 0) (p.getD j 0) = false
variable (O : Ord key lt) (hn : 0 < n)
include O hn
theorem Ord.irr (a : Nat) : lt a a = false := by
  cases h : lt a a with
  | false => rfl
  | true => have := O.asym a a h; rw [h] at this; exact this
theorem inc_snoc {p : Array Nat} {m : Nat} (h : Inc lt p m) (h1 : m = 0 ∨ lt (p.getD m 0) (p.getD (m - 1) 0) = false) : Inc lt p (m + 1) := fun i j hij hj => by
  by_cases e : j = m
  · subst e
    by_cases e2 : i = j
    · subst e2; exact O.irr hn _
    · rcases h1 with h1 | h1
      · omega
      · exact O.tr _ _ _ (h i (j - 1) (by omega) (by omega)) h1
  · exact h i j hij (by omega)
theorem dec_snoc {p : Array Nat} {m : Nat} (h : Dec lt p m) (h1 : m = 0 ∨ lt (p.getD (m - 1) 0) (p.getD m 0) = false) : Dec lt p (m + 1) := fun i j hij hj => by
  by_cases e : j = m
  · subst e
    by_cases e2 : i = j
    · subst e2; exact O.irr hn _
    · rcases h1 with h1 | h1
      · omega
      · exact O.tr _ _ _ h1 (h i (j - 1) (by omega) (by omega))
  · exact h i j hij (by omega)
theorem k_asc {p : Array Nat} (hp : Pm n p) {Q : Nat → Prop} : ∀ f m, 1 ≤ m → Inc lt p m → (∀ m', m ≤ m' → m' ≤ m + f → Inc lt p m' → (m' < m + f → lt (p.getD m' 0) (p.getD (m' - 1) 0) = true) → Q m') → wpk n lt (kas_asc p f m) Q
  | 0, m, _, hi, h => h m (Nat.le_refl _) (Nat.le_refl _) hi fun z => by omega
  | f + 1, m, h1, hi, h => by
    refine ⟨hp.bd hn m, hp.bd hn (m - 1), ?_⟩
    cases hc : lt (p.getD m 0) (p.getD (m - 1) 0) with
    | true => exact h m (Nat.le_refl _) (by omega) hi fun _ => hc
    | false =>
      simp only [Bool.false_eq_true, if_false]
      exact k_asc hp f (m + 1) (by omega) (inc_snoc O hn hi (.inr hc)) fun m' a b c d => h m' (by omega) (by omega) c fun z => d (by omega)
theorem rev_same {p : Array Nat} {i j : Nat} (hj : j ≤ p.size) (he : ∀ k, i ≤ k → k < j → key (p.getD k 0) = key (p.getD (j - 1) 0)) (k : Nat) : key ((kas_rev p i j).getD k 0) = key (p.getD k 0) := by
  rw [rev_at hj]
  by_cases h : i ≤ k ∧ k < j
  · rw [if_pos h, he (i + j - 1 - k) (by omega) (by omega), he k h.1 h.2]
  · rw [if_neg h]
theorem dec_cong {p q : Array Nat} {m : Nat} (h : ∀ k, key (p.getD k 0) = key (q.getD k 0)) (hd : Dec lt q m) : Dec lt p m := fun i j hij hj => by rw [O.cong _ _ _ _ (h i) (h j)]; exact hd i j hij hj
noncomputable def Eqs (key : Nat → α) (p : Array Nat) (m q : Nat) : Prop := q + 1 ≤ m ∧ ∀ k, m - (q + 1) ≤ k → k < m → key (p.getD k 0) = key (p.getD (m - 1) 0)
omit O hn in
theorem eqs0 {p : Array Nat} {m : Nat} (h : 1 ≤ m) : Eqs key p m 0 := ⟨h, fun k h1 h2 => by rw [show k = m - 1 by omega]⟩
theorem k_desc {Q : Array Nat × Nat × Nat → Prop} : ∀ f (p : Array Nat) m q, Pm n p → m + f ≤ n → Dec lt p m → Eqs key p m q → (∀ p' m' q', Pm n p' → m ≤ m' → m' ≤ m + f → Dec lt p' m' → Eqs key p' m' q' → Q (p', m', q')) → wpk n lt (kas_desc f p m q) Q
  | 0, p, m, q, hp, hmf, hd, he, h => h p m q hp (Nat.le_refl _) (Nat.le_refl _) hd he
  | f + 1, p, m, q, hp, hmf, hd, he, h => by
    refine ⟨hp.bd hn m, hp.bd hn (m - 1), ?_⟩
    have h1 := he.1
    cases hc : lt (p.getD m 0) (p.getD (m - 1) 0) with
    | true =>
      simp only [if_true]
      by_cases hq : q > 0
      · rw [if_pos hq]
        have hs := rev_same O hn (p := p) (i := m - (q + 1)) (j := m) (by rw [hp.size]; omega) he.2
        refine k_desc f _ (m + 1) 0 (hp.rev _ _) (by omega) ?_ (eqs0 (by omega)) fun p' m' q' a b c d e => h p' m' q' a (by omega) (by omega) d e
        exact dec_cong O hn hs (dec_snoc O hn hd (.inr (O.asym _ _ hc)))
      · rw [if_neg hq]
        exact k_desc f p (m + 1) 0 hp (by omega) (dec_snoc O hn hd (.inr (O.asym _ _ hc))) (eqs0 (by omega)) fun p' m' q' a b c d e => h p' m' q' a (by omega) (by omega) d e
    | false =>
      simp only [Bool.false_eq_true, if_false]
      refine ⟨hp.bd hn (m - 1), hp.bd hn m, ?_⟩
      cases hc2 : lt (p.getD (m - 1) 0) (p.getD m 0) with
      | true => exact h p m q hp (Nat.le_refl _) (by omega) hd he
      | false =>
        simp only [Bool.false_eq_true, if_false]
        refine k_desc f p (m + 1) (q + 1) hp (by omega) (dec_snoc O hn hd (.inr hc2)) ⟨by omega, fun k k1 k2 => ?_⟩ fun p' m' q' a b c d e => h p' m' q' a (by omega) (by omega) d e
        rw [Nat.add_sub_cancel]
        by_cases e : k = m
        · rw [e]
        · rw [he.2 k (by omega) (by omega)]; exact O.tot _ _ hc2 hc
theorem k_tail {p : Array Nat} {m : Nat} (hp : Pm n p) (h1 : 1 ≤ m) (hmn : m ≤ n) (hd : Dec lt p m) {Q : Nat × Array Nat → Prop} (h : ∀ m' p', Pm n p' → 1 ≤ m' → m' ≤ n → Inc lt p' m' → Q (m', p')) : wpk n lt (kas_tail3 m n p) Q := by
  refine wpk_bind ?_
  have hi : Inc lt (kas_rev p 0 m) m := fun i j hij hj => by
    rw [rev_at (by rw [hp.size]; exact hmn), rev_at (by rw [hp.size]; exact hmn), if_pos ⟨by omega, hj⟩, if_pos ⟨by omega, by omega⟩]
    exact hd _ _ (by omega) (by omega)
  exact k_asc O hn (hp.rev 0 m) (n - m) m h1 hi fun m' a b c _ => h m' _ (hp.rev 0 m) (by omega) (by omega) c
theorem k_descPart {p : Array Nat} {m : Nat} (hp : Pm n p) (h1 : 1 ≤ m) (hmn : m < n) (hd : Dec lt p (m + 1)) {Q : Nat × Array Nat → Prop} (h : ∀ m' p', Pm n p' → 1 ≤ m' → m' ≤ n → Inc lt p' m' → Q (m', p')) : wpk n lt (kas_descPart m n p) Q := by
  refine wpk_bind (k_desc O hn (n - (m + 1)) p (m + 1) 0 hp (by omega) hd (eqs0 (by omega)) fun p' m' q' a b c d e => ?_)
  have e1 := e.1
  dsimp only
  by_cases hq : q' > 0
  · rw [if_pos hq]
    have hs := rev_same O hn (p := p') (i := m' - (q' + 1)) (j := m') (by rw [a.size]; omega) e.2
    exact k_tail O hn (a.rev _ _) (by omega) (by omega) (dec_cong O hn hs d) h
  · rw [if_neg hq]
    exact k_tail O hn a (by omega) (by omega) d h
theorem k_count {p : Array Nat} (hp : Pm n p) (h2 : 2 ≤ n) {Q : Nat × Array Nat → Prop} (h : ∀ m' p', Pm n p' → 1 ≤ m' → m' ≤ n → Inc lt p' m' → Q (m', p')) : wpk n lt (kas_count n p) Q := by
  refine wpk_bind (k_asc O hn hp (n - 1) 1 (Nat.le_refl _) (fun i j hij hj => by rw [show i = j by omega]; exact O.irr hn _) fun m a b c d => ?_)
  by_cases hm : (m == n) = true
  · rw [if_pos hm]; exact h m p hp a (by omega) c
  · rw [if_neg hm]
    have hmn : m < n := by have : m ≠ n := fun z => hm (by simp [z]); omega
    have hstop := d (by omega)
    by_cases h1 : m > 1
    · rw [if_pos h1]
      refine ⟨hp.bd hn 0, hp.bd hn (m - 1), ?_⟩
      cases hc : lt (p.getD 0 0) (p.getD (m - 1) 0) with
      | true => exact h m p hp a (by omega) c
      | false =>
        simp only [Bool.false_eq_true, if_false]
        have eq1 : ∀ k, 0 ≤ k → k < m → key (p.getD k 0) = key (p.getD (m - 1) 0) := fun k _ hk => by
          refine O.tot _ _ ?_ (c k (m - 1) (by omega) (by omega))
          exact O.tr _ _ _ hc (c 0 k (by omega) hk)
        have hs := rev_same O hn (p := p) (i := 0) (j := m) (by rw [hp.size]; omega) eq1
        refine k_descPart O hn (hp.rev 0 m) a hmn (dec_cong O hn hs (dec_snoc O hn (fun i j hij hj => ?_) (.inr (O.asym _ _ hstop)))) h
        rw [O.cong _ _ _ _ (eq1 i (by omega) (by omega)) (eq1 j (by omega) hj)]; exact O.irr hn _
    · rw [if_neg h1]
      have : m = 1 := by omega
      subst this
      refine k_descPart O hn hp a hmn (dec_snoc O hn (fun i j hij hj => by rw [show i = j by omega]; exact O.irr hn _) (.inr (O.asym _ _ hstop))) h
theorem k_place {p : Array Nat} (hp : Pm n p) {k : Nat} (hi : Inc lt p k) {Q : Nat → Prop} : ∀ f l r, l ≤ r → r ≤ k → r - l ≤ f → (∀ i, i < l → lt (p.getD k 0) (p.getD i 0) = false) → (∀ i, r ≤ i → i < k → lt (p.getD k 0) (p.getD i 0) = true) →
    (∀ l', l' ≤ k → (∀ i, i < l' → lt (p.getD k 0) (p.getD i 0) = false) → (∀ i, l' ≤ i → i < k → lt (p.getD k 0) (p.getD i 0) = true) → Q l') → wpk n lt (kas_place p k f l r) Q
  | 0, l, r, hlr, hrk, hf, h1, h2, h => h l (by omega) h1 fun i a b => h2 i (by omega) b
  | f + 1, l, r, hlr, hrk, hf, h1, h2, h => by
    unfold kas_place
    by_cases hc : l ≥ r
    · rw [if_pos hc]; exact h l (by omega) h1 fun i a b => h2 i (by omega) b
    · rw [if_neg hc]
      refine ⟨hp.bd hn k, hp.bd hn _, ?_⟩
      cases hm : lt (p.getD k 0) (p.getD ((l + r) / 2) 0) with
      | true =>
        simp only [if_true]
        refine k_place hp hi f l ((l + r) / 2) (by omega) (by omega) (by omega) h1 (fun i a b => ?_) h
        cases e : lt (p.getD k 0) (p.getD i 0) with
        | true => rfl
        | false =>
          have := O.tr _ _ _ (hi ((l + r) / 2) i a b) e
          rw [hm] at this; exact this.symm
      | false =>
        simp only [Bool.false_eq_true, if_false]
        refine k_place hp hi f ((l + r) / 2 + 1) r (by omega) hrk (by omega) (fun i a => ?_) h2 h
        exact O.tr _ _ _ (hi i ((l + r) / 2) (by omega) (by omega)) hm
theorem k_bin {Q : Array Nat → Prop} : ∀ f (p : Array Nat) k, Pm n p → k + f = n → Inc lt p k → (∀ p', Pm n p' → Inc lt p' n → Q p') → wpk n lt (kas_bin f p k) Q
  | 0, p, k, hp, hk, hi, h => h p hp (by rw [← hk]; exact hi)
  | f + 1, p, k, hp, hk, hi, h => by
    refine wpk_bind (k_place O hn hp hi k 0 k (by omega) (by omega) (by omega) (fun i a => by omega) (fun i a b => by omega) fun l hl h1 h2 => ?_)
    refine k_bin f _ (k + 1) (hp.bub _ _) (by omega) (fun i j hij hj => ?_) h
    have hsz : k < p.size := by rw [hp.size]; omega
    have hkl : k - (k - l) = l := by omega
    rw [bub_at hsz (by omega), bub_at hsz (by omega), hkl]
    by_cases hj1 : j = l
    · rw [if_pos hj1]
      by_cases hi1 : i = l
      · rw [if_pos hi1]; exact O.irr hn _
      · rw [if_neg hi1, if_neg (by omega)]; exact h1 i (by omega)
    · rw [if_neg hj1]
      by_cases hj2 : l < j ∧ j ≤ k
      · rw [if_pos hj2]
        by_cases hi1 : i = l
        · rw [if_pos hi1]; exact O.asym _ _ (h2 (j - 1) (by omega) (by omega))
        · rw [if_neg hi1]
          by_cases hi2 : l < i ∧ i ≤ k
          · rw [if_pos hi2]; exact hi (i - 1) (j - 1) (by omega) (by omega)
          · rw [if_neg hi2]; exact hi i (j - 1) (by omega) (by omega)
      · rw [if_neg hj2]
        have hjl : j < l := by omega
        rw [if_neg (by omega), if_neg (by omega)]
        exact hi i j hij (by omega)
theorem k_sort (h2 : 2 ≤ n) {Q : Array Nat → Prop} (h : ∀ p', Pm n p' → Inc lt p' n → Q p') : wpk n lt (kas_sort n) Q := by
  refine wpk_bind (k_count O hn (p := List.toArray (List.range n)) ⟨by simp, .refl _⟩ h2 fun m p a b c d => ?_)
  dsimp only
  by_cases hm : m < n
  · rw [if_pos hm, Nat.max_eq_left b]
    exact k_bin O hn (n - m) p m a (by omega) d h
  · rw [if_neg hm]
    have : m = n := by omega
    subst this
    exact h p a d
end
end Ws
namespace Ws
open PySem PySem.W PyProof.Rows
noncomputable def lexF (fin : Bool) : List Int → List Int → Bool
  | x :: xs, y :: ys => if x = y then lexF fin xs ys else decide (x < y)
  | _, _ => fin
theorem lexF_eq : ∀ xs ys : List Int, lexF (decide (xs.length < ys.length)) xs ys = lexLt xs ys
  | [], [] => rfl
  | [], _ :: _ => by simp [lexF, lexLt]
  | _ :: _, [] => by simp [lexF, lexLt]
  | x :: xs, y :: ys => by
    simp only [lexF, lexLt, List.length_cons, Nat.add_lt_add_iff_right]
    rw [lexF_eq xs ys]
section
variable {prog : Program} {w : World} {A : Around} {E : Value → Shared → Prop} {s : Shared}
theorem katlex_ints {fin : Bool} {Q : Bool → Shared → Prop} : ∀ {vs us : List Value} {ns ms : List Int} (i : Nat), IntsAre vs ns → IntsAre us ms → Q (lexF fin ns ms) s → KatLex prog w A true fin Q (vs.zip us) i s
  | _, _, _, _, i, .nil, _, h => by simpa [lexF] using kat_nil h
  | _, _, _, _, i, .cons _ _ _, .nil, h => by simpa [lexF] using kat_nil h
  | _, _, _, _, i, .cons a t hv, .cons c u hw, h => by
    rw [List.zip_cons_cons]
    refine kat_cons (wpAny_eqBool_int ?_)
    by_cases e : a = c
    · subst e
      simp only [lexF, if_true] at h
      rw [beq_self_eq_true]
      exact kat_yes (katlex_ints (i + 1) hv hw h)
    · rw [beq_eq_false_iff_ne.mpr e]
      simp only [lexF, e, if_false] at h
      refine kat_no ?_
      cases hb : (true && i == 0) with
      | true => exact oneLt_int h
      | false => exact kat_one _ _ (lt_int h)
noncomputable def TupAt (h : Heap) (v : Value) (t : List Int) : Prop := ∃ a o its n, v = .ref a ∧ h.get? a = some o ∧ o.cls = .type "tuple" ∧ o.data = .seq its n ∧ IntsAre its.toList t ∧ t ≠ []
theorem tups_get {h : Heap} : ∀ {vs : List Value} {ts : List (List Int)} {i : Nat}, Paired (TupAt h) vs ts → i < vs.length → TupAt h (vs.getD i .none) (ts.getD i [])
  | _, _, _, .nil, hi => by simp at hi
  | _, _, 0, .cons r _, _ => r
  | _, _, i + 1, .cons _ t, hi => by
    have := tups_get (i := i) t (by simpa using hi)
    simpa using this
theorem tups_kat {h : Heap} : ∀ {vs : List Value} {ts : List (List Int)}, Paired (TupAt h) vs ts → ∃ fs, KatTups h vs fs ∧ fs.length = vs.length ∧ ∀ f ∈ fs, ∃ i t, f = Value.int i t
  | _, _, .nil => ⟨[], KatTups.nil, rfl, by simp⟩
  | _, _, .cons r t => by
    obtain ⟨a, o, its, n, rfl, ho, hc, hd, hi, hne⟩ := r
    obtain ⟨fs, k, hl, hf⟩ := tups_kat t
    cases hh : its.toList with
    | nil => rw [hh] at hi; cases hi; exact absurd rfl hne
    | cons v r =>
      rw [hh] at hi
      cases hi with
      | cons i tk hr =>
        refine ⟨.int i tk :: fs, KatTups.cons ho hc hd (by rw [← Array.getElem?_toList, hh]; rfl) k, by simp [hl], fun f hm => ?_⟩
        rcases List.mem_cons.mp hm with rfl | hm
        · exact ⟨_, _, rfl⟩
        · exact hf f hm
theorem ord_lex (ts : List (List Int)) : Ord (fun i => ts.getD i []) (fun i j => lexLt (ts.getD i []) (ts.getD j [])) :=
  ⟨fun _ _ h => lex_asym _ _ h, fun _ _ _ h h' => lex_tr _ _ _ h h', fun _ _ h h' => lex_tot _ _ h h', fun _ _ _ _ h h' => congr (congrArg lexLt h) h'⟩
noncomputable def SortRes (ts : List (List Int)) (n : Nat) (p : List Nat) : Prop := p.Perm (List.range n) ∧ (p.map fun i => ts.getD i []).Pairwise (fun x y => lexLt y x = false)
theorem list_sort_tups {a : Addr} {vs : List Value} {ts : List (List Int)} {n : Nat} {P : PySem.Fin → Shared → Prop} (ho : s.heap.get? a = some (seqObj "list" vs.toArray n)) (ht : Paired (TupAt s.heap) vs ts) (h64 : vs.length < 64)
    (h : ∀ p, SortRes ts vs.length p → P (.done (.ret .none)) { s with heap := sortedHeap s.heap a vs (List.toArray (p.map fun i => vs.getD i Value.none)) }) :
    wpAny (model prog w) A (Builtin.«list.sort» ⟨[.ref a], []⟩) P E s := by
  rw [list_sort_plain]
  have ha : a < s.heap.objs.size := Heap.lt_size ho
  refine wpAny_bind (listItems_at ho rfl ?_)
  refine wpAny_bind (listUpdate_at ho rfl ?_)
  obtain ⟨e1, ho1⟩ : ∃ e1, (s.heap.update a (Obj.mapSeq fun _ => #[])).get? a = some (seqObj "list" #[] e1) := ⟨_, get?_update_seq ho (fun _ => #[])⟩
  refine wpAny_bind (seqEpoch_at ho1 rfl ?_)
  refine wpAny_bind (wpAny_newTuple ?_)
  refine wpAny_bind (wpAny_newList ?_)
  refine wpAny_holding ?_
  have ho6 : (((s.heap.update a (Obj.mapSeq fun _ => #[])).push (seqObj "tuple" vs.toArray 0)).push (seqObj "list" #[] 0)).get? a = some (seqObj "list" #[] e1) := by
    rw [Heap.get?_push_ne _ _ _ (by rw [size_push', Heap.size_update]; exact Nat.ne_of_lt (Nat.lt_succ_of_lt ha)), Heap.get?_push_ne _ _ _ (by rw [Heap.size_update]; exact Nat.ne_of_lt ha)]
    exact ho1
  show wpAny (model prog w) A _ P E { s with heap := ((s.heap.update a (Obj.mapSeq fun _ => #[])).push (seqObj "tuple" vs.toArray 0)).push (seqObj "list" #[] 0) }
  dsimp only
  have hsz : vs.toArray.size = vs.length := by simp
  have tst : ∀ v t, TupAt s.heap v t → TupAt (((s.heap.update a (Obj.mapSeq fun _ => #[])).push (seqObj "tuple" vs.toArray 0)).push (seqObj "list" #[] 0)) v t := fun v t ⟨b, o, its, k, e, q, c, d, r⟩ => by
    have hb : b ≠ a := by
      rintro rfl
      rw [ho] at q; cases q
      exact absurd (Value.type.inj (show Value.type "list" = Value.type "tuple" from c)) (by decide)
    exact ⟨b, o, its, k, e, Heap.get?_push_of_some _ (Heap.get?_push_of_some _ (by rw [Heap.get?_update_ne _ _ _ _ hb]; exact q)), c, d, r⟩
  have ht6 : Paired (TupAt (((s.heap.update a (Obj.mapSeq fun _ => #[])).push (seqObj "tuple" vs.toArray 0)).push (seqObj "list" #[] 0))) vs ts := L2.Paired.mapP ht tst
  by_cases h2 : vs.toArray.size < 2
  · rw [if_pos h2, if_pos h2]
    refine wpAny_bind (wpAny_pure ?_)
    rw [StateT.run_pure]
    refine wpAny_bind (wpAny_pure ?_)
    dsimp only
    refine wpAny_bind (seqEpoch_at ho6 rfl ?_)
    refine wpAny_bind (listUpdate_at ho6 rfl ?_ (hsz2 := by rw [Array.size_map]; show (pairsOf vs).size ≤ _; rw [pairsOf_size, sizeLine_eq]; omega))
    simp only [bne_self_eq_false, Bool.false_eq_true, if_false]
    have hp : SortRes ts vs.length (List.range vs.length) := by
      refine ⟨.refl _, ?_⟩
      rw [hsz] at h2
      match hl : vs.length, h2 with
      | 0, _ => simp
      | 1, _ => simp [List.range_succ]
    have hout : (arrOf (SortSt.mk' general' (vs.toArray.zip vs.toArray) #[] 7 none)).map (·.2) = List.toArray ((List.range vs.length).map fun i => vs.getD i Value.none) := by
      apply Array.toList_inj.mp
      show ((vs.toArray.zip vs.toArray).map (·.2)).toList = _
      apply List.ext_getElem
      · simp
      · intro i h1 h2
        have hi : i < vs.length := by simpa using h1
        simp [hi]
    have := h _ hp
    rw [← hout] at this
    exact wpAny_pure this
  · rw [if_neg h2, if_neg h2]
    have hl2 : 2 ≤ vs.length := by omega
    obtain ⟨fs, hk, hfl, hfi⟩ := tups_kat ht6
    refine wpAny_bind (kat_kind (T := .type "int") hk (by omega) (fun v hv => by
      obtain ⟨i, t, rfl⟩ := hfi v hv
      exact Looks.of_pure rfl) (by rfl) ?_)
    have ev : (kas_sort vs.length).kasWp (kas_ask prog w A (tuples' (Value.type "int" != Value.type "tuple")) vs) (fun p s' => SortRes ts vs.length p.toList ∧ s' = { s with heap := ((s.heap.update a (Obj.mapSeq fun _ => #[])).push (seqObj "tuple" vs.toArray 0)).push (seqObj "list" #[] 0) }) { s with heap := ((s.heap.update a (Obj.mapSeq fun _ => #[])).push (seqObj "tuple" vs.toArray 0)).push (seqObj "list" #[] 0) } := by
      refine wpk_run (n := vs.length) (lt := fun i j => lexLt (ts.getD i []) (ts.getD j [])) (fun i j C hi hj hC => ?_) (k_sort (ord_lex ts) (by omega) hl2 (Q := fun p => SortRes ts vs.length p.toList) fun p hp hinc => ?_) fun p hp => ⟨hp, rfl⟩
      · obtain ⟨b, o, its, k, e, q, c, d, r, _⟩ := tups_get ht6 hi
        obtain ⟨b', o', its', k', e', q', c', d', r', _⟩ := tups_get ht6 hj
        unfold kas_ask
        rw [e, e']
        refine kat_lt (b := true) q d q' d' (katlex_ints 0 r r' ?_)
        have z1 : its.size = (ts.getD i []).length := by rw [← r.length]; simp
        have z2 : its'.size = (ts.getD j []).length := by rw [← r'.length]; simp
        rw [z1, z2, lexF_eq]; exact hC
      · refine ⟨by simpa using Array.perm_iff_toList_perm.mp hp.perm, ?_⟩
        rw [List.pairwise_map, List.pairwise_iff_getElem]
        intro i j hi hj hij
        have := hinc i j (by omega) (by rw [← hp.size]; simpa using hj)
        have hi' : i < p.size := by simpa using hi
        have hj' : j < p.size := by simpa using hj
        simpa [Array.getD, hi', hj'] using this
    refine wpAny_bind (wpAny_mono (kat_run (Q := fun st' s' => ∃ p : Array Nat, p.size = vs.length ∧ arrOf st' = p.map (kas_item (vs.toArray.zip vs.toArray)) ∧ failedOf st' = none ∧ SortRes ts vs.length p.toList ∧ s' = { s with heap := ((s.heap.update a (Obj.mapSeq fun _ => #[])).push (seqObj "tuple" vs.toArray 0)).push (seqObj "list" #[] 0) })
      rfl hl2 h64 (fun p' st' s' a1 a2 a3 a4 => ⟨p', a1, a2, a3, a4.1, a4.2⟩) ev) ?_ fun _ _ e => e)
    rintro ⟨⟨⟩, st'⟩ s' ⟨p, hp, har, hf, hres, rfl⟩
    dsimp only
    have hout := kat_snds rfl har
    have hsz3 : (List.toArray (p.toList.map fun i => vs.getD i Value.none)).size = vs.length := by rw [List.size_toArray, List.length_map, Array.length_toList, hp]
    refine wpAny_bind (seqEpoch_at ho6 rfl ?_)
    rw [hout]
    refine wpAny_bind (listUpdate_at ho6 rfl ?_ (hsz2 := by rw [hsz3, sizeLine_eq]; omega))
    rw [hf]
    simp only [bne_self_eq_false, Bool.false_eq_true, if_false]
    exact wpAny_pure (h p.toList hres)
theorem sorted_tups {l : Addr} {vs : List Value} {ts : List (List Int)} {Q : Value → Shared → Prop} (hl : s.heap.IsList l vs.toArray) (ht : Paired (TupAt s.heap) vs ts) (h64 : vs.length < 64)
    (h : ∀ p, SortRes ts vs.length p → Q (.ref (s.heap.objs.size + 1)) { s with heap := sortedAll s.heap vs (List.toArray (p.map fun i => vs.getD i Value.none)) }) :
    wpAny (model prog w) A (call (.builtin "sorted") [.ref l]) Q E s := by
  refine Calls.call_function_entry kind_sorted plain_sorted entry_sorted (args_sorted1 _) ?_
  unfold Builtin.«sorted»
  refine wpAny_bind (m := checkCount "sorted" 1 1 _) (wpAny_pure ?_)
  refine wpAny_bind (collect_list hl ?_)
  refine wpAny_bind (wpAny_newList ?_)
  have hsz : ((s.heap.push (seqObj "list" #[] 0)).update s.heap.objs.size (Obj.mapSeq (· ++ vs.toArray))).objs.size = s.heap.objs.size + 1 := by
    rw [Heap.size_update, size_push']
  have hoL : (((s.heap.push (seqObj "list" #[] 0)).update s.heap.objs.size (Obj.mapSeq (· ++ vs.toArray))).push (seqObj "list" vs.toArray 0)).get? (s.heap.objs.size + 1) = some (seqObj "list" vs.toArray 0) := by
    rw [← hsz]; exact Heap.get?_push_size _ rfl
  show wpAny _ _ _ _ _ { s with heap := ((s.heap.push (seqObj "list" #[] 0)).update s.heap.objs.size (Obj.mapSeq (· ++ vs.toArray))).push (seqObj "list" vs.toArray 0) }
  rw [hsz]
  have keep : ∀ b o, s.heap.get? b = some o → (((s.heap.push (seqObj "list" #[] 0)).update s.heap.objs.size (Obj.mapSeq (· ++ vs.toArray))).push (seqObj "list" vs.toArray 0)).get? b = some o := fun b o q => by
    have hlt : b < s.heap.objs.size := Heap.lt_size q
    rw [Heap.get?_push_ne _ _ _ (by rw [hsz]; exact Nat.ne_of_lt (Nat.lt_succ_of_lt hlt)), Heap.get?_update_ne _ _ _ _ (Nat.ne_of_lt hlt), Heap.get?_push_ne _ _ _ (Nat.ne_of_lt hlt)]
    exact q
  refine wpAny_bind (wpAny_holding (wpAny_call_entry slot_list_sort ⟨_, hoL, rfl⟩ entry_list_sort (list_sort_tups hoL (L2.Paired.mapP ht fun v t ⟨b, o, its, k, e, q, r⟩ => ⟨b, o, its, k, e, keep b o q, r⟩) h64 fun p hp => ⟨_, rfl, ?_⟩) (args_list_sort _)))
  exact wpAny_pure ⟨_, rfl, h p hp⟩
end
section
variable {X : L2.Cx} {cm : Nat → Addr}
noncomputable def rSortI (K : PySem.W.Frag) : List L2.V → L2.Hp → L2.VK → Prop := fun vs H Q => ∃ a ns, vs = [.ref a] ∧ L2.SqL K H a (ns.map L2.V.int) ∧ ns.length < 64 ∧ ∀ l, H l = none → Q (.ref l) (L2.upd H l (.lst ((sortBy ltI ns).map L2.V.int)))
theorem call_sortI : L2.CallR X (.builtin "sorted") (rSortI X.K) := by
  intro pins s σ H xs us Q I r h
  obtain ⟨a, ns, rfl, hq, h64, q⟩ := h
  obtain ⟨u, rfl, rx⟩ := L2.vals1 r
  cases rx
  obtain ⟨its, ri, pl, hz⟩ := I.list hq
  have hI : IntsAre its ns := L2.intsAre_of ri
  have hl : its.length = ns.length := hI.length
  refine sorted_ints pl.isList hI (by omega) fun out ns' h1 h2 h3 => ?_
  have e : ns' = sortBy ltI ns := rise_uniq (h2.trans (sortBy_perm _ _).symm) h3 (sortI_sorted ns)
  subst e
  obtain ⟨c, hat⟩ := sortedAll_at s.heap its out
  have hlen : (sortBy ltI ns).length = ns.length := (sortBy_perm _ _).length_eq
  refine ⟨.ref (s.heap.objs.size + 1), _, I.laid (t' := s.toks) (a := s.heap.objs.size + 1) (o := .lst ((sortBy ltI ns).map L2.V.int)) (fun b o e => sortedAll_old e) (Nat.le_succ _) ?_, rfl, q _ (I.hok.fresh (Nat.le_succ _))⟩
  refine ⟨by rw [List.length_map, hlen, sizeLine_eq]; omega, out.toList, c, L2.vals_ints h1, ?_⟩
  rw [Array.toArray_toList]; exact hat
noncomputable def TupV (H : L2.Hp) (x : L2.V) (t : List Int) : Prop := ∃ b, x = .ref b ∧ H b = some (.tup (t.map L2.V.int)) ∧ t ≠ []
noncomputable def rSortT (K : PySem.W.Frag) : List L2.V → L2.Hp → L2.VK → Prop := fun vs H Q => ∃ a xs ts, vs = [.ref a] ∧ L2.SqL K H a xs ∧ Paired (TupV H) xs ts ∧ xs.length < 64 ∧ ∀ l p, SortRes ts xs.length p → H l = none → Q (.ref l) (L2.upd H l (.lst (p.map fun i => xs.getD i .non)))
theorem tups_of {pins : List (Addr × Obj)} {σ : L2.St} {H : L2.Hp} {s : Shared} (I : L2.Inv X pins σ H s) : ∀ {xs : List L2.V} {its : List Value} {ts : List (List Int)}, L2.Vals xs its → Paired (TupV H) xs ts → Paired (TupAt s.heap) its ts
  | _, _, _, .nil, .nil => .nil
  | _, _, _, .cons r t, .cons h k => by
    refine .cons ?_ (tups_of I t k)
    obtain ⟨b, rfl, hb, hne⟩ := h
    cases r
    obtain ⟨_, vals, rv, ob, ho, hc, n, hd⟩ := I.hok b _ hb
    exact ⟨b, ob, vals.toArray, n, rfl, ho, hc, hd, by simpa using L2.intsAre_of rv, hne⟩
theorem vals_pick {xs : List L2.V} {its : List Value} (r : L2.Vals xs its) : ∀ p : List Nat, (∀ i ∈ p, i < xs.length) → L2.Vals (p.map fun i => xs.getD i .non) (p.map fun i => its.getD i .none)
  | [], _ => .nil
  | i :: p, h => by
    have hi := h i List.mem_cons_self
    obtain ⟨u, hu, ru⟩ := r.get (i := i) (x := xs[i]) (by simp [hi])
    refine .cons ?_ (vals_pick r p fun j hj => h j (List.mem_cons_of_mem _ hj))
    have e1 : xs.getD i .non = xs[i] := by simp [hi]
    have e2 : its.getD i .none = u := by rw [List.getD_eq_getElem?_getD, hu]; rfl
    show L2.RelV (xs.getD i .non) (its.getD i .none)
    rw [e1, e2]; exact ru
theorem call_sortT : L2.CallR X (.builtin "sorted") (rSortT X.K) := by
  intro pins s σ H xs us Q I r h
  obtain ⟨a, ys, ts, rfl, hq, ht, h64, q⟩ := h
  obtain ⟨u, rfl, rx⟩ := L2.vals1 r
  cases rx
  obtain ⟨its, ri, pl, hz⟩ := I.list hq
  have hl : ys.length = its.length := ri.length
  refine sorted_tups pl.isList (tups_of I ri ht) (by omega) fun p hp => ?_
  have hp' : SortRes ts ys.length p := by rw [hl]; exact hp
  obtain ⟨c, hat⟩ := sortedAll_at s.heap its (List.toArray (p.map fun i => its.getD i Value.none))
  have hpl : p.length = ys.length := by rw [hp'.1.length_eq]; simp
  refine ⟨.ref (s.heap.objs.size + 1), _, I.laid (t' := s.toks) (a := s.heap.objs.size + 1) (o := .lst (p.map fun i => ys.getD i .non)) (fun b o e => sortedAll_old e) (Nat.le_succ _) ?_, rfl, q _ p hp' (I.hok.fresh (Nat.le_succ _))⟩
  refine ⟨by rw [List.length_map, hpl, sizeLine_eq]; omega, p.map fun i => its.getD i Value.none, c, vals_pick ri p fun i hi => ?_, hat⟩
  have := hp'.1.mem_iff.mp hi
  simpa using this
theorem intsOf_inv : ∀ {l : List PV} {ns : List Int}, intsOf l = some ns → l = ns.map .int
  | [], ns, h => by simp [intsOf] at h; subst h; rfl
  | x :: r, ns, h => by
    cases x with
    | int i =>
      simp only [intsOf, Option.map_eq_some_iff] at h
      obtain ⟨m, h1, rfl⟩ := h
      rw [intsOf_inv h1]; rfl
    | _ => simp [intsOf] at h
theorem tupsOf_inv : ∀ {l : List PV} {ts : List (List Int)}, tupsOf l = some ts → l = ts.map (fun t => PV.tup (t.map .int)) ∧ ∀ t ∈ ts, t ≠ []
  | [], ts, h => by simp [tupsOf] at h; subst h; simp
  | x :: r, ts, h => by
    cases x with
    | tup m =>
      cases m with
      | nil => simp [tupsOf] at h
      | cons y ys =>
        unfold tupsOf at h
        rcases e1 : intsOf (y :: ys) with _ | z
        · rw [e1] at h; cases h
        · rcases e2 : tupsOf r with _ | zs
          · rw [e1, e2] at h; cases h
          · rw [e1, e2] at h
            cases h
            obtain ⟨a, b⟩ := tupsOf_inv e2
            have e3 := intsOf_inv e1
            refine ⟨by rw [a, e3]; rfl, fun t ht => ?_⟩
            rcases List.mem_cons.mp ht with rfl | ht
            · rintro rfl; simp at e3
            · exact b t ht
    | _ => simp [tupsOf] at h
theorem RVs.ints_inv {ρ : List Addr} {H : L2.Hp} : ∀ {ns : List Int} {xs : List L2.V}, RVs ρ H (ns.map .int) xs → xs = ns.map L2.V.int
  | [], _, h => by cases h; rfl
  | i :: ns, _, h => by cases h with | cons h r => cases h; rw [RVs.ints_inv r]; rfl
theorem tupV_of {ρ : List Addr} {H : L2.Hp} : ∀ {ts : List (List Int)} {xs : List L2.V}, RVs ρ H (ts.map fun t => PV.tup (t.map .int)) xs → (∀ t ∈ ts, t ≠ []) → Paired (TupV H) xs ts
  | [], _, h, _ => by cases h; exact .nil
  | t :: ts, _, h, hne => by
    cases h with
    | cons h r =>
      cases h with
      | tup ha rt =>
        rw [RVs.ints_inv rt] at ha
        exact .cons ⟨_, rfl, ha, hne t List.mem_cons_self⟩ (tupV_of r fun u hu => hne u (List.mem_cons_of_mem _ hu))
theorem rvs_pick {ρ : List Addr} {H : L2.Hp} {l : List PV} {xs : List L2.V} (r : RVs ρ H l xs) : ∀ p : List Nat, (∀ i ∈ p, i < l.length) → RVs ρ H (p.map fun i => l.getD i .non) (p.map fun i => xs.getD i .non)
  | [], _ => .nil
  | i :: p, h => by
    have hi := h i List.mem_cons_self
    obtain ⟨u, hu, ru⟩ := r.get (i := i) (x := l[i]) (by simp [hi])
    refine .cons ?_ (rvs_pick r p fun j hj => h j (List.mem_cons_of_mem _ hj))
    have e1 : l.getD i .non = l[i] := by simp [hi]
    have e2 : xs.getD i .non = u := by rw [List.getD_eq_getElem?_getD, hu]; rfl
    show RV ρ H (l.getD i .non) (xs.getD i .non)
    rw [e1, e2]; exact ru
theorem pick_perm {α : Type} (ts : List α) (d : α) {p : List Nat} (hp : p.Perm (List.range ts.length)) : (p.map fun i => ts.getD i d).Perm ts := by
  refine (hp.map _).trans ?_
  have : (List.range ts.length).map (fun i => ts.getD i d) = ts := by
    apply List.ext_getElem
    · simp
    · intro i h1 h2; simp [h2]
  rw [this]
theorem r_sorted {e : Expr} {d : ED} {p pos : Pos} (hr : X.A.units + 64 < cLine) (he : L2.PE X e (EvE X.K cm d)) (hg : L2.Gl X "sorted") (hm : X.mg "sorted" = none) (hs : starEach [e] X.env = (false, eval e X.env) :: starEach [] X.env := by rfl) : L2.PE X (.Call (.Name "sorted" p) [e] [] pos) (EvE X.K cm (eSorted d)) :=
  PE_imp (L2.pe_callB (call_sortI.or call_sortT) hg hm PyProof.Rows.boot_sorted (r_cons he r_nil hs) (he := hs)) fun σ H Q h => ev_one (f := fun x => match x with | .ref n => bnd (lstAt n) fun l => bnd (pSorted l) fun m => alloc (.lst m) | _ => stuck) (fun _ => rfl) (fun ρ A H x z A' v Q rl rx ev k => by
    cases x with
    | ref n =>
      obtain ⟨l, A1, e1, ev1⟩ := bnd_inv ev
      obtain ⟨rfl, a, xs, rfl, hq, r⟩ := lst_read rl rx e1
      obtain ⟨m, A2, e2, ev2⟩ := bnd_inv ev1
      obtain ⟨h64, e3⟩ := guard_inv e2
      rcases hi : intsOf l with _ | ns
      · rcases ht : tupsOf l with _ | ts
        · rw [hi, ht] at e3; cases e3
        · rw [hi, ht] at e3
          cases e3
          cases ev2
          obtain ⟨rfl, hne⟩ := tupsOf_inv ht
          have hl : xs.length = ts.length := by rw [← r.length]; simp
          refine .inr ⟨a, xs, ts, rfl, hq, tupV_of r hne, by rw [← r.length]; exact h64, fun D p hp hD => ?_⟩
          rw [hl] at hp
          have es : (p.map fun i => ts.getD i []) = sortBy lexLt ts := sort_uniq (lt := lexLt) lex_tot ((pick_perm ts [] hp.1).trans (sortBy_perm _ _).symm) hp.2 (lex_sorted ts)
          have hlt : ∀ i ∈ p, i < ts.length := fun i hi => by simpa using hp.1.mem_iff.mp hi
          have ep : (sortBy lexLt ts).map (fun t => PV.tup (t.map .int)) = p.map fun i => (ts.map fun t => PV.tup (t.map .int)).getD i .non := by
            rw [← es, List.map_map]
            refine List.map_congr_left fun i hi => ?_
            have := hlt i hi
            simp [this]
          have ex : Ext ρ H (ρ ++ [D]) (L2.upd H D (.lst (p.map fun i => xs.getD i .non))) := Ext.new hD
          refine k (ρ ++ [D]) _ _ ex (rl.alloc hD ⟨_, L2.upd_same, ?_⟩ rfl) (.ref (by rw [← rl.len]; simp))
          rw [ep]
          exact (rvs_pick r p fun i hi => by rw [List.length_map]; exact hlt i hi).mono ex
      · rw [hi] at e3
        cases e3
        cases ev2
        have hl := intsOf_inv hi
        subst hl
        have hx := RVs.ints_inv r
        subst hx
        refine .inl ⟨a, ns, rfl, hq, by simpa using h64, fun D hD => ?_⟩
        have ex : Ext ρ H (ρ ++ [D]) (L2.upd H D (.lst ((sortBy ltI ns).map L2.V.int))) := Ext.new hD
        exact k (ρ ++ [D]) _ _ ex (rl.alloc hD ⟨_, L2.upd_same, RVs.ints _⟩ rfl) (.ref (by rw [← rl.len]; simp))
    | _ => cases ev) h
end
end Ws
namespace Ws
open PySem
theorem kit_all (K : PySem.W.Frag) : Kit K := ⟨fun a b ha hb => by
  simp only [List.mem_cons, List.not_mem_nil, or_false] at ha hb
  rcases ha with rfl | rfl | rfl | rfl | rfl | rfl <;> rcases hb with rfl | rfl | rfl | rfl <;> with_unfolding_all rfl⟩
noncomputable def NoRt (s : SD) : Prop := ∀ σ A v A', s σ A ≠ .ok (.rt v) A'
theorem nrt_seq {a b : SD} (ha : NoRt a) (hb : NoRt b) : NoRt (sSeq a b) := fun σ A v A' h => by
  obtain ⟨o, A1, e1, e2⟩ := bnd_inv h
  cases o with
  | nx σ1 => exact hb _ _ _ _ e2
  | rt u => exact ha _ _ _ _ e1
  | bk σ1 => cases e2
  | ct σ1 => cases e2
theorem nrt_if {t : TD} {a b : SD} (ha : NoRt a) (hb : NoRt b) : NoRt (sIf t a b) := fun σ A v A' h => by
  obtain ⟨c, A1, e1, e2⟩ := bnd_inv h
  cases c with
  | true => rw [if_pos rfl] at e2; exact ha _ _ _ _ e2
  | false => rw [if_neg (by simp)] at e2; exact hb _ _ _ _ e2
theorem nrt_pass : NoRt sPass := fun σ A v A' h => by cases h
theorem nrt_never : NoRt sNever := fun σ A v A' h => by cases h
theorem nrt_asg {e : ED} {g : GD} : NoRt (sAsg e g) := fun σ A v A' h => by
  obtain ⟨x, A1, e1, e2⟩ := bnd_inv h
  obtain ⟨y, A2, e3, e4⟩ := bnd_inv e2
  cases e4
theorem nrt_fld {a e : ED} {f : Nat} : NoRt (sFld a f e) := fun σ A v A' h => by
  obtain ⟨x, A1, e1, e2⟩ := bnd_inv h
  obtain ⟨y, A2, e3, e4⟩ := bnd_inv e2
  cases y with
  | ref n =>
    obtain ⟨o, A3, e5, e6⟩ := bnd_inv e4
    obtain ⟨_, e7⟩ := guard_inv e6
    cases e7
  | _ => cases e4
theorem non_of {n p : Nat} {s : SD} (hs : NoRt s) {vs : List PV} {A A' : PHp} {v : PV} (h : fn n p s vs A = .ok v A') : v = .non := by
  obtain ⟨_, h1⟩ := guard_inv h
  obtain ⟨o, A1, e1, e2⟩ := bnd_inv h1
  cases o with
  | nx σ1 => cases e2; rfl
  | rt u => exact absurd e1 (hs _ _ _ _)
  | bk σ1 => cases e2
  | ct σ1 => cases e2
noncomputable def SpLaw (K : PySem.W.Frag) : L2.Sp := fun vs H Q _ => ∃ (a : Addr) (ns : List Int), vs = [.ref a] ∧ L2.SqL K H a (ns.map L2.V.int) ∧ ns.length ≤ 63 ∧ L2.Only H ∧ ∀ H', Q (.bl true) H'
theorem law_sp {K : PySem.W.Frag} {cm : Nat → Addr} {f : Fun} (h : ∀ ns : List Int, ∃ A', f [.ref 0] [.ro (ns.map .int)] = .ok (.bl true) A') (vs : List L2.V) (H : L2.Hp) (Q : L2.VK) (E : L2.XK) (q : SpLaw K vs H Q E) : SpF K cm f 1 vs H Q E := by
  obtain ⟨a, ns, rfl, hS, _, hO, k⟩ := q
  obtain ⟨A', e⟩ := h ns
  have fz : Fz K H a (ns.map L2.V.int) := by
    rcases hS with (hS | hS) | hS
    · rcases hO a with z | ⟨o, xs, z⟩ <;> (rw [hS] at z; cases z)
    · exact .inl hS
    · exact .inr hS
  refine ⟨[a], [.ro (ns.map .int)], [.ref 0], .bl true, A', ⟨rfl, fun n o b h1 h2 => ?_, fun m n b o p h1 h2 h3 h4 m1 m2 => ?_⟩, .cons (.ref rfl) .nil, rfl, e, fun ρ' H' v' _ _ rv => by cases rv; exact k H'⟩
  · cases n with
    | zero => simp at h1 h2; subst h1; subst h2; exact ⟨_, fz, RVs.ints ns⟩
    | succ n => simp at h1
  · cases m with
    | zero => cases n with
      | zero => rfl
      | succ n => simp at h4
    | succ m => simp at h3
theorem law_walk {l : PySem.W.OpenLaw} {q : Program} {loose : List Str} {XP : (Str → Option Value) → Heap → Prop} {YP : World → Heap → Prop} {d : DefRec} {K : Params → PySem.W.Frag} {k : Nat} {x : Str} (hn : l.most = some 63) (hdf : d.params.defaults = []) (hr : L2.Room k PySem.callerA)
    (hY : ∀ (w : World) (h : Heap), YP w h → (K w.params).In h)
    (F : ∀ (w : World) (mg : Str → Option Value) (fa : Addr) (h : Heap), (K w.params).In h → h.Ns mainGlobals mg → mg d.name = some (.ref fa) →
      ∃ fd : FuncData, (∀ (s : Shared) (u : Value), BindsTo s fd ⟨[u], []⟩ [(x, u)]) ∧ ∀ base : Heap, (K w.params).In base → base.Ns mainGlobals mg → L2.FnOk l.prog w (K w.params) mg base L2.CX0 k fa fd [x] (SpLaw (K w.params))) :
    PySem.W.WalkO q loose XP YP l.row.toRowW d [] (fun f vs => PySem.call f vs) :=
  L2.walk_of (n := 63) (k := k) (x := x) (CX := fun _ => L2.CX0) (sp := fun w => SpLaw (K w.params)) hn (by decide) hdf hr hY F (fun _ H a ns hl hO hS => ⟨a, ns, rfl, hS, hl, hO, fun _ => rfl⟩) fun _ _ _ _ _ z => z
end Ws
open PySem PySem.Spec PyProof.Rows
namespace Ws
section
variable {X : L2.Cx} {cm : Nat → Addr}
theorem RVs.dropLast {ρ : List Addr} {H : L2.Hp} {l : List PV} {vs : List L2.V} (r : RVs ρ H l vs) : RVs ρ H l.dropLast vs.dropLast := by
  rw [List.dropLast_eq_take, List.dropLast_eq_take, r.length]
  exact r.take _
theorem r_pop {o : Expr} {d : ED} {apos cpos : Pos} (ho : L2.PE X o (EvE X.K cm d)) (hb : attributeBase o "pop" X.env (eval o X.env) = eval o X.env := by rfl)
    (hline : (apos.endLine == cpos.line) = true := by rfl) : L2.PE X (.Call (.Attribute o "pop" apos) [] [] cpos) (EvE X.K cm (ePop d)) :=
  PE_imp (L2.pe_bm0 PySem.F.plainAttrs_list PySem.F.slot_list_pop PySem.F.type_list_pop L2.mt_pop ho (hbase := hb) (hline := hline)) fun σ H Q ⟨ρ, A, σp, v, A', rl, rs, ev, k⟩ => by
    obtain ⟨x, A1, e1, ev1⟩ := bnd_inv ev
    refine ⟨ρ, A, σp, x, A1, rl, rs, e1, fun ρ1 H1 v1 x1 rl1 rv1 => ?_⟩
    cases x with
    | ref n =>
      obtain ⟨l0, A2, e2, ev2⟩ := bnd_inv ev1
      obtain ⟨rfl, hA, a, xs, rfl, hn, hH, r0⟩ := mut_read rl1 rv1 e2
      refine ⟨.inl ⟨rfl, xs, L2.SqL.of hH⟩, ?_⟩
      cases hy : l0[l0.length - 1]? with
      | none => rw [hy] at ev2; cases ev2
      | some y =>
        rw [hy] at ev2
        cases ev2
        obtain ⟨z, hz, rz⟩ := r0.get hy
        refine ⟨a, xs, z, rfl, rfl, hH, by rw [← r0.length]; exact hz, ?_⟩
        have ex : Ext ρ1 H1 ρ1 (L2.upd H1 a (.lst xs.dropLast)) := Ext.put rl1 hn hA rfl
        exact k ρ1 _ _ (x1.trans ex) (rl1.put hn hA rfl rfl ⟨_, L2.upd_same, (r0.mono ex).dropLast⟩) (rz.mono ex)
    | _ => cases ev1
end
end Ws
namespace Ws
open PySem
structure MDefN (P : Program) (w : World) (K : PySem.W.Frag) (mg : Str → Option Value) (base : Heap) (cm : Nat → Addr) (c : Nat) (m : Str) (k : Nat) (ps : List Str) (f : Fun) (n : Nat) : Prop where
  ex : ∃ (fa : Addr) (fd : FuncData), L2.FnOk P w K mg base L2.CX0 k fa fd ps (SpF K cm f n) ∧ L2.Meth K (cm c) m fa ∧ L2.Binds K fd ps [.none]
  len : ∀ vs A v A', f vs A = .ok v A' → vs.length = n
section
variable {X : L2.Cx} {cm : Nat → Addr}
theorem ev_methN {c : Nat} {f : Fun} {n : Nat} {m : Str} {d : ED} {ds : AD} (hn : ∀ vs A v A', f vs A = .ok v A' → vs.length = n) (hnm : ∀ i, i < 19 → fnm i ≠ m) {σ : L2.St} {H : L2.Hp} {Q : L2.VK} (h : EvE X.K cm (eMeth c (dflt f [.non]) d ds) σ H Q) :
    L2.tMeth (cm c) m (SpF X.K cm f n) [.non] L2.E0 (EvE X.K cm d) (EvA X.K cm ds) σ H Q := by
  obtain ⟨ρ, A, σp, v, A', rl, rs, ev, k⟩ := h
  obtain ⟨x, A1, e1, ev1⟩ := bnd_inv ev
  refine ⟨ρ, A, σp, x, A1, rl, rs, e1, fun ρ1 H1 v1 x1 rl1 rv1 => ?_⟩
  cases x with
  | ref j =>
    obtain ⟨o, A2, e2, ev2⟩ := bnd_inv ev1
    obtain ⟨rfl, hA, a, dx, kv, rfl, hn', hH, hp, hs'⟩ := ins_read rl1 rv1 e2
    obtain ⟨c, ev3⟩ := guard_inv ev2
    subst c
    obtain ⟨xs, A3, e3, ev4⟩ := bnd_inv ev3
    refine ⟨a, dx, kv, rfl, hH, ?_, ρ1, _, σp, xs, A3, rl1, rs.mono x1, e3, fun ρ2 H2 vs2 x2 rl2 rv2 => ?_⟩
    · have key : ∀ (l : List (Str × L2.V)), (∀ z ∈ l.map (·.1), z ≠ m) → l.lookup m = none := fun l => by
        induction l with
        | nil => intro _; rfl
        | cons p q ih =>
          intro hz
          rw [List.lookup_cons, beq_eq_false_iff_ne.mpr (fun z => hz p.1 (by simp) z.symm)]
          exact ih fun z hz' => hz z (by simp at hz' ⊢; exact .inr hz')
      refine key kv fun z hz => ?_
      rw [hp.keys] at hz
      obtain ⟨q, hq, rfl⟩ := List.mem_map.mp hz
      exact hnm _ (hs' q hq)
    · have ev5 : f (.ref j :: (xs ++ [.non])) A3 = .ok v A' := ev4
      exact ⟨ρ2, A3, .ref j :: (xs ++ [.non]), v, A', rl2, .cons (rv1.mono x2) (rv2.append (.cons .non .nil)), hn _ _ _ _ ev5, ev5, fun ρ3 H3 v3 x3 rl3 rv3 => k ρ3 H3 v3 ((x1.trans x2).trans x3) rl3 rv3⟩
  | _ => cases ev1
theorem r_methN {c : Nat} {f : Fun} {n k k' : Nat} {ps : List Str} {m : Str} {o e : Expr} {es : List Expr} {d : ED} {ds : AD} {apos pos : Pos} {pl : Sem Bool} (D : MDefN X.prog X.w X.K X.mg X.base cm c m k ps f n) (hk : k ≤ k') (hr : L2.Room k' X.A) (hc : L2.Cls X.K (cm c)) (ho : L2.PE X o (EvE X.K cm d)) (ha : L2.PA X (e :: es) (EvA X.K cm ds)) (hnm : ∀ i, i < 19 → fnm i ≠ m)
    (hst : starEach (e :: es) X.env = (false, eval e X.env) :: starEach es X.env := by rfl) (hpl : (backTo pos (starEach es X.env)).any (·.1) = false := by rfl)
    (ht : eval (.Call (.Attribute o m apos) (e :: es) [] pos) X.env = (do
      let ov ← eval o X.env
      standAt apos.atName
      let (f, first) ← holding [ov] (getMethod ov m pl)
      callWith pos f first (backTo pos (starEach (e :: es) X.env)) (backToKw pos (keywordEach [] X.env))) := by rfl) :
    L2.PE X (.Call (.Attribute o m apos) (e :: es) [] pos) (EvE X.K cm (eMeth c (dflt f [.non]) d ds)) := by
  obtain ⟨fa, fd, F, hm, hb⟩ := D.ex
  exact PE_imp (L2.pe_meth (pl := pl) ho hc hm F (hr.mono hk) hb (dvs := [.non]) (.cons (show L2.RelV .non Value.none from rfl) .nil) L2.pass0 ha hst hpl ht) fun σ H Q h => ev_methN D.len hnm h
end
end Ws
namespace Ws
open PySem
section
variable {ρ : List Addr} {H : L2.Hp} {K : PySem.W.Frag} {A : PHp} {n : Nat} {v : L2.V}
theorem Pairs.cons_inv {κ κ' : Type} {f : κ → κ'} {p : κ × PV} {r : List (κ × PV)} {kv : List (κ' × L2.V)} (h : Pairs f ρ H (p :: r) kv) : ∃ u kv', kv = (f p.1, u) :: kv' ∧ RV ρ H p.2 u ∧ Pairs f ρ H r kv' := by
  obtain ⟨k, v⟩ := h
  cases kv with
  | nil => cases k
  | cons q t =>
    obtain ⟨g, u⟩ := q
    simp only [List.map_cons, List.cons.injEq] at k
    cases v with
    | cons hv hr => exact ⟨u, t, by rw [← k.1], hv, k.2, hr⟩
theorem Pairs.nil_inv {κ κ' : Type} {f : κ → κ'} {kv : List (κ' × L2.V)} (h : Pairs f ρ H [] kv) : kv = [] := by
  obtain ⟨k, v⟩ := h
  cases kv with
  | nil => rfl
  | cons q t => cases k
theorem Pairs.cons' {κ κ' : Type} {f : κ → κ'} {p : κ × PV} {u : L2.V} {r : List (κ × PV)} {kv : List (κ' × L2.V)} (h : RV ρ H p.2 u) (t : Pairs f ρ H r kv) : Pairs f ρ H (p :: r) ((f p.1, u) :: kv) :=
  ⟨by rw [List.map_cons, List.map_cons, t.keys], .cons h t.vals⟩
noncomputable abbrev PI (ρ : List Addr) (H : L2.Hp) (m : List (Int × PV)) (kv : List (L2.Key × L2.V)) : Prop := Pairs (Sum.inl : Int → L2.Key) ρ H m kv
theorem PI.len {m : List (Int × PV)} {kv : List (L2.Key × L2.V)} (h : PI ρ H m kv) : m.length = kv.length := by
  have := congrArg List.length h.keys
  simpa using this.symm
theorem PI.val : ∀ {m : List (Int × PV)} {kv : List (L2.Key × L2.V)} (i : Int), PI ρ H m kv → (valI m i = none ∧ L2.valV kv (.inl i) = none) ∨ ∃ x u, valI m i = some x ∧ L2.valV kv (.inl i) = some u ∧ RV ρ H x u
  | [], kv, i, h => by obtain rfl := h.nil_inv; exact .inl ⟨rfl, rfl⟩
  | p :: r, kv, i, h => by
    obtain ⟨u, kv', rfl, hu, t⟩ := h.cons_inv
    unfold valI
    by_cases e : p.1 = i
    · rw [if_pos e, L2.valV_pos (by rw [e])]
      exact .inr ⟨_, _, rfl, rfl, hu⟩
    · rw [if_neg e, L2.valV_neg (fun z => e (Sum.inl.inj z))]
      exact PI.val i t
theorem PI.some_eq {m : List (Int × PV)} {kv : List (L2.Key × L2.V)} (i : Int) (h : PI ρ H m kv) : (L2.valV kv (.inl i)).isSome = (valI m i).isSome := by
  rcases PI.val i h with ⟨a, b⟩ | ⟨x, u, a, b, _⟩ <;> rw [a, b] <;> rfl
theorem any_val (i : Int) : ∀ m : List (Int × PV), (m.any fun p => decide (p.1 = i)) = (valI m i).isSome
  | [] => rfl
  | p :: r => by
    unfold valI
    rw [List.any_cons]
    by_cases e : p.1 = i
    · rw [if_pos e, decide_eq_true e]; rfl
    · rw [if_neg e, decide_eq_false e, Bool.false_or]; exact any_val i r
theorem PI.repl {x : PV} {u : L2.V} (ru : RV ρ H x u) (i : Int) : ∀ {m : List (Int × PV)} {kv : List (L2.Key × L2.V)}, PI ρ H m kv → PI ρ H (m.map fun p => if p.1 = i then (p.1, x) else p) (kv.map fun p => if p.1 = (.inl i) then (p.1, u) else p)
  | [], kv, h => by obtain rfl := h.nil_inv; exact ⟨rfl, .nil⟩
  | p :: r, kv, h => by
    obtain ⟨w, kv', rfl, hw, t⟩ := h.cons_inv
    have ih := PI.repl ru i t
    rw [List.map_cons, List.map_cons]
    by_cases e : p.1 = i
    · rw [if_pos e, if_pos (by rw [e])]; exact Pairs.cons' (p := (p.1, x)) ru ih
    · rw [if_neg e, if_neg (fun z => e (Sum.inl.inj z))]; exact Pairs.cons' hw ih
theorem PI.snoc {x : PV} {u : L2.V} (ru : RV ρ H x u) (i : Int) : ∀ {m : List (Int × PV)} {kv : List (L2.Key × L2.V)}, PI ρ H m kv → PI ρ H (m ++ [(i, x)]) (kv ++ [(.inl i, u)])
  | [], kv, h => by obtain rfl := h.nil_inv; exact Pairs.cons' (p := (i, x)) ru ⟨rfl, .nil⟩
  | p :: r, kv, h => by
    obtain ⟨w, kv', rfl, hw, t⟩ := h.cons_inv
    exact Pairs.cons' hw (PI.snoc ru i t)
theorem PI.put {x : PV} {u : L2.V} (ru : RV ρ H x u) (i : Int) {m : List (Int × PV)} {kv : List (L2.Key × L2.V)} (h : PI ρ H m kv) : PI ρ H (putI m i x) (L2.putK kv (.inl i) u) := by
  unfold putI L2.putK
  have e : (kv.any fun p => decide (p.1 = (.inl i))) = (m.any fun p => decide (p.1 = i)) := by
    rw [any_val, L2.valV_any]; exact h.some_eq i
  rw [e]
  by_cases a : (m.any fun p => decide (p.1 = i)) = true
  · rw [if_pos a, if_pos a]; exact h.repl ru i
  · rw [if_neg a, if_neg a]; exact h.snoc ru i
theorem dct_read {cm : Nat → Addr} {m : List (Int × PV)} {A' : PHp} (rl : Rel K cm ρ A H) (r : RV ρ H (.ref n) v) (h : dctAt n A = .ok m A') : A' = A ∧ A[n]? = some (.dI m) ∧ ∃ a kv, v = .ref a ∧ ρ[n]? = some a ∧ H a = some (.dK kv) ∧ PI ρ H m kv := by
  cases r with
  | ref hn =>
    unfold dctAt at h
    rcases hA : A[n]? with _ | o
    · rw [hA] at h; cases h
    · have q := rl.obj n o _ hA hn
      cases o with
      | dI m => rw [hA] at h; cases h; obtain ⟨xs, h1, h2⟩ := q; exact ⟨rfl, rfl, _, xs, rfl, hn, h1, h2⟩
      | _ => rw [hA] at h; cases h
end
section
variable {X : L2.Cx} {cm : Nat → Addr}
theorem int_inv {ρ : List Addr} {H : L2.Hp} {i : Int} {v : L2.V} (r : RV ρ H (.int i) v) : v = L2.kV (.inl i) := by cases r; rfl
theorem ev_dnotin {y d : ED} {σ : L2.St} {H : L2.Hp} {Q : L2.VK} (h : EvE X.K cm (eDNotIn y d) σ H Q) : L2.tDNotIn (EvE X.K cm y) (EvE X.K cm d) σ H Q :=
  by
    obtain ⟨ρ, A, σp, v, A', rl, rs, ev, k⟩ := h
    obtain ⟨kx, A1, e1, ev1⟩ := bnd_inv ev
    obtain ⟨x, A2, e2, ev2⟩ := bnd_inv ev1
    refine ⟨ρ, A, σp, kx, A1, rl, rs, e1, fun ρ1 H1 v1 x1 rl1 rv1 => ⟨ρ1, A1, σp, x, A2, rl1, rs.mono x1, e2, fun ρ2 H2 v2 x2 rl2 rv2 => ?_⟩⟩
    cases kx with
    | int j =>
      cases x with
      | ref n =>
        obtain ⟨m, A3, e3, ev3⟩ := bnd_inv ev2
        obtain ⟨rfl, hA, a, kv, rfl, hn, hH, hp⟩ := dct_read rl2 rv2 e3
        cases ev3
        rw [int_inv rv1]
        refine ⟨a, _, rfl, L2.DGet.k hH, ?_⟩
        rw [hp.some_eq j]
        exact k ρ2 H2 _ (x1.trans x2) rl2 (.bl _)
      | _ => cases ev2
    | _ => cases ev2
theorem r_tdnotin {i o : Expr} {y d : ED} {pos : Pos} (hu : X.A.units + 1 < cLine) (hi : L2.PE X i (EvE X.K cm y)) (ho : L2.PE X o (EvE X.K cm d)) (h1 : behindInMarks .NotIn o = false := by rfl) : L2.PT X (.Compare i [.NotIn] [o] pos) (EvT X.K cm (tVal (eDNotIn y d))) :=
  PT_imp (L2.pt_cmp (L2.pc_dnotin hu hi ho) h1) fun σ H Q h => ev_tval (fun _ _ _ => ev_dnotin (X := X)) h
theorem s_dput {o i value : Expr} {d y e : ED} {pos pos' : Pos} (hu : X.A.units + 1 < cLine) (ho : L2.PE X o (EvE X.K cm d)) (hi : L2.PE X i (EvE X.K cm y)) (hv : L2.PE X value (EvE X.K cm e)) (hs : swapsWith value (some (.Subscript o i pos')) pos.line X.env = pure false := by rfl) :
    L2.PS X (.Assign [.Subscript o i pos'] value pos) (EvS X.K cm (sDPut d y e)) :=
  PS_imp (L2.ps_dput hu ho hi hv hs) fun D σ H ⟨ρ, A, σp, f, A', rl, rs, ev, k⟩ => by
    obtain ⟨w, A1, e1, ev1⟩ := bnd_inv ev
    obtain ⟨x, A2, e2, ev2⟩ := bnd_inv ev1
    obtain ⟨kx, A3, e3, ev3⟩ := bnd_inv ev2
    refine ⟨ρ, A, σp, w, A1, rl, rs, e1, fun ρ1 H1 v1 x1 rl1 rv1 => ⟨ρ1, A1, σp, x, A2, rl1, rs.mono x1, e2, fun ρ2 H2 v2 x2 rl2 rv2 => ⟨ρ2, A2, σp, kx, A3, rl2, (rs.mono x1).mono x2, e3, fun ρ3 H3 v3 x3 rl3 rv3 => ?_⟩⟩⟩
    cases x with
    | ref n =>
      cases kx with
      | int j =>
        obtain ⟨m, A4, e4, ev4⟩ := bnd_inv ev3
        obtain ⟨rfl, hA, a, kv, rfl, hn, hH, hp⟩ := dct_read rl3 (rv2.mono x3) e4
        obtain ⟨c, ev5⟩ := guard_inv ev4
        cases ev5
        rw [int_inv rv3]
        refine ⟨a, _, rfl, L2.DPut.k hH (by rw [← hp.len]; exact LIM_lt c), ?_⟩
        have ex : Ext ρ3 H3 ρ3 (L2.upd H3 a (.dK (L2.putK kv (.inl j) v1))) := Ext.put rl3 hn hA rfl
        have rl4 : Rel X.K cm ρ3 (A4.set n (.dI (putI m j w))) (L2.upd H3 a (.dK (L2.putK kv (.inl j) v1))) :=
          rl3.put hn hA rfl rfl ⟨_, L2.upd_same, PI.put ((((rv1.mono x2).mono x3)).mono ex) j (hp.mono ex)⟩
        exact k ρ3 _ (((x1.trans x2).trans x3).trans ex) rl4 σ ((((rs.mono x1).mono x2).mono x3).mono ex)
      | _ => cases ev3
    | _ => cases ev3
end
end Ws
namespace Ws
open PySem
section
variable {X : L2.Cx} {cm : Nat → Addr}
theorem r_disp1 {i e : Expr} {y d : ED} {pos : Pos} (hi : L2.PE X i (EvE X.K cm y)) (he : L2.PE X e (EvE X.K cm d)) : L2.PE X (.Dict [some i] [e] pos) (EvE X.K cm (eDisp1 y d)) :=
  PE_imp (L2.pe_disp (L2.pps_cons hi he L2.pps_nil) rfl rfl (by simp) (by simp)) fun σ H Q ⟨ρ, A, σp, v, A', rl, rs, ev, k⟩ p hp => by
    obtain ⟨x, A1, e1, ev1⟩ := bnd_inv ev
    cases e1
    obtain ⟨kx, A2, e2, ev2⟩ := bnd_inv ev1
    obtain ⟨w, A3, e3, ev3⟩ := bnd_inv ev2
    have x0 : Ext ρ H (ρ ++ [p]) (L2.upd H p (.dK [])) := Ext.new hp
    have rl0 : Rel X.K cm (ρ ++ [p]) (A ++ [.dI []]) (L2.upd H p (.dK [])) := rl.alloc hp ⟨_, L2.upd_same, ⟨rfl, .nil⟩⟩ rfl
    have hl : (ρ ++ [p])[A.length]? = some p := by rw [← rl.len]; simp
    refine ⟨ρ ++ [p], _, σp, kx, A2, rl0, rs.mono x0, e2, fun ρ1 H1 v1 x1 rl1 rv1 => ⟨ρ1, A2, σp, w, A3, rl1, (rs.mono x0).mono x1, e3, fun ρ2 H2 v2 x2 rl2 rv2 => ?_⟩⟩
    have rp : RV ρ2 H2 (.ref A.length) (.ref p) := ((RV.ref hl).mono x1).mono x2
    cases kx with
    | int j =>
      obtain ⟨m, A4, e4, ev4⟩ := bnd_inv ev3
      obtain ⟨rfl, hA, a, kv, ea, hn, hH, hpp⟩ := dct_read rl2 rp e4
      cases ea
      cases m with
      | nil =>
        cases ev4
        obtain rfl := hpp.nil_inv
        refine ⟨hH, [(.inl j, v2)], by rw [int_inv rv1]; rfl, by simp, ?_⟩
        have ex : Ext ρ2 H2 ρ2 (L2.upd H2 p (.dK (L2.mergeK [] [(.inl j, v2)]))) := Ext.put rl2 hn hA rfl
        exact k ρ2 _ _ (((x0.trans x1).trans x2).trans ex) (rl2.put hn hA rfl rfl ⟨_, L2.upd_same, Pairs.cons' (p := (j, w)) (rv2.mono ex) ⟨rfl, .nil⟩⟩) (rp.mono ex)
      | cons _ _ => cases ev4
    | _ => cases ev3
end
end Ws
namespace Ws
open PySem PySem.W PyProof.Rows
section
variable {X : L2.Cx} {cm : Nat → Addr}
theorem vals_of_at : ∀ {ns : List Int} {us : List Value}, us.length = ns.length → (∀ (j : Nat) (u : Value), us[j]? = some u → ∃ i t, ns[j]? = some i ∧ u = Value.int i t) → L2.Vals (ns.map L2.V.int) us
  | [], [], _, _ => .nil
  | i :: ns, u :: us, hl, h => by
    obtain ⟨j, t, e1, e2⟩ := h 0 u rfl
    cases e1
    exact .cons ⟨t, e2⟩ (vals_of_at (by simpa using hl) fun j v hv => h (j + 1) v hv)
  | [], _ :: _, hl, _ => by cases hl
  | _ :: _, [], hl, _ => by cases hl
noncomputable def rSortD : List L2.V → L2.Hp → L2.VK → Prop := fun vs H Q => ∃ a kvs ns, vs = [.ref a] ∧ H a = some (.dK kvs) ∧ kvs.map (·.1) = ns.map (Sum.inl : Int → L2.Key) ∧ ns.length < 64 ∧ ∀ l, H l = none → Q (.ref l) (L2.upd H l (.lst ((sortBy ltI ns).map L2.V.int)))
theorem call_sortD (hcalm : X.calm = true) : L2.CallR X (.builtin "sorted") rSortD := by
  intro pins s σ H xs us Q I r h
  obtain ⟨a, kvs, ns, rfl, hH, hkeys, h64, q⟩ := h
  obtain ⟨u, rfl, rx⟩ := L2.vals1 r
  cases rx
  obtain ⟨z, hd, vs, rel, dd⟩ := L2.dk_of I.hok hH
  obtain ⟨ep, hat⟩ := dd.dictAt
  have hn : vs.length = ns.length := by
    rw [← rel.length]
    have := congrArg List.length hkeys
    simpa using this
  refine Calls.call_function_entry kind_sorted plain_sorted entry_sorted (args_sorted1 _) ?_
  unfold Builtin.«sorted»
  refine wpAny_bind (m := checkCount "sorted" 1 1 _) (wpAny_pure ?_)
  refine wpAny_bind (kdu_collect (A := _) (kdl_dict (knd := L2.mixKind X.prog X.w) (kvs := vs) (ep := ep) hd) (I.ok.hd hcalm) hat (by rw [hn, sizeLine_eq]; omega) fun h' tk acc hk hacc => ?_)
  have hI : IntsAre acc.toList ns := by
    refine L2.intsAre_of (vals_of_at (by rw [Array.length_toList, hacc.1, hn]) fun j v hv => ?_)
    obtain ⟨k, x, hx, hi⟩ := hacc.2 j v (by rw [← Array.getElem?_toList]; exact hv)
    have hkk : (kvs.map (·.1))[j]? = some k := by
      rw [rel.keys, List.getElem?_map, hx]; rfl
    rw [hkeys, List.getElem?_map] at hkk
    rcases e : ns[j]? with _ | i
    · rw [e] at hkk; cases hkk
    · rw [e] at hkk
      cases hkk
      have hi' : L2.keyIs (.inl i) v = true := hi
      rcases L2.keyIs_shape hi' with ⟨j', t, e1, e2⟩ | ⟨y, t, e1, e2⟩
      · cases e1; exact ⟨i, t, rfl, e2⟩
      · cases e1
  have hal : acc.toList.length = ns.length := hI.length
  refine wpAny_bind (wpAny_newList ?_ (by rw [hal, sizeLine_eq]; omega))
  have hoL : (h'.push (seqObj "list" acc.toList.toArray 0)).get? h'.objs.size = some (seqObj "list" acc.toList.toArray 0) := Heap.get?_push_size _ rfl
  refine wpAny_bind (wpAny_holding (wpAny_call_entry slot_list_sort ⟨_, hoL, rfl⟩ entry_list_sort (list_sort_tree hoL hI (by omega) fun out ns' h1 h2 h3 => ⟨_, rfl, ?_⟩) (args_list_sort _)))
  refine wpAny_pure ⟨_, rfl, ?_⟩
  have e : ns' = sortBy ltI ns := rise_uniq (h2.trans (sortBy_perm _ _).symm) h3 (sortI_sorted ns)
  subst e
  obtain ⟨c, hc⟩ := sortedHeap_at (out := out) hoL
  have hlen : (sortBy ltI ns).length = ns.length := (sortBy_perm _ _).length_eq
  have I1 := I.kept (t' := tk) hk
  refine ⟨.ref h'.objs.size, _, I1.laid (t' := tk) (a := h'.objs.size) (o := .lst ((sortBy ltI ns).map L2.V.int)) (fun b o e2 => ?_) (Nat.le_refl _) ?_, rfl, q _ (I1.hok.fresh (Nat.le_refl _))⟩
  · have hlt := Heap.lt_size e2
    rw [sortedHeap_old (Nat.ne_of_lt hlt) (by rw [size_push']; exact Nat.lt_succ_of_lt hlt)]
    exact Heap.get?_push_of_some _ e2
  · refine ⟨by rw [List.length_map, hlen, sizeLine_eq]; omega, out.toList, c, L2.vals_ints h1, ?_⟩
    rw [Array.toArray_toList]; exact hc
theorem r_sortedD {e : Expr} {d : ED} {p pos : Pos} (hcalm : X.calm = true) (he : L2.PE X e (EvE X.K cm d)) (hg : L2.Gl X "sorted") (hm : X.mg "sorted" = none) (hs : starEach [e] X.env = (false, eval e X.env) :: starEach [] X.env := by rfl) : L2.PE X (.Call (.Name "sorted" p) [e] [] pos) (EvE X.K cm (eSortedD d)) :=
  PE_imp (L2.pe_callB (call_sortD hcalm) hg hm PyProof.Rows.boot_sorted (r_cons he r_nil hs) (he := hs)) fun σ H Q h => ev_one (f := fun x => match x with | .ref n => bnd (dctAt n) fun m => guard (m.length < 64) (alloc (.lst ((sortBy ltI (m.map (·.1))).map PV.int))) | _ => stuck) (fun _ => rfl) (fun ρ A H x z A' v Q rl rx ev k => by
    cases x with
    | ref n =>
      obtain ⟨m, A1, e1, ev1⟩ := bnd_inv ev
      obtain ⟨rfl, hA, a, kv, rfl, hn, hH, hp⟩ := dct_read rl rx e1
      obtain ⟨h64, ev2⟩ := guard_inv ev1
      cases ev2
      refine ⟨a, kv, m.map (·.1), rfl, hH, by rw [hp.keys, List.map_map]; rfl, by simpa using h64, fun D hD => ?_⟩
      have ex : Ext ρ H (ρ ++ [D]) (L2.upd H D (.lst ((sortBy ltI (m.map (·.1))).map L2.V.int))) := Ext.new hD
      exact k (ρ ++ [D]) _ _ ex (rl.alloc hD ⟨_, L2.upd_same, RVs.ints _⟩ rfl) (.ref (by rw [← rl.len]; simp))
    | _ => cases ev) h
end
end Ws
namespace Ws
open PySem PySem.W PyProof.Rows
end Ws
namespace Ws
open PySem PySem.W PyProof.Rows
section
variable {X : L2.Cx} {cm : Nat → Addr}
theorem arg_one {M : Model} {A : Around} {E : Value → Shared → Prop} {s : Shared} {e : Expr} {env : Env} {pos : Pos} {Q : List Value → Shared → Prop} (hs : starEach [e] env = (false, eval e env) :: starEach [] env) (h : wpAny M A (eval e env) (fun u s1 => Q [u] s1) E s) : wpAny M A (spliced (backTo pos (starEach [e] env))) Q E s := by
  rw [hs]
  exact Calls.spliced_cons (L2.thn h fun u s1 q => Calls.spliced_nil q)
end
end Ws
namespace Ws
open PySem PySem.W PyProof.Rows
section
variable {X : L2.Cx} {cm : Nat → Addr}
end
structure FunD (K : PySem.W.Frag) (x qual : Str) (st : Stmt) (f : Addr) (fd : FuncData) (items : Array Value) : Prop where
  ex : ∃ (T : Addr) (oc : Value) (od : Option Addr) (kV doc pm : Value) (an : Option Addr) (cdv ct : Value) (osl : Array (Option Value)) (tc : Value) (td : Option Addr) (tn : Nat) (ts : Array (Option Value)),
    fd = PySem.W.fnOf x qual (L2.defArgs st) (L2.defBody st) (L2.defScope st) (.ref T) kV doc pm an cdv ct ∧ K.lookup f = some ⟨oc, od, .func fd, osl⟩ ∧ PySem.W.codeIn K cdv qual = true ∧ K.lookup T = some ⟨tc, td, .seq items tn, ts⟩
  kp : PySem.W.keepIn K (.ref f) = true
section
variable {P : Program} {w : World} {K : PySem.W.Frag} {mg : Str → Option Value} {base : Heap} {cm : Nat → Addr}
theorem FunD.binds {x qual : Str} {st : Stmt} {f : Addr} {fd : FuncData} {items : Array Value} {ps : List Str} {ds : List Value} (F : FunD K x qual st f fd items) (n : Nat) (hn : n + ds.length = ps.length)
    (h : ∀ (T : Addr) (kV doc pm : Value) (an : Option Addr) (cdv ct : Value) (us : List Value), us.length = n → ∃ k, bindArgs (PySem.W.fnOf x qual (L2.defArgs st) (L2.defBody st) (L2.defScope st) (.ref T) kV doc pm an cdv ct) ⟨us, []⟩ = (seqItems? (.ref T) >>= k) ∧ k (some items) = pure (ps.zip (us ++ ds))) : L2.Binds K fd ps ds := by
  obtain ⟨T, oc, od, kV, doc, pm, an, cdv, ct, osl, tc, td, tn, ts, rfl, lk, hcd, lt⟩ := F.ex
  intro s us X hl
  obtain ⟨k, h1, h2⟩ := h T kV doc pm an cdv ct us (by rw [List.length_append] at hl; omega)
  exact binds_K X rfl lt rfl h1 h2
theorem funD_mk {x qual : Str} {st : Stmt} {f T : Addr} {items : Array Value} {oc : Value} {od an : Option Addr} {osl : Array (Option Value)} {kV doc pm cdv ct : Value} {tc : Value} {td : Option Addr} {tn : Nat} {ts : Array (Option Value)}
    (l : K.lookup f = some ⟨oc, od, .func (PySem.W.fnOf x qual (L2.defArgs st) (L2.defBody st) (L2.defScope st) (.ref T) kV doc pm an cdv ct), osl⟩) (c : PySem.W.codeIn K cdv qual = true) (k : PySem.W.keepIn K (.ref f) = true) (lt : K.lookup T = some ⟨tc, td, .seq items tn, ts⟩) :
    FunD K x qual st f (PySem.W.fnOf x qual (L2.defArgs st) (L2.defBody st) (L2.defScope st) (.ref T) kV doc pm an cdv ct) items := ⟨⟨T, oc, od, kV, doc, pm, an, cdv, ct, osl, tc, td, tn, ts, rfl, l, c, lt⟩, k⟩
theorem fn_okD {x qual : Str} {st : Stmt} {f : Addr} {fd : FuncData} {items : Array Value} {N ps : List Str} {k : Nat} {s : SD} (F : FunD K x qual st f fd items) (S : L2.FnScope N ps (L2.defScope st))
    (hbody : ∀ (cdv : Value) (A : Around) (outer : List Env) (s0 : Shared) (H : L2.Hp) (E : L2.XK), L2.Room k (A.deeper (PyProof.Rows.envOfC qual (L2.defScope st) s0.heap.objs.size f cdv)) →
      L2.PSs (L2.cxOf L2.CX0 P w K mg base N qual (L2.defScope st) f cdv A outer s0 H E).nox (L2.defBody st) (EvS K cm s)) :
    L2.FnOk P w K mg base L2.CX0 (k + 1) f fd ps (SpF K cm (fn N.length ps.length s) ps.length) := by
  obtain ⟨T, oc, od, kV, doc, pm, an, cdv, ct, osl, tc, td, tn, ts, rfl, lk, hcd, lt⟩ := F.ex
  refine L2.fn_of lk hcd S (fun vs H Q E ⟨ρ, A, qs, v, A', rl, rv, hl, _, _⟩ => by rw [← rv.length]; exact hl) fun A outer s0 H vs Q E hr h => ⟨_, (hbody cdv A outer s0 H E hr).nox, ?_⟩
  obtain ⟨ρ, B, qs, v, B', rl, rv, hl, ev, k⟩ := h
  obtain ⟨_, ev1⟩ := guard_inv ev
  obtain ⟨o, B1, e1, ev2⟩ := bnd_inv ev1
  refine ⟨ρ, B, Ws.start N.length qs, o, B1, rl, RSt.start0 rv, e1, fun ρ1 H1 x1 rl1 => ?_⟩
  cases o with
  | nx σ1 => cases ev2; exact fun σ' _ => k ρ1 H1 _ x1 rl1 .non
  | rt u => cases ev2; exact fun v' rv' => k ρ1 H1 v' x1 rl1 rv'
  | bk σ1 => cases ev2
  | ct σ1 => cases ev2
end
end Ws
namespace Ws
open PySem PySem.W PyProof.Rows
section
variable {X : L2.Cx} {cm : Nat → Addr}
theorem bls_get : ∀ {bs : List Bool} {us : List Value}, L2.Vals (bs.map L2.V.bl) us → ∀ (i : Nat) (v : Value), us[i]? = some v → ∃ b, bs[i]? = some b ∧ v = .bool b
  | [], _, .nil, i, v, h => by simp at h
  | b :: bs, _, .cons r t, 0, v, h => by
    cases r
    simp at h; subst h
    exact ⟨b, rfl, rfl⟩
  | b :: bs, _, .cons r t, i + 1, v, h => bls_get t i v (by simpa using h)
theorem all_range (bs : List Bool) : ((List.range bs.length).all fun i => (bs[i]?).getD true) = bs.all id := by
  induction bs with
  | nil => rfl
  | cons b r ih =>
    rw [List.length_cons, List.range_succ_eq_map, List.all_cons, List.all_map, List.all_cons, ← ih]
    rfl
noncomputable def rAll (K : PySem.W.Frag) : List L2.V → L2.Hp → L2.VK → Prop := fun vs H Q => ∃ (a : Addr) (bs : List Bool), vs = [.ref a] ∧ L2.SqL K H a (bs.map L2.V.bl) ∧ Q (.bl (bs.all id)) H
theorem call_allB (hcalm : X.calm = true) : L2.CallR X (.builtin "all") (rAll X.K) := by
  intro pins s σ H xs us Q I r h
  obtain ⟨a, bs, rfl, hq, q⟩ := h
  obtain ⟨u, rfl, rx⟩ := L2.vals1 r
  cases rx
  obtain ⟨its, ri, pl, hz⟩ := I.list hq
  have hil := pl.isList
  have hal : a < s.heap.objs.size := by
    obtain ⟨_, e, _⟩ := hil
    exact Heap.lt_size e
  have hlen : its.length = bs.length := by
    have := ri.length
    simpa using this.symm
  refine call_all_walk (wpAny_pyIter_list hil ⟨s.heap.objs.size, [s.heap.objs.size, a], [s.heap.objs.size], its.toArray.size, _, _, fun i => (bs[i]?).getD true, rfl,
    Walks.list (A := X.A.in1) (I.ok.hd hcalm) _ a (Nat.ne_of_lt hal) its.toArray, ⟨⟨_, Heap.get?_push_size _ rfl, rfl, rfl⟩, hil.push _⟩, ?_, ?_⟩)
  · intro i v s2 Q2 E2 hP hQ2
    obtain ⟨b, e1, rfl⟩ := bls_get ri i v (by simpa using hP)
    have hQ3 : Q2 ((bs[i]?).getD true) s2 := hQ2
    rw [e1] at hQ3
    exact wpAny_truthy_bool hQ3
  · intro h2 tk hk
    have e1 : its.toArray.size = bs.length := by rw [List.size_toArray]; exact hlen
    rw [e1, all_range]
    exact ⟨.bl _, H, I.kept (t' := tk) (fun b o e => hk b o (fun hm => by rw [List.mem_singleton.mp hm] at e; exact absurd (Heap.lt_size e) (Nat.lt_irrefl _)) (Heap.get?_push_of_some _ e)), rfl, q⟩
theorem blsOf_inv : ∀ {l : List PV} {bs : List Bool}, blsOf l = some bs → l = bs.map .bl
  | [], bs, h => by simp [blsOf] at h; subst h; rfl
  | x :: r, bs, h => by
    cases x with
    | bl b =>
      simp only [blsOf, Option.map_eq_some_iff] at h
      obtain ⟨m, h1, rfl⟩ := h
      rw [blsOf_inv h1]; rfl
    | _ => simp [blsOf] at h
theorem rvs_bls : ∀ {ρ : List Addr} {H : L2.Hp} {bs : List Bool} {xs : List L2.V}, RVs ρ H (bs.map PV.bl) xs → xs = bs.map L2.V.bl
  | _, _, [], _, .nil => rfl
  | _, _, b :: bs, _, .cons h t => by cases h; rw [rvs_bls t]; rfl
theorem r_all {e : Expr} {d : ED} {p pos : Pos} (hcalm : X.calm = true) (he : L2.PE X e (EvE X.K cm d)) (hg : L2.Gl X "all") (hm : X.mg "all" = none) (hs : starEach [e] X.env = (false, eval e X.env) :: starEach [] X.env := by rfl) : L2.PE X (.Call (.Name "all" p) [e] [] pos) (EvE X.K cm (eAll d)) :=
  PE_imp (L2.pe_callB (call_allB hcalm) hg hm (by rfl) (r_cons he r_nil hs) (he := hs)) fun σ H Q h => ev_one (f := fun x => match x with | .ref n => bnd (lstAt n) fun l => (match blsOf l with | some bs => ret (.bl (bs.all id)) | none => stuck) | _ => stuck) (fun _ => rfl) (fun ρ A H x z A' v Q rl rx ev k => by
    cases x with
    | ref n =>
      obtain ⟨l, A1, e1, ev1⟩ := bnd_inv ev
      obtain ⟨rfl, a, xs, rfl, hq, hv⟩ := lst_read rl rx e1
      cases hb : blsOf l with
      | none => rw [hb] at ev1; cases ev1
      | some bs =>
        rw [hb] at ev1
        cases ev1
        rw [blsOf_inv hb] at hv
        exact ⟨a, bs, rfl, by rw [← rvs_bls hv]; exact hq, k ρ H _ (Ext.refl _ _) rl (.bl _)⟩
    | _ => cases ev) h
end
end Ws
namespace Ws
open PySem PySem.W PyProof.Rows
noncomputable def upto (val : Nat → Int) (j n : Nat) : List Int := (List.range (n - j)).map fun i => val (j + i)
theorem upto_end (val : Nat → Int) (n : Nat) : upto val n n = [] := by simp [upto]
theorem upto_step (val : Nat → Int) {j n : Nat} (h : j < n) : upto val j n = val j :: upto val (j + 1) n := by
  unfold upto
  rw [show n - j = (n - (j + 1)) + 1 by omega, List.range_succ_eq_map, List.map_cons, List.map_map]
  have e : ((fun i => val (j + i)) ∘ Nat.succ) = fun i => val (j + 1 + i) := by
    funext i
    show val (j + (i + 1)) = val (j + 1 + i)
    congr 1; omega
  rw [e, Nat.add_zero]
section
variable {prog : Program} {w : World} {A : Around} {R : Result → Shared → Prop} {I : Addr} {fp wr : List Addr} {n : Nat} {P : Nat → Value → Prop} {St : Nat → Heap → Prop} {kw : List (Str × Value)}
theorem mx_name : (toString "max" ++ toString ".loop" : String) = "max.loop" := by decide
theorem mx_loop (W : Walks prog w A.in1 I fp wr n P St) (val : Nat → Int) (hv : ∀ i v, P i v → ∃ t, v = .int (val i) t) (S : Addr) (hS : S ∉ fp) :
    ∀ (k j : Nat) (s : Shared) (m : Int) (t : Tok) (c : Nat), n - j = k → j ≤ n → St j s.heap →
    s.heap.get? S = some { cls := .type "list", dict := none, data := .seq #[.int m t, .int m t] c, slots := #[] } →
    (∀ t' h' tk, (∀ b o, b ∉ wr → b ≠ S → s.heap.get? b = some o → h'.get? b = some o) → R (.ok (.ret (.int (maxI m (upto val j n)) t'))) { s with heap := h', toks := tk }) →
    codeAny (model prog w) A (.builtin "max.loop" ⟨[.ref I, .none, .ref S], kw⟩) R s := by
  have hw : S ∉ wr := fun z => hS (W.sub _ z)
  intro k
  induction k with
  | zero =>
    intro j s m t c hk hj st gS done
    obtain rfl : j = n := by omega
    refine (codeAny_builtin F.entry_max_loop ?_)
    rw [Around.under_plainId F.plain_max_loop _]
    refine (wpAny_bind (m := seqItems? (.ref S)) (wpAny_seqItems gS rfl ?_))
    refine (wpAny_bind (wpAny_tryCatch (W.done s _ _ st fun h1 tk1 k1 => ?_)))
    have g1 := k1 S _ hw gS
    refine (wpAny_bind (m := updateSeq S (fun _ => #[])) (wpAny_updateSeq g1 rfl (wpAny_bind (wpAny_letGo (wpAny_pure ?_)))))
    have d := done t (h1.update S (Obj.mapSeq fun _ => #[])) tk1 fun b o hb hbS e => (Heap.get?_update_other _ _ (fun z => hbS z.symm)).trans (k1 b o hb e)
    rw [upto_end] at d
    exact d
  | succ k ih =>
    intro j s m t c hk hj st gS done
    have hlt : j < n := by omega
    refine (codeAny_builtin F.entry_max_loop ?_)
    rw [Around.under_plainId F.plain_max_loop _]
    refine (wpAny_bind (m := seqItems? (.ref S)) (wpAny_seqItems gS rfl ?_))
    refine (wpAny_bind (wpAny_tryCatch (W.item j s _ _ hlt st fun v h1 tk1 hP st1 k1 => ?_)))
    have g1 := k1 S _ hw gS
    obtain ⟨t1, rfl⟩ := hv j v hP
    refine (wpAny_bind (m := (tryCatch (holding [.int (val j) t1, .int (val j) t1] (richCompare .Gt (.int (val j) t1) (.int m t) >>= _)) _)) (wpAny_tryCatch (wpAny_holding (wpAny_bind ?_))))
    refine CmpOf.ints_gt (P := fun i v => i = 0 ∧ v = .int (val j) t1 ∨ i = 1 ∧ v = .int m t) (fun i => if i = 0 then val j else m) (fun i v h => ?_) 0 1 _ _ _ _ _ (.inl ⟨rfl, rfl⟩) (.inr ⟨rfl, rfl⟩) ?_
    · rcases h with ⟨rfl, rfl⟩ | ⟨rfl, rfl⟩
      · exact ⟨_, rfl⟩
      · exact ⟨_, rfl⟩
    · refine (wpAny_bind (wpAny_holding (wpAny_truthy_bool ?_)))
      refine (wpAny_bind (wpAny_letGo (wpAny_pure ?_)))
      have hnx : maxI m (upto val j n) = maxI (if m < val j then val j else m) (upto val (j + 1) n) := by rw [upto_step val hlt]; rfl
      show wpAny _ A.in1 (if decide (val j > m) = true then _ else _) _ _ _
      by_cases hb' : m < val j
      · rw [if_pos hb'] at hnx
        rw [if_pos (by simpa using hb')]
        apply wpAny_bind
        refine (wpAny_updateSeq g1 rfl (wpAny_bind (wpAny_letGo ?_)))
        rw [mx_name]
        refine (wpAny_pure ⟨plainId_quiet F.plain_max_loop _, ih (j + 1) _ (val j) t1 _ (by omega) hlt (W.frame _ _ _ st1 fun b hbf o e => ?_) (Heap.get?_update_self _ g1 rfl) fun t' h2 tk2 k2 => ?_⟩)
        · exact (Heap.get?_update_other _ _ (fun z : S = b => hS (by rw [z]; exact hbf))).trans e
        · have d := done t' h2 tk2 fun b o hbw hbS e => k2 b o hbw hbS ((Heap.get?_update_other _ _ (fun z => hbS z.symm)).trans (k1 b o hbw e))
          rw [hnx] at d
          exact d
      · rw [if_neg hb'] at hnx
        rw [if_neg (by simpa using hb')]
        apply wpAny_bind
        refine (wpAny_letGo ?_)
        rw [mx_name]
        refine (wpAny_pure ⟨plainId_quiet F.plain_max_loop _, ih (j + 1) _ m t c (by omega) hlt st1 g1 fun t' h2 tk2 k2 => ?_⟩)
        have d := done t' h2 tk2 fun b o hbw hbS e => k2 b o hbw hbS (k1 b o hbw e)
        rw [hnx] at d
        exact d
theorem mx_some {kw : List (Str × Value)} (W : Walks prog w A.in1 I fp wr n P St) (val : Nat → Int) (hv : ∀ i v, P i v → ∃ t, v = .int (val i) t) (S : Addr) (hS : S ∉ fp) {s : Shared} {c : Nat} (st : St 0 s.heap)
    (gS : s.heap.get? S = some { cls := .type "list", dict := none, data := .seq #[] c, slots := #[] }) (hn : 0 < n)
    (d1 : ∀ t' h' tk, (∀ b o, b ∉ wr → b ≠ S → s.heap.get? b = some o → h'.get? b = some o) → R (.ok (.ret (.int (maxI (val 0) (upto val 1 n)) t'))) { s with heap := h', toks := tk }) :
    codeAny (model prog w) A (.builtin "max.loop" ⟨[.ref I, .none, .ref S], kw⟩) R s := by
  have hw : S ∉ wr := fun z => hS (W.sub _ z)
  refine (codeAny_builtin F.entry_max_loop ?_)
  rw [Around.under_plainId F.plain_max_loop _]
  refine (wpAny_bind (m := seqItems? (.ref S)) (wpAny_seqItems gS rfl ?_))
  refine (wpAny_bind (wpAny_tryCatch (W.item 0 s _ _ (by omega) st fun v h1 tk1 hP st1 k1 => ?_)))
  have g1 := k1 S _ hw gS
  obtain ⟨t1, rfl⟩ := hv 0 v hP
  show wpAny _ A.in1 (updateSeq S (fun _ => #[.int (val 0) t1, .int (val 0) t1]) >>= _) _ _ _
  apply wpAny_bind
  refine (wpAny_updateSeq g1 rfl ?_)
  rw [mx_name]
  refine (wpAny_pure ⟨plainId_quiet F.plain_max_loop _, mx_loop W val hv S hS _ 1 _ (val 0) t1 _ rfl (by omega) (W.frame _ _ _ st1 fun b hbf o e => ?_) (Heap.get?_update_self _ g1 rfl) fun t' h2 tk2 k2 => ?_⟩)
  · exact (Heap.get?_update_other _ _ (fun z : S = b => hS (by rw [z]; exact hbf))).trans e
  · exact d1 t' h2 tk2 fun b o hbw hbS e => k2 b o hbw hbS ((Heap.get?_update_other _ _ (fun z => hbS z.symm)).trans (k1 b o hbw e))
end
section
variable {prog : Program} {w : World} {A : Around} {E : Value → Shared → Prop} {s : Shared} {Q : Value → Shared → Prop}
theorem fn_tree_kw {id : String} {b : Builtin} {args : List Value} {kw : List (Str × Value)} (hk : builtinKind id = none) (hp : plainId id = true) (hb : entryFor table id = some b) (ha : argsOk id ⟨args, kw⟩)
    (hc : wpAny (model prog w) A.in1 (b ⟨args, kw⟩) (fun fin s' => match fin with
      | .done f => (match (Except.ok f : Result) with | .ok (.ret v) => Q v s' | .ok _ => False | .error e => E e s')
      | .again c' => c'.quiet = true ∧ codeAny (model prog w) A c' (fun r s' => match r with | .ok (.ret v) => Q v s' | .ok _ => False | .error e => E e s') s') E s) : wpAny (model prog w) A (call (.builtin id) args kw) Q E s := by
  refine (wpAny_call (codeAny_call_builtin hp hb ?_))
  simp only [checkBuiltinCall, hk]
  cases z : Manifest.signature? id with
  | none => exact wpAny_pure hc
  | some sig =>
    simp only [argsOk, z] at ha
    show wpAny _ A.in1 (Bind.checkArgs id sig ⟨args, kw⟩) _ _ s
    rw [show Bind.checkArgs id sig ⟨args, kw⟩ = pure () from ha]; exact wpAny_pure hc
end
section
variable {X : L2.Cx} {cm : Nat → Addr}
theorem rvs_ints : ∀ {ρ : List Addr} {H : L2.Hp} {ns : List Int} {xs : List L2.V}, RVs ρ H (ns.map PV.int) xs → xs = ns.map L2.V.int
  | _, _, [], _, .nil => rfl
  | _, _, i :: ns, _, .cons h t => by cases h; rw [rvs_ints t]; rfl
end
end Ws
namespace Ws
open PySem PySem.W PyProof.Rows
section
variable {X : L2.Cx} {cm : Nat → Addr}
end
section
variable {X : L2.Cx} {cm : Nat → Addr}
end
end Ws
namespace Ws
open PySem PySem.W PyProof.Rows
section
variable {X : L2.Cx} {cm : Nat → Addr}
end
section
variable {prog : Program} {w : World} {A : Around} {E : Value → Shared → Prop} {s : Shared} {Q : Value → Shared → Prop}
end
section
variable {X : L2.Cx} {cm : Nat → Addr}
end
end Ws
namespace Ws
open PySem PySem.W PyProof.Rows
section
variable {X : L2.Cx} {cm : Nat → Addr}
theorem r_neg {i : Int} {j : Nat} {pos pos' : Pos} : L2.PE X (.UnaryOp .USub (.Constant (.int i) j pos) pos') (EvE X.K cm (eK (.int (-i)))) :=
  PE_imp (L2.pe_un L2.un_neg L2.pe_int) fun σ H Q ⟨ρ, A, σp, v, A', rl, rs, ev, k⟩ => by
    cases ev
    exact ⟨i, rfl, k ρ H _ (Ext.refl _ _) rl (.int _)⟩
theorem r_pop0 {o e : Expr} {d : ED} {apos cpos : Pos} (ho : L2.PE X o (EvE X.K cm d)) (he : L2.PE X e (EvE X.K cm (eK (.int 0))))
    (hb : attributeBase o "pop" X.env (eval o X.env) = eval o X.env := by rfl) (hs : starEach [e] X.env = (false, eval e X.env) :: starEach [] X.env := by rfl)
    (hfew : ((backTo cpos (starEach [e] X.env)).all (fun x => !x.1) && (backToKw cpos (keywordEach [] X.env)).all (fun x => x.1.isSome) && decide ([e].length + ([] : List Keyword).length + (if ([] : List Keyword).isEmpty then 0 else 1) < 30)) = true := by rfl)
    (hline : (apos.endLine == cpos.line) = true := by rfl) : L2.PE X (.Call (.Attribute o "pop" apos) [e] [] cpos) (EvE X.K cm (ePop0 d)) :=
  PE_imp (L2.pe_bm PySem.F.plainAttrs_list PySem.F.slot_list_pop PySem.F.type_list_pop L2.mt_popAt ho (r_cons he r_nil hs) (hbase := hb) (hfew := hfew) (hline := hline) (hs := hs)) fun σ H Q ⟨ρ, A, σp, v, A', rl, rs, ev, k⟩ => by
    obtain ⟨x, A1, e1, ev1⟩ := bnd_inv ev
    refine ⟨ρ, A, σp, x, A1, rl, rs, e1, fun ρ1 H1 v1 x1 rl1 rv1 => ?_⟩
    cases x with
    | ref n =>
      obtain ⟨l0, A2, e2, ev2⟩ := bnd_inv ev1
      have e20 := e2
      obtain ⟨rfl, hA, a, xs, rfl, hn, hH, r0⟩ := mut_read rl1 rv1 e2
      refine ⟨.inl ⟨rfl, xs, L2.SqL.of hH⟩, ρ1, _, σp, [.int 0], _, rl1, rs.mono x1, rfl, fun ρ2 H2 vs2 x2 rl2 rv2 => ?_⟩
      cases rv2 with
      | cons hv hr =>
        cases hr
        cases hv
        obtain ⟨_, hA2, a2, ys, e5, hn2, hH2, r2⟩ := mut_read rl2 (rv1.mono x2) e20
        cases e5
        cases l0 with
        | nil => cases ev2
        | cons y r =>
          cases ev2
          cases r2 with
          | cons hy hrr =>
            refine ⟨a, _, 0, 0, _, rfl, rfl, hH2, by omega, by omega, by unfold seqIndex?; simp, rfl, ?_⟩
            refine k ρ2 _ _ ((x1.trans x2).trans (Ext.put rl2 hn2 hA2 rfl)) (rl2.put hn2 hA2 rfl rfl ⟨_, L2.upd_same, ?_⟩) (hy.mono (Ext.put rl2 hn2 hA2 rfl))
            exact hrr.mono (Ext.put rl2 hn2 hA2 rfl)
    | _ => cases ev1
end
section
variable {X : L2.Cx} {cm : Nat → Addr}
structure DefN (P : Program) (w : World) (K : PySem.W.Frag) (mg : Str → Option Value) (base : Heap) (cm : Nat → Addr) (x : Str) (k : Nat) (ps : List Str) (f : Fun) (n : Nat) : Prop where
  ex : ∃ (fa : Addr) (fd : FuncData), L2.FnOk P w K mg base L2.CX0 k fa fd ps (SpF K cm f n) ∧ mg x = some (.ref fa) ∧ PySem.W.keepIn K (.ref fa) = true ∧ L2.Binds K fd ps [.none]
  len : ∀ vs A v A', f vs A = .ok v A' → vs.length = n
theorem r_callN {f : Fun} {n k k' : Nat} {ps : List Str} {x : Str} {e : Expr} {es : List Expr} {ds : AD} {p pos : Pos} (D : DefN X.prog X.w X.K X.mg X.base cm x k ps f n) (hk : k ≤ k') (hr : L2.Room k' X.A) (hg : L2.Gl X x)
    (ha : L2.PA X (e :: es) (EvA X.K cm ds)) (hdb : (x == ("__debug__" : Str)) = false := by decide) (he : starEach (e :: es) X.env = (false, eval e X.env) :: starEach es X.env := by rfl) (hpl : (backTo pos (starEach es X.env)).any (·.1) = false := by rfl) :
    L2.PE X (.Call (.Name x p) (e :: es) [] pos) (EvE X.K cm (eCall (dflt f [.non]) ds)) := by
  obtain ⟨fa, fd, F, hm, hkp, hb⟩ := D.ex
  refine PE_imp (L2.pe_call F (hr.mono hk) hg hm hkp hb (dvs := [.non]) (.cons (show L2.RelV .non Value.none from rfl) .nil) L2.pass0 ha hdb he hpl) fun σ H Q h => ?_
  obtain ⟨ρ, A, σp, v, A', rl, rs, ev, k⟩ := h
  obtain ⟨xs, A1, e1, ev1⟩ := bnd_inv ev
  refine ⟨ρ, A, σp, xs, A1, rl, rs, e1, fun ρ1 H1 vs1 x1 rl1 rv1 => ?_⟩
  have ev2 : f (xs ++ [.non]) A1 = .ok v A' := ev1
  exact ⟨ρ1, A1, xs ++ [.non], v, A', rl1, rv1.append (.cons .non .nil), D.len _ _ _ _ ev2, ev2, fun ρ2 H2 v2 x2 rl2 rv2 => k ρ2 H2 v2 (x1.trans x2) rl2 rv2⟩
end
end Ws
namespace Ws
open PySem
section
variable {X : L2.Cx} {cm : Nat → Addr} {pins : List (Addr × Obj)} {σ : L2.St} {H : L2.Hp} {s : Shared}
end
end Ws
namespace Ws
open PySem PySem.W PyProof.Rows
section
variable {X : L2.Cx} {cm : Nat → Addr}
end
end Ws
namespace Ws
open PySem PySem.W PyProof.Rows
section
variable {X : L2.Cx} {cm : Nat → Addr}
theorem r_extend {o e : Expr} {d u : ED} {apos cpos : Pos} (ho : L2.PE X o (EvE X.K cm d)) (he : L2.PE X e (EvE X.K cm u))
    (hb : attributeBase o "extend" X.env (eval o X.env) = eval o X.env := by rfl) (hs : starEach [e] X.env = (false, eval e X.env) :: starEach [] X.env := by rfl)
    (hfew : ((backTo cpos (starEach [e] X.env)).all (fun x => !x.1) && (backToKw cpos (keywordEach [] X.env)).all (fun x => x.1.isSome) && decide ([e].length + ([] : List Keyword).length + (if ([] : List Keyword).isEmpty then 0 else 1) < 30)) = true := by rfl)
    (hline : (apos.endLine == cpos.line) = true := by rfl) : L2.PE X (.Call (.Attribute o "extend" apos) [e] [] cpos) (EvE X.K cm (eExtend d u)) :=
  PE_imp (L2.pe_bm PySem.F.plainAttrs_list PySem.F.slot_list_extend PySem.F.type_list_extend L2.mt_extend ho (r_cons he r_nil hs) (hbase := hb) (hfew := hfew) (hline := hline) (hs := hs)) fun σ H Q ⟨ρ, A, σp, v, A', rl, rs, ev, k⟩ => by
    obtain ⟨x, A1, e1, ev1⟩ := bnd_inv ev
    refine ⟨ρ, A, σp, x, A1, rl, rs, e1, fun ρ1 H1 v1 x1 rl1 rv1 => ?_⟩
    cases x with
    | ref n =>
      obtain ⟨l0, A2, e2, ev2⟩ := bnd_inv ev1
      obtain ⟨rfl, hA, a, xs, rfl, hn, hH, r0⟩ := mut_read rl1 rv1 e2
      refine ⟨.inl ⟨rfl, xs, L2.SqL.of hH⟩, ?_⟩
      obtain ⟨y, A3, e3, ev3⟩ := bnd_inv ev2
      refine ⟨ρ1, _, σp, [y], A3, rl1, rs.mono x1, by show bnd (u σp) _ _ = _; rw [bnd_ok e3]; rfl, fun ρ2 H2 vs2 x2 rl2 rv2 => ?_⟩
      cases rv2 with
      | cons hv hr =>
        cases hr
        cases y with
        | ref j =>
          obtain ⟨l, A4, e4, ev4⟩ := bnd_inv ev3
          obtain ⟨rfl, hA2, a2, ys, e5, hn2, hH2, r2⟩ := mut_read rl2 (rv1.mono x2) e4
          cases e5
          obtain ⟨m, A5, e6, ev5⟩ := bnd_inv ev4
          obtain ⟨rfl, hA3, b, zs, rfl, hn3, hH3, r3⟩ := mut_read rl2 hv e6
          obtain ⟨c, ev6⟩ := guard_inv ev5
          cases ev6
          refine ⟨a, b, ys, zs, rfl, rfl, hH2, hH3, by rw [← r2.length, ← r3.length]; exact LIM_line c, ?_⟩
          refine k ρ2 _ _ ((x1.trans x2).trans (Ext.put rl2 hn2 hA2 rfl)) (rl2.put hn2 hA2 rfl rfl ⟨_, L2.upd_same, ?_⟩) .non
          exact (r2.mono (Ext.put rl2 hn2 hA2 rfl)).append (r3.mono (Ext.put rl2 hn2 hA2 rfl))
        | _ => cases ev3
    | _ => cases ev1
end
end Ws
namespace Ws
open PySem PySem.W PyProof.Rows
section
variable {prog : Program} {w : World} {A : Around} {E : Value → Shared → Prop} {s : Shared}
theorem nxT_item {it t : Addr} {i : Nat} {its : Array Value} {x : Value} {Q : Value → Shared → Prop} (hi : s.heap.IsTupleIter it t i) (ht : s.heap.IsTuple t its) (hx : its[i]? = some x)
    (hQ : ∀ h', h'.IsTupleIter it t (i + 1) → Heap.SameBut it s.heap h' → Q x { s with heap := h' }) : wpAny (model prog w) A (Builtin.SmallTypes.nextOf (.ref it)) Q E s := by
  obtain ⟨o, ho, hc, hd⟩ := id hi
  obtain ⟨ot, hot, _, nt, hdt⟩ := ht
  unfold Builtin.SmallTypes.nextOf
  refine wpAny_bind (wpAny_callSpecial?_slot (name := Str.ofString "__next__") hi.typeIs F.slot_tuple_iterator_next (wpAny_call_entry F.slot_tuple_iterator_next hi.typeIs F.entry_tuple_iterator_next ?_ (F.args_tuple_iterator_next_1 _)))
  show wpAny _ _ (field (.ref it) 0 >>= _) _ _ s
  refine wpAny_bind (wpAny_field ho hd (x := .ref t) rfl ?_)
  show wpAny _ _ (if (Value.ref t == Value.none) = true then _ else _) _ _ s
  rw [if_neg (show ¬ ((Value.ref t == Value.none) = true) from Bool.false_ne_true)]
  show wpAny _ _ (field (.ref it) 1 >>= _) _ _ s
  refine wpAny_bind (wpAny_field ho hd (x := .int i 0) rfl ?_)
  show wpAny _ _ (seqItems? (.ref t) >>= _) _ _ s
  refine wpAny_bind (wpAny_seqItems hot hdt ?_)
  simp only [Int.toNat_natCast, hx]
  refine wpAny_bind (wpAny_setField ho hd (by simp) (wpAny_pure ⟨x, rfl, wpAny_pure (hQ _ ⟨_, Heap.get?_update_self _ ho (Obj.isFreed_of_fields (Obj.data_mapFields hd _)), (Obj.cls_mapFields ..).trans hc, by rw [Obj.data_mapFields hd]; simp [rawInt]⟩ (Heap.SameBut.update ..))⟩))
theorem nxT_end {it t : Addr} {i : Nat} {its : Array Value} {Q : Value → Shared → Prop} (hh : A.handled = none) (hi : s.heap.IsTupleIter it t i) (ht : s.heap.IsTuple t its) (hx : its[i]? = none)
    (hE : ∀ h' e, Heap.ExtBut it s.heap h' → (∃ o, h'.get? e = some o ∧ o.cls = .type "StopIteration") → E (.ref e) { s with heap := h' }) : wpAny (model prog w) A (Builtin.SmallTypes.nextOf (.ref it)) Q E s := by
  obtain ⟨o, ho, hc, hd⟩ := id hi
  obtain ⟨ot, hot, _, nt, hdt⟩ := ht
  unfold Builtin.SmallTypes.nextOf
  refine wpAny_bind (wpAny_callSpecial?_slot (name := Str.ofString "__next__") hi.typeIs F.slot_tuple_iterator_next (wpAny_call_entry F.slot_tuple_iterator_next hi.typeIs F.entry_tuple_iterator_next ?_ (F.args_tuple_iterator_next_1 _)))
  show wpAny _ _ (field (.ref it) 0 >>= _) _ _ s
  refine wpAny_bind (wpAny_field ho hd (x := .ref t) rfl ?_)
  show wpAny _ _ (if (Value.ref t == Value.none) = true then _ else _) _ _ s
  rw [if_neg (show ¬ ((Value.ref t == Value.none) = true) from Bool.false_ne_true)]
  show wpAny _ _ (field (.ref it) 1 >>= _) _ _ s
  refine wpAny_bind (wpAny_field ho hd (x := .int i 0) rfl ?_)
  show wpAny _ _ (seqItems? (.ref t) >>= _) _ _ s
  refine wpAny_bind (wpAny_seqItems hot hdt ?_)
  simp only [Int.toNat_natCast, hx]
  refine wpAny_bind (wpAny_rule (wpAny_bind (wpAny_setField ho hd (by simp) ?_)))
  show wpAny _ _ (newExc (.type "StopIteration") [] >>= _) _ _ _
  refine wpAny_bind ?_
  simp only [newExc, newTuple]
  refine wpAny_bind (wpAny_newObj_type ?_ (by size_fits))
  refine wpAny_bind (m := firstArgMember _ _) (wpAny_of_eq (a := Value.none) (by first | rfl | (simp only [firstArgMember]; rfl)) ?_)
  refine wpAny_newObj_type ?_ (by size_fits)
  simp only [raiseNew]
  refine wpAny_bind (wpAny_handled ?_)
  first | rw [show A.in1.handled = none from hh] | rw [hh]
  refine wpAny_bind (wpAny_pure (wpAny_throw ?_))
  exact hE _ _ (((Heap.SameBut.update ..).extBut.push _).push _) ⟨_, Heap.get?_push_size _ rfl, rfl⟩
noncomputable def IterAt (k : Bool) (h : Heap) (it l : Addr) (i : Nat) : Prop := match k with
  | true => h.IsTupleIter it l i
  | false => h.IsListIter it l i
noncomputable def SeqAt (k : Bool) (h : Heap) (l : Addr) (its : Array Value) : Prop := match k with
  | true => h.IsTuple l its
  | false => h.IsList l its
theorem IterAt.at {k : Bool} {h h' : Heap} {it l : Addr} {i : Nat} (x : IterAt k h it l i) (e : ∀ o, h.get? it = some o → h'.get? it = some o) : IterAt k h' it l i := by
  cases k with
  | true => exact Heap.IsTupleIter.at x e
  | false => exact Heap.IsListIter.at x e
theorem SeqAt.at {k : Bool} {h h' : Heap} {l : Addr} {its : Array Value} (x : SeqAt k h l its) (e : ∀ o, h.get? l = some o → h'.get? l = some o) : SeqAt k h' l its := by
  cases k with
  | true => obtain ⟨o, h1, h2⟩ := x; exact ⟨o, e o h1, h2⟩
  | false => exact Heap.IsList.at x e
theorem IterAt.obj {k : Bool} {h : Heap} {it l : Addr} {i : Nat} (x : IterAt k h it l i) : ∃ o vs, h.get? it = some o ∧ o.data = .fields vs := by
  cases k with
  | true => obtain ⟨o, h1, _, h2⟩ := x; exact ⟨o, _, h1, h2⟩
  | false => obtain ⟨o, h1, _, h2⟩ := x; exact ⟨o, _, h1, h2⟩
theorem SeqAt.lt {k : Bool} {h : Heap} {l : Addr} {its : Array Value} (x : SeqAt k h l its) : l < h.objs.size := by
  cases k with
  | true => obtain ⟨o, h1, _⟩ := x; exact Heap.lt_size h1
  | false => obtain ⟨o, h1, _⟩ := x; exact Heap.lt_size h1
theorem nx_item {k : Bool} {it t : Addr} {i : Nat} {its : Array Value} {x : Value} {Q : Value → Shared → Prop} (hi : IterAt k s.heap it t i) (ht : SeqAt k s.heap t its) (hx : its[i]? = some x)
    (hQ : ∀ h', IterAt k h' it t (i + 1) → Heap.SameBut it s.heap h' → Q x { s with heap := h' }) : wpAny (model prog w) A (Builtin.SmallTypes.nextOf (.ref it)) Q E s := by
  cases k with
  | true => exact nxT_item hi ht hx hQ
  | false => exact wpAny_nextOf_list_item hi ht hx hQ
theorem nx_end {k : Bool} {it t : Addr} {i : Nat} {its : Array Value} {Q : Value → Shared → Prop} (hh : A.handled = none) (hi : IterAt k s.heap it t i) (ht : SeqAt k s.heap t its) (hx : its[i]? = none)
    (hE : ∀ h' e, Heap.ExtBut it s.heap h' → (∃ o, h'.get? e = some o ∧ o.cls = .type "StopIteration") → E (.ref e) { s with heap := h' }) : wpAny (model prog w) A (Builtin.SmallTypes.nextOf (.ref it)) Q E s := by
  cases k with
  | true => exact nxT_end hh hi ht hx hE
  | false => exact wpAny_nextOf_list_end hh hi ht hx hE
noncomputable def itObj (k : Bool) (l : Addr) : Obj := { cls := .type (match k with | true => "tuple_iterator" | false => "list_iterator"), data := .fields #[.ref l, .int 0 0] }
theorem it_new (k : Bool) (h : Heap) (l : Addr) : IterAt k (h.push (itObj k l)) h.objs.size l 0 := by
  cases k with
  | true => exact ⟨_, Heap.get?_push_size _ rfl, rfl, rfl⟩
  | false => exact ⟨_, Heap.get?_push_size _ rfl, rfl, rfl⟩
theorem iter_seq {k : Bool} {l : Addr} {its : Array Value} {Q : Value → Shared → Prop} (hl : SeqAt k s.heap l its) (hQ : Q (.ref s.heap.objs.size) { s with heap := s.heap.push (itObj k l) }) : wpAny (model prog w) A (pyIter (.ref l)) Q E s := by
  cases k with
  | true => exact wpAny_pyIter_tuple hl hQ
  | false => exact wpAny_pyIter_list hl hQ
noncomputable def ZipAt (h : Heap) (z TI TO : Addr) : Prop := ∃ (f0 : Value) (f1 : Bool), (f0 = .none ∨ ∃ T : Addr, f0 = rawInt T) ∧ h.get? z = some { cls := .type "zip", dict := none, data := .fields #[f0, .bool f1, .bool false, .ref TI, .ref TO], slots := #[] }
end
end Ws
namespace Ws
open PySem PySem.W PyProof.Rows
section
variable {prog : Program} {w : World} {A : Around} {E : Value → Shared → Prop} {s : Shared}
noncomputable abbrev zipO (f0 : Value) (f1 : Bool) (TI TO : Addr) : Obj := { cls := .type "zip", dict := none, data := .fields #[f0, .bool f1, .bool false, .ref TI, .ref TO], slots := #[] }
structure ZSt (k1 k2 : Bool) (z TI TO i1 i2 l1 l2 : Addr) (i : Nat) (h : Heap) : Prop where
  zr : ZipAt h z TI TO
  ti : IsPair h TI (.ref i1) (.ref i2)
  to : ∃ a b, IsPair h TO a b
  j1 : IterAt k1 h i1 l1 i
  j2 : IterAt k2 h i2 l2 i
noncomputable abbrev Kp (z TO i1 i2 : Addr) (h h' : Heap) : Prop := ∀ c o, c ≠ z → c ≠ TO → c ≠ i1 → c ≠ i2 → h.get? c = some o → h'.get? c = some o
structure ZA (z TI TO i1 i2 l1 l2 : Addr) : Prop where
  TIz : TI ≠ z
  TOz : TO ≠ z
  i1z : i1 ≠ z
  i2z : i2 ≠ z
  TITO : TI ≠ TO
  TIi1 : TI ≠ i1
  TIi2 : TI ≠ i2
  TOi1 : TO ≠ i1
  TOi2 : TO ≠ i2
  i12 : i1 ≠ i2
  l1z : l1 ≠ z
  l1TO : l1 ≠ TO
  l1i1 : l1 ≠ i1
  l1i2 : l1 ≠ i2
  l2z : l2 ≠ z
  l2TO : l2 ≠ TO
  l2i1 : l2 ≠ i1
  l2i2 : l2 ≠ i2
theorem ZSt.keep {k1 k2 : Bool} {z TI TO i1 i2 l1 l2 : Addr} {i : Nat} {h h' : Heap} (S : ZSt k1 k2 z TI TO i1 i2 l1 l2 i h) (k : ∀ b ∈ [z, TI, TO, i1, i2], ∀ o, h.get? b = some o → h'.get? b = some o) : ZSt k1 k2 z TI TO i1 i2 l1 l2 i h' := by
  obtain ⟨⟨f0, f1, hf, hz⟩, ti, ⟨a, b, to⟩, j1, j2⟩ := S
  exact ⟨⟨f0, f1, hf, k z (by simp) _ hz⟩, k TI (by simp) _ ti, ⟨a, b, k TO (by simp) _ to⟩, j1.at fun o e => k i1 (by simp) o e, j2.at fun o e => k i2 (by simp) o e⟩
theorem loadAlive {a : Addr} {Q : Option Obj → Shared → Prop} (h : Q (s.heap.get? a) s) : wpAny (model prog w) A (loadIfAlive a) Q E s := fun _ _ _ => h
theorem zip_free {z TI TO : Addr} {Q : Bool → Shared → Prop} (hz : ZipAt s.heap z TI TO) (h : ∀ b h' f0 f1, h'.get? z = some (zipO f0 f1 TI TO) → (b = false → ∃ T : Addr, f0 = rawInt T) → Heap.SameBut z s.heap h' → Q b { s with heap := h' }) :
    wpAny (model prog w) A (Builtin.SmallTypes.ownedTupleIsFree (.ref z)) Q E s := by
  obtain ⟨f0, f1, hf, hz⟩ := hz
  unfold Builtin.SmallTypes.ownedTupleIsFree
  rcases hf with rfl | ⟨T, rfl⟩
  · exact wpAny_bind (wpAny_field hz rfl (x := .none) rfl (wpAny_pure (h true s.heap _ _ hz (by simp) ⟨rfl, fun _ _ => rfl⟩)))
  · refine wpAny_bind (wpAny_field hz rfl (x := rawInt T) rfl ?_)
    refine wpAny_bind (loadAlive ?_)
    by_cases hn : (s.heap.get? ((T : Int).toNat)).isNone = true
    · rw [if_pos hn]
      exact wpAny_pure (h true s.heap _ _ hz (by simp) ⟨rfl, fun _ _ => rfl⟩)
    · rw [if_neg hn]
      refine wpAny_bind (wpAny_field hz rfl (x := .bool f1) rfl ?_)
      cases f1 with
      | true =>
        rw [if_neg (by simp)]
        exact wpAny_pure (h false s.heap _ _ hz (fun _ => ⟨T, rfl⟩) ⟨rfl, fun _ _ => rfl⟩)
      | false =>
        rw [if_pos (by decide)]
        refine wpAny_bind (wpAny_setField_rec hz (by simp) fun h1 hz1 hs1 => wpAny_pure (h false h1 (rawInt T) true hz1 (fun _ => ⟨T, rfl⟩) hs1))
theorem zip_nx {k1 k2 : Bool} {z TI TO i1 i2 l1 l2 : Addr} {k : Nat} {xs ys : Array Value} {x y : Value} {Q : Value → Shared → Prop} (D : ZA z TI TO i1 i2 l1 l2) (S : ZSt k1 k2 z TI TO i1 i2 l1 l2 k s.heap)
    (hl1 : SeqAt k1 s.heap l1 xs) (hl2 : SeqAt k2 s.heap l2 ys) (hx : xs[k]? = some x) (hy : ys[k]? = some y)
    (hQ : ∀ h', ZSt k1 k2 z TI TO i1 i2 l1 l2 (k + 1) h' → IsPair h' s.heap.objs.size x y → Kp z TO i1 i2 s.heap h' → Q (.ref s.heap.objs.size) { s with heap := h' }) :
    wpAny (model prog w) A (Builtin.«zip.__next__» ⟨[.ref z], []⟩) (fun fin s' => ∃ v, fin = .done (.ret v) ∧ Q v s') E s := by
  obtain ⟨hz, hTI, ⟨a, b, hTO⟩, h1, h2⟩ := S
  obtain ⟨g0, g1, _, hzz⟩ := id hz
  show wpAny _ _ (field (.ref z) 2 >>= _) _ _ _
  refine wpAny_bind (wpAny_field hzz rfl (x := .bool false) rfl ?_)
  show wpAny _ _ (field (.ref z) 3 >>= _) _ _ _
  refine wpAny_bind (wpAny_field hzz rfl (x := .ref TI) rfl ?_)
  refine wpAny_bind (wpAny_seqItems hTI rfl ?_)
  show wpAny _ _ (Builtin.SmallTypes.ownedTupleIsFree (.ref z) >>= _) _ _ _
  refine wpAny_bind (zip_free hz fun fr h0 f0 f1 hz0 hfr hs0 => ?_)
  have hTO0 : IsPair h0 TO a b := hs0.extBut _ _ D.TOz hTO
  have hTI0 : IsPair h0 TI (.ref i1) (.ref i2) := hs0.extBut _ _ D.TIz hTI
  have j1 : IterAt k1 h0 i1 l1 k := h1.at fun o e => hs0.extBut _ _ D.i1z e
  have j2 : IterAt k2 h0 i2 l2 k := h2.at fun o e => hs0.extBut _ _ D.i2z e
  have q1 : SeqAt k1 h0 l1 xs := hl1.at fun o e => hs0.extBut _ _ D.l1z e
  have q2 : SeqAt k2 h0 l2 ys := hl2.at fun o e => hs0.extBut _ _ D.l2z e
  cases fr with
  | true =>
    simp only [if_true]
    refine wpAny_bind (wpAny_rule ?_)
    refine wpAny_bind (wpAny_field hz0 rfl (x := .ref TO) rfl ?_)
    refine wpAny_bind (wpAny_setField_rec hz0 (by simp) fun h₁ hz₁ hs₁ => ?_)
    replace hz₁ : h₁.get? z = some (zipO .ellipsis f1 TI TO) := hz₁
    refine wpAny_bind ?_
    simp only [List.zipIdx_cons, List.zipIdx_nil, List.forIn_cons, List.forIn_nil]
    refine wpAny_bind (wpAny_bind (wpAny_onRaise ?_))
    show wpAny _ _ (Builtin.SmallTypes.nextOf (.ref i1) >>= _) _ _ _
    refine wpAny_bind (nx_item (j1.at fun o e => hs₁.extBut _ _ D.i1z e) (q1.at fun o e => hs₁.extBut _ _ D.l1z e) hx fun h₂ h1₂ hs₂ => wpAny_pure ?_)
    have hTO₂ : IsPair h₂ TO a b := hs₂.extBut _ _ D.TOi1 (hs₁.extBut _ _ D.TOz hTO0)
    refine wpAny_bind (wpAny_seqItems hTO₂ rfl ?_)
    refine wpAny_bind (wpAny_updateSeq_pair hTO₂ fun h₃ hTO₃ hs₃ => ?_)
    replace hTO₃ : IsPair h₃ TO x b := hTO₃
    refine wpAny_bind (wpAny_letGo (wpAny_pure ?_))
    refine wpAny_bind (wpAny_bind (wpAny_onRaise ?_))
    show wpAny _ _ (Builtin.SmallTypes.nextOf (.ref i2) >>= _) _ _ _
    refine wpAny_bind (nx_item (j2.at fun o e => hs₃.extBut _ _ D.TOi2.symm (hs₂.extBut _ _ D.i12.symm (hs₁.extBut _ _ D.i2z e))) (q2.at fun o e => hs₃.extBut _ _ D.l2TO (hs₂.extBut _ _ D.l2i1 (hs₁.extBut _ _ D.l2z e))) hy fun h₄ h2₄ hs₄ => wpAny_pure ?_)
    have hTO₄ : IsPair h₄ TO x b := hs₄.extBut _ _ D.TOi2 hTO₃
    refine wpAny_bind (wpAny_seqItems hTO₄ rfl ?_)
    refine wpAny_bind (wpAny_updateSeq_pair hTO₄ fun h₅ hTO₅ hs₅ => ?_)
    replace hTO₅ : IsPair h₅ TO x y := hTO₅
    refine wpAny_bind (wpAny_letGo (wpAny_pure (wpAny_pure ?_)))
    refine wpAny_bind (wpAny_seqItems hTO₅ rfl ?_)
    refine wpAny_bind (wpAny_newTuple ?_)
    have hsz : h₅.objs.size = s.heap.objs.size := by rw [hs₅.1, hs₄.1, hs₃.1, hs₂.1, hs₁.1, hs0.1]
    have hz₅ : h₅.get? z = some (zipO .ellipsis f1 TI TO) := hs₅.extBut _ _ D.TOz.symm (hs₄.extBut _ _ D.i2z.symm (hs₃.extBut _ _ D.TOz.symm (hs₂.extBut _ _ D.i1z.symm hz₁)))
    have hk₅ : Kp z TO i1 i2 s.heap h₅ := fun c o c1 c2 c3 c4 e =>
      hs₅.extBut _ _ c2 (hs₄.extBut _ _ c4 (hs₃.extBut _ _ c2 (hs₂.extBut _ _ c3 (hs₁.extBut _ _ c1 (hs0.extBut _ _ c1 e)))))
    have h1₅ : IterAt k1 h₅ i1 l1 (k + 1) := h1₂.at fun o e => hs₅.extBut _ _ D.TOi1.symm (hs₄.extBut _ _ D.i12 (hs₃.extBut _ _ D.TOi1.symm e))
    have h2₅ : IterAt k2 h₅ i2 l2 (k + 1) := h2₄.at fun o e => hs₅.extBut _ _ D.TOi2.symm e
    have hzlt : z < h₅.objs.size := Heap.lt_size hz₅
    show wpAny _ _ (Builtin.SmallTypes.ownedTupleHandOut (.ref z) (.ref h₅.objs.size) >>= _) _ _ _
    refine wpAny_bind ?_
    unfold Builtin.SmallTypes.ownedTupleHandOut
    have hz₆ : (h₅.push { cls := .type "tuple", data := .seq #[x, y] }).get? z = some (zipO .ellipsis f1 TI TO) := Heap.get?_push_of_some _ hz₅
    refine wpAny_bind (wpAny_setField_rec hz₆ (by simp) fun h₇ hz₇ hs₇ => ?_)
    replace hz₇ : h₇.get? z = some (zipO (rawInt h₅.objs.size) f1 TI TO) := hz₇
    refine wpAny_setField_rec hz₇ (by simp) fun h₈ hz₈ hs₈ => ?_
    replace hz₈ : h₈.get? z = some (zipO (rawInt h₅.objs.size) false TI TO) := hz₈
    have up : ∀ c o, c ≠ z → h₅.get? c = some o → h₈.get? c = some o := fun c o c1 e => hs₈.extBut _ _ c1 (hs₇.extBut _ _ c1 (Heap.get?_push_of_some _ e))
    have hT₈ : IsPair h₈ h₅.objs.size x y := hs₈.extBut _ _ (Nat.ne_of_gt hzlt) (hs₇.extBut _ _ (Nat.ne_of_gt hzlt) (Heap.get?_push_size _ rfl))
    refine wpAny_pure ⟨_, rfl, ?_⟩
    show Q (.ref h₅.objs.size) _
    rw [hsz] at hT₈ ⊢
    exact hQ h₈ ⟨⟨_, _, .inr ⟨_, rfl⟩, hz₈⟩, up _ _ D.TIz (hk₅ _ _ D.TIz D.TITO D.TIi1 D.TIi2 hTI), ⟨_, _, up _ _ D.TOz hTO₅⟩, h1₅.at fun o e => up _ o D.i1z e, h2₅.at fun o e => up _ o D.i2z e⟩ hT₈ fun c o c1 c2 c3 c4 e => up c o c1 (hk₅ c o c1 c2 c3 c4 e)
  | false =>
    simp only [Bool.false_eq_true, if_false]
    obtain ⟨T, hT⟩ := hfr rfl
    refine wpAny_bind ?_
    simp only [Array.forIn_toList.symm, List.forIn_cons, List.forIn_nil]
    refine wpAny_bind (wpAny_bind (wpAny_holding ?_))
    show wpAny _ _ (Builtin.SmallTypes.nextOf (.ref i1) >>= _) _ _ _
    refine wpAny_bind (nx_item (s := { s with heap := h0 }) j1 q1 hx fun h₂ h1₂ hs₂ => wpAny_pure (wpAny_pure ?_))
    refine wpAny_bind (wpAny_bind (wpAny_holding ?_))
    show wpAny _ _ (Builtin.SmallTypes.nextOf (.ref i2) >>= _) _ _ _
    refine wpAny_bind (nx_item (s := { s with heap := h₂ }) (j2.at fun o e => hs₂.extBut _ _ D.i12.symm e) (q2.at fun o e => hs₂.extBut _ _ D.l2i1 e) hy fun h₄ h2₄ hs₄ => wpAny_pure (wpAny_pure (wpAny_pure ?_)))
    refine wpAny_bind (wpAny_newTuple ?_ (by show 2 ≤ sizeLine; decide))
    have hsz : h₄.objs.size = s.heap.objs.size := by rw [hs₄.1, hs₂.1, hs0.1]
    refine wpAny_pure ⟨_, rfl, ?_⟩
    show Q (.ref h₄.objs.size) _
    have hk : Kp z TO i1 i2 s.heap h₄ := fun c o c1 c2 c3 c4 e => hs₄.extBut _ _ c4 (hs₂.extBut _ _ c3 (hs0.extBut _ _ c1 e))
    have hz₄ : h₄.get? z = some (zipO f0 f1 TI TO) := hs₄.extBut _ _ D.i2z.symm (hs₂.extBut _ _ D.i1z.symm hz0)
    have hp : IsPair (h₄.push { cls := .type "tuple", data := .seq #[x, y] }) h₄.objs.size x y := Heap.get?_push_size _ rfl
    rw [hsz] at hp ⊢
    refine hQ _ ⟨⟨_, _, .inr ⟨T, hT⟩, Heap.get?_push_of_some _ hz₄⟩, Heap.get?_push_of_some _ (hk _ _ D.TIz D.TITO D.TIi1 D.TIi2 hTI), ⟨a, b, Heap.get?_push_of_some _ (hs₄.extBut _ _ D.TOi2 (hs₂.extBut _ _ D.TOi1 hTO0))⟩,
      h1₂.at fun o e => Heap.get?_push_of_some _ (hs₄.extBut _ _ D.i12 e), h2₄.at fun o e => Heap.get?_push_of_some _ e⟩ hp fun c o c1 c2 c3 c4 e => Heap.get?_push_of_some _ (hk c o c1 c2 c3 c4 e)
theorem zip_nxE {k1 k2 : Bool} {z TI TO i1 i2 l1 l2 : Addr} {k : Nat} {xs ys : Array Value} {Q : Fin → Shared → Prop} (hh : A.handled = none) (D : ZA z TI TO i1 i2 l1 l2) (S : ZSt k1 k2 z TI TO i1 i2 l1 l2 k s.heap)
    (hl1 : SeqAt k1 s.heap l1 xs) (hl2 : SeqAt k2 s.heap l2 ys) (hend : xs[k]? = none ∨ ys[k]? = none)
    (hE : ∀ h' e, Kp z TO i1 i2 s.heap h' → (∃ o, h'.get? e = some o ∧ o.cls = .type "StopIteration") → E (.ref e) { s with heap := h' }) :
    wpAny (model prog w) A (Builtin.«zip.__next__» ⟨[.ref z], []⟩) Q E s := by
  obtain ⟨hz, hTI, ⟨a, b, hTO⟩, h1, h2⟩ := S
  obtain ⟨g0, g1, _, hzz⟩ := id hz
  show wpAny _ _ (field (.ref z) 2 >>= _) _ _ _
  refine wpAny_bind (wpAny_field hzz rfl (x := .bool false) rfl ?_)
  show wpAny _ _ (field (.ref z) 3 >>= _) _ _ _
  refine wpAny_bind (wpAny_field hzz rfl (x := .ref TI) rfl ?_)
  refine wpAny_bind (wpAny_seqItems hTI rfl ?_)
  show wpAny _ _ (Builtin.SmallTypes.ownedTupleIsFree (.ref z) >>= _) _ _ _
  refine wpAny_bind (zip_free hz fun fr h0 f0 f1 hz0 hfr hs0 => ?_)
  have hTO0 : IsPair h0 TO a b := hs0.extBut _ _ D.TOz hTO
  have j1 : IterAt k1 h0 i1 l1 k := h1.at fun o e => hs0.extBut _ _ D.i1z e
  have j2 : IterAt k2 h0 i2 l2 k := h2.at fun o e => hs0.extBut _ _ D.i2z e
  have q1 : SeqAt k1 h0 l1 xs := hl1.at fun o e => hs0.extBut _ _ D.l1z e
  have q2 : SeqAt k2 h0 l2 ys := hl2.at fun o e => hs0.extBut _ _ D.l2z e
  cases fr with
  | true =>
    simp only [if_true]
    refine wpAny_bind (wpAny_rule ?_)
    refine wpAny_bind (wpAny_field hz0 rfl (x := .ref TO) rfl ?_)
    refine wpAny_bind (wpAny_setField_rec hz0 (by simp) fun h₁ hz₁ hs₁ => ?_)
    replace hz₁ : h₁.get? z = some (zipO .ellipsis f1 TI TO) := hz₁
    refine wpAny_bind ?_
    simp only [List.zipIdx_cons, List.zipIdx_nil, List.forIn_cons, List.forIn_nil]
    refine wpAny_bind (wpAny_bind (wpAny_onRaise ?_))
    show wpAny _ _ (Builtin.SmallTypes.nextOf (.ref i1) >>= _) _ _ _
    cases hx : xs[k]? with
    | none =>
      refine wpAny_bind (nx_end hh (j1.at fun o e => hs₁.extBut _ _ D.i1z e) (q1.at fun o e => hs₁.extBut _ _ D.l1z e) hx fun h₂ e hs₂ he => ?_)
      obtain ⟨oe, hoe, hce⟩ := he
      have hz₂ : h₂.get? z = some (zipO .ellipsis f1 TI TO) := hs₂ _ _ D.i1z.symm hz₁
      have hez : e ≠ z := fun x => by subst x; rw [hz₂] at hoe; cases hoe; simp at hce
      refine wpAny_setField_rec hz₂ (by simp) fun h₃ _ hs₃ => hE h₃ e (fun c o c1 _ c3 _ x => hs₃.extBut _ _ c1 (hs₂ _ _ c3 (hs₁.extBut _ _ c1 (hs0.extBut _ _ c1 x)))) ⟨oe, hs₃.extBut _ _ hez hoe, hce⟩
    | some x =>
      have hy : ys[k]? = none := by rcases hend with h | h; · rw [hx] at h; cases h
                                    · exact h
      refine wpAny_bind (nx_item (j1.at fun o e => hs₁.extBut _ _ D.i1z e) (q1.at fun o e => hs₁.extBut _ _ D.l1z e) hx fun h₂ h1₂ hs₂ => wpAny_pure ?_)
      have hTO₂ : IsPair h₂ TO a b := hs₂.extBut _ _ D.TOi1 (hs₁.extBut _ _ D.TOz hTO0)
      refine wpAny_bind (wpAny_seqItems hTO₂ rfl ?_)
      refine wpAny_bind (wpAny_updateSeq_pair hTO₂ fun h₃ hTO₃ hs₃ => ?_)
      refine wpAny_bind (wpAny_letGo (wpAny_pure ?_))
      refine wpAny_bind (wpAny_bind (wpAny_onRaise ?_))
      show wpAny _ _ (Builtin.SmallTypes.nextOf (.ref i2) >>= _) _ _ _
      refine wpAny_bind (nx_end hh (j2.at fun o e => hs₃.extBut _ _ D.TOi2.symm (hs₂.extBut _ _ D.i12.symm (hs₁.extBut _ _ D.i2z e))) (q2.at fun o e => hs₃.extBut _ _ D.l2TO (hs₂.extBut _ _ D.l2i1 (hs₁.extBut _ _ D.l2z e))) hy fun h₄ e hs₄ he => ?_)
      obtain ⟨oe, hoe, hce⟩ := he
      have hz₄ : h₄.get? z = some (zipO .ellipsis f1 TI TO) := hs₄ _ _ D.i2z.symm (hs₃.extBut _ _ D.TOz.symm (hs₂.extBut _ _ D.i1z.symm hz₁))
      have hez : e ≠ z := fun x => by subst x; rw [hz₄] at hoe; cases hoe; simp at hce
      refine wpAny_setField_rec hz₄ (by simp) fun h₅ _ hs₅ => hE h₅ e (fun c o c1 c2 c3 c4 x => hs₅.extBut _ _ c1 (hs₄ _ _ c4 (hs₃.extBut _ _ c2 (hs₂.extBut _ _ c3 (hs₁.extBut _ _ c1 (hs0.extBut _ _ c1 x)))))) ⟨oe, hs₅.extBut _ _ hez hoe, hce⟩
  | false =>
    simp only [Bool.false_eq_true, if_false]
    refine wpAny_bind ?_
    simp only [Array.forIn_toList.symm, List.forIn_cons, List.forIn_nil]
    refine wpAny_bind (wpAny_bind (wpAny_holding ?_))
    show wpAny _ _ (Builtin.SmallTypes.nextOf (.ref i1) >>= _) _ _ _
    cases hx : xs[k]? with
    | none => exact wpAny_bind (nx_end (s := { s with heap := h0 }) hh j1 q1 hx fun h₂ e hs₂ he => hE h₂ e (fun c o c1 _ c3 _ x => hs₂ _ _ c3 (hs0.extBut _ _ c1 x)) he)
    | some x =>
      have hy : ys[k]? = none := by rcases hend with h | h; · rw [hx] at h; cases h
                                    · exact h
      refine wpAny_bind (nx_item (s := { s with heap := h0 }) j1 q1 hx fun h₂ h1₂ hs₂ => wpAny_pure (wpAny_pure ?_))
      refine wpAny_bind (wpAny_bind (wpAny_holding ?_))
      show wpAny _ _ (Builtin.SmallTypes.nextOf (.ref i2) >>= _) _ _ _
      exact wpAny_bind (nx_end (s := { s with heap := h₂ }) hh (j2.at fun o e => hs₂.extBut _ _ D.i12.symm e) (q2.at fun o e => hs₂.extBut _ _ D.l2i1 e) hy fun h₄ e hs₄ he => hE h₄ e (fun c o c1 _ c3 c4 x => hs₄ _ _ c4 (hs₂.extBut _ _ c3 (hs0.extBut _ _ c1 x))) he)
theorem pyNext_zip {k1 k2 : Bool} {z TI TO i1 i2 l1 l2 : Addr} {k : Nat} {xs ys : Array Value} {x y : Value} {Q : Option Value → Shared → Prop} (D : ZA z TI TO i1 i2 l1 l2) (S : ZSt k1 k2 z TI TO i1 i2 l1 l2 k s.heap)
    (hl1 : SeqAt k1 s.heap l1 xs) (hl2 : SeqAt k2 s.heap l2 ys) (hx : xs[k]? = some x) (hy : ys[k]? = some y)
    (hQ : ∀ h', ZSt k1 k2 z TI TO i1 i2 l1 l2 (k + 1) h' → IsPair h' s.heap.objs.size x y → Kp z TO i1 i2 s.heap h' → Q (some (.ref s.heap.objs.size)) { s with heap := h' }) :
    wpAny (model prog w) A (pyNext (.ref z)) Q E s := by
  have hT : s.TypeIs (.ref z) "zip" := by obtain ⟨_, _, _, h⟩ := S.zr; exact ⟨_, h, rfl⟩
  unfold pyNext
  refine wpAny_bind (wpAny_attempt (wpAny_callSpecial?_slot (name := Str.ofString "__next__") hT F.slot_zip_next (wpAny_call_entry F.slot_zip_next hT F.entry_zip_next (zip_nx D S hl1 hl2 hx hy fun h' a1 a2 a3 => wpAny_pure (hQ h' a1 a2 a3)) (F.args_zip_next_1 _))))
theorem pyNext_zipE {k1 k2 : Bool} {z TI TO i1 i2 l1 l2 : Addr} {k : Nat} {xs ys : Array Value} {Q : Option Value → Shared → Prop} (hh : A.handled = none) (D : ZA z TI TO i1 i2 l1 l2) (S : ZSt k1 k2 z TI TO i1 i2 l1 l2 k s.heap)
    (hl1 : SeqAt k1 s.heap l1 xs) (hl2 : SeqAt k2 s.heap l2 ys) (hend : xs[k]? = none ∨ ys[k]? = none) (hQ : ∀ h', Kp z TO i1 i2 s.heap h' → Q none { s with heap := h' }) :
    wpAny (model prog w) A (pyNext (.ref z)) Q E s := by
  have hT : s.TypeIs (.ref z) "zip" := by obtain ⟨_, _, _, h⟩ := S.zr; exact ⟨_, h, rfl⟩
  unfold pyNext
  refine wpAny_bind (wpAny_attempt (wpAny_callSpecial?_slot (name := Str.ofString "__next__") hT F.slot_zip_next (wpAny_call_entry F.slot_zip_next hT F.entry_zip_next (zip_nxE (A := _) hh D S hl1 hl2 hend fun h' e hk he => ?_) (F.args_zip_next_1 _))))
  obtain ⟨o, ho, hc⟩ := he
  exact wpAny_bind (wpAny_isInstance (T := "StopIteration") (b := true) ⟨o, ho, hc⟩ isSubtype_stop (wpAny_pure (hQ _ hk)))
theorem go_zip {k1 k2 : Bool} {tg : Expr} {z TI TO i1 i2 l1 l2 T : Addr} {k : Nat} {Q : Unit → Shared → Prop} (ht : ∀ es p, tg ≠ .List es p) (D : ZA z TI TO i1 i2 l1 l2) (S : ZSt k1 k2 z TI TO i1 i2 l1 l2 k s.heap)
    (hQ : ∀ h', ZSt k1 k2 z TI TO i1 i2 l1 l2 k h' → Heap.SameBut z s.heap h' → Q () { s with heap := h' }) :
    wpAny (model prog w) A (letOwnedTupleGo tg (.ref z) (.ref T)) Q E s := by
  have q0 : Q () s := hQ s.heap S ⟨rfl, fun _ _ => rfl⟩
  unfold letOwnedTupleGo
  cases tg with
  | Tuple elts x1 pos =>
    obtain ⟨⟨f0, f1, hf, hz⟩, hTI, ⟨a, b, hTO⟩, h1, h2⟩ := S
    refine wpAny_bind (wpAny_load hz ?_)
    by_cases c : (["enumerate", "zip", "dict_itemiterator", "dict_reverseitemiterator", "odict_iterator", "itertools.zip_longest", "itertools.pairwise"].contains "zip" && (#[f0, .bool f1, .bool false, .ref TI, .ref TO] : Array Value)[0]? == some (rawInt T)) = true
    · show wpAny _ _ (if _ then _ else _) Q E s
      rw [if_pos c]
      refine wpAny_bind (wpAny_rule ?_)
      show wpAny _ _ (setField (.ref z) 0 .none) Q E s
      refine wpAny_setField_rec hz (by simp) fun h' hz' hs' => hQ h' ⟨⟨.none, f1, .inl rfl, hz'⟩, hs'.extBut _ _ D.TIz hTI, ⟨a, b, hs'.extBut _ _ D.TOz hTO⟩, h1.at fun o e => hs'.extBut _ _ D.i1z e, h2.at fun o e => hs'.extBut _ _ D.i2z e⟩ hs'
    · show wpAny _ _ (if _ then _ else _) Q E s
      rw [if_neg c]
      exact wpAny_pure q0
  | List es p => exact absurd rfl (ht _ _)
  | _ => exact wpAny_pure q0
theorem pyIter_zip {z TI TO : Addr} {Q : Value → Shared → Prop} (hz : ZipAt s.heap z TI TO) (h : Q (.ref z) s) : wpAny (model prog w) A (pyIter (.ref z)) Q E s := by
  have hT : s.TypeIs (.ref z) "zip" := by obtain ⟨_, _, _, h⟩ := hz; exact ⟨_, h, rfl⟩
  refine wpAny_pyIter_slot hT F.slot_zip_iter (wpAny_call_entry F.slot_zip_iter hT F.entry_zip_iter ?_ (F.args_zip_iter_1 _))
  show wpAny _ _ (PySem.ret (.ref z)) _ _ s
  exact wpAny_pure ⟨_, rfl, "zip", _, hT, F.slot_zip_next.lookup, h⟩
end
end Ws
namespace Ws
open PySem PySem.W PyProof.Rows
section
variable {X : L2.Cx} {cm : Nat → Addr}
theorem sqk_of {k : Bool} {pins : List (Addr × Obj)} {σ : L2.St} {H : L2.Hp} {s : Shared} {a : Addr} {xs : List L2.V} (I : L2.Inv X pins σ H s) (h : SqK k X.K H a xs) : ∃ its : List Value, L2.Vals xs its ∧ SeqAt k s.heap a its.toArray := by
  cases k with
  | true => obtain ⟨its, r, p, _⟩ := I.tuple h; exact ⟨its, r, p⟩
  | false => obtain ⟨its, r, p, _⟩ := I.list h; exact ⟨its, r, p.isList⟩
theorem sqk_inj {k : Bool} {pins : List (Addr × Obj)} {σ : L2.St} {H : L2.Hp} {s : Shared} {a : Addr} {xs ys : List L2.V} (I : L2.Inv X pins σ H s) (h : SqK k X.K H a xs) (h' : SqK k X.K H a ys) : xs = ys := by
  cases k with
  | true => exact I.tuple_inj h h'
  | false => exact I.list_inj h h'
end
theorem turn_zip {P : Program} {w : World} {K : PySem.W.Frag} {tg : Expr} (ht : ∀ es p, tg ≠ .List es p) (k1 k2 : Bool) (a b z TI TO i1 i2 : Addr) (D : ZA z TI TO i1 i2 a b) :
    L2.Turn P w K tg (Itz K k1 k2 a b) [z, TI, TO, i1, i2] z (fun i h => ZSt k1 k2 z TI TO i1 i2 a b i h) where
  mem := by simp
  obj := fun i h S c hc => by
    obtain ⟨⟨f0, f1, _, hz⟩, ti, ⟨x, y, to⟩, j1, j2⟩ := S
    simp only [List.mem_cons, List.not_mem_nil, or_false] at hc
    rcases hc with rfl | rfl | rfl | rfl | rfl
    · exact ⟨_, hz, fun v z => by cases z⟩
    · exact ⟨_, ti, fun v z => by cases z⟩
    · exact ⟨_, to, fun v z => by cases z⟩
    · obtain ⟨o, vs, h1, h2⟩ := j1.obj; exact ⟨o, h1, fun v z => by rw [h2] at z; cases z⟩
    · obtain ⟨o, vs, h1, h2⟩ := j2.obj; exact ⟨o, h1, fun v z => by rw [h2] at z; cases z⟩
  keep := fun i h h' S k => S.keep k
  item := by
    intro X hP hw hK hc i pins s σ H E I hf S hg
    subst hP hw hK
    obtain ⟨xs, ys, x, y, hq1, hq2, hx, hy⟩ := hg
    obtain ⟨its1, r1, p1⟩ := sqk_of I hq1
    obtain ⟨its2, r2, p2⟩ := sqk_of I hq2
    obtain ⟨u, hu, ru⟩ := r1.get hx
    obtain ⟨v, hv, rv⟩ := r2.get hy
    refine pyNext_zip D S p1 p2 (x := u) (y := v) (by simpa using hu) (by simpa using hv) fun h' S' hT hk => ?_
    refine ⟨.ref s.heap.objs.size, rfl, go_zip (s := { s with heap := h' }) ht D S' fun h2 S2 hs2 => ?_⟩
    have zlt : z < s.heap.objs.size := by obtain ⟨_, _, _, e⟩ := S.zr; exact Heap.lt_size e
    have I2 : L2.Inv X pins σ (L2.upd H s.heap.objs.size (.tup [x, y])) { s with heap := h2 } := by
      refine turned_new (s := s) (t' := s.toks) I hf (fun b u hb q => ?_) (Nat.le_refl _) ?_
      · have n1 : b ≠ z := fun e => hb (by simp [e])
        exact hs2.extBut _ _ n1 (hk b u n1 (fun e => hb (by simp [e])) (fun e => hb (by simp [e])) (fun e => hb (by simp [e])) q)
      · exact ⟨by show 2 ≤ sizeLine; decide, [u, v], .cons ru (.cons rv .nil), _, hs2.extBut _ _ (Nat.ne_of_gt zlt) hT, rfl, _, rfl⟩
    refine ⟨.ref s.heap.objs.size, L2.upd H s.heap.objs.size (.tup [x, y]), I2, rfl, ⟨x, y, s.heap.objs.size, fun zs hz => by rw [sqk_inj I hz hq1]; exact hx, fun zs hz => by rw [sqk_inj I hz hq2]; exact hy, I.hok.fresh (Nat.le_refl _), rfl, rfl⟩, S2, fun b hb => ?_⟩
    rw [L2.upd_ne]
    · exact (hf b hb).1
    · intro e
      subst e
      have : ∃ o, s.heap.get? s.heap.objs.size = some o := by
        obtain ⟨⟨f0, f1, _, hz⟩, ti, ⟨x, y, to⟩, j1, j2⟩ := S
        simp only [List.mem_cons, List.not_mem_nil, or_false] at hb
        rcases hb with e | e | e | e | e
        · rw [e]; exact ⟨_, hz⟩
        · rw [e]; exact ⟨_, ti⟩
        · rw [e]; exact ⟨_, to⟩
        · rw [e]; obtain ⟨o, vs, h1, h2⟩ := j1.obj; exact ⟨o, h1⟩
        · rw [e]; obtain ⟨o, vs, h1, h2⟩ := j2.obj; exact ⟨o, h1⟩
      obtain ⟨o, ho⟩ := this
      exact absurd (Heap.lt_size ho) (Nat.lt_irrefl _)
  done := by
    intro X hP hw hK hc i pins s σ H E I hf S hg
    subst hP hw hK
    obtain ⟨xs, ys, hq1, hq2, hx⟩ := hg
    obtain ⟨its1, r1, p1⟩ := sqk_of I hq1
    obtain ⟨its2, r2, p2⟩ := sqk_of I hq2
    have l1 := r1.length
    have l2 := r2.length
    refine pyNext_zipE (I.ok.hd hc) D S p1 p2 ?_ fun h' hk => ⟨rfl, turned_fp (t' := s.toks) I hf fun b u hb q => hk b u (fun e => hb (by simp [e])) (fun e => hb (by simp [e])) (fun e => hb (by simp [e])) (fun e => hb (by simp [e])) q⟩
    rcases hx with hx | hx
    · left; rw [Array.getElem?_eq_none]; simp; omega
    · right; rw [Array.getElem?_eq_none]; simp; omega
  self := fun _ _ _ _ _ S h => pyIter_zip S.zr h
end Ws
namespace Ws
open PySem PySem.W PyProof.Rows
noncomputable abbrev zH1 (k1 : Bool) (h : Heap) (l1 : Addr) : Heap := h.push (itObj k1 l1)
noncomputable abbrev zH2 (k1 k2 : Bool) (h : Heap) (l1 l2 : Addr) : Heap := (zH1 k1 h l1).push (itObj k2 l2)
noncomputable abbrev zH3 (k1 k2 : Bool) (h : Heap) (l1 l2 : Addr) : Heap := (zH2 k1 k2 h l1 l2).push { cls := .type "tuple", data := .seq #[.ref h.objs.size, .ref (zH1 k1 h l1).objs.size] }
noncomputable abbrev zH4 (k1 k2 : Bool) (h : Heap) (l1 l2 : Addr) : Heap := (zH3 k1 k2 h l1 l2).push { cls := .type "tuple", data := .seq #[.none, .none] }
noncomputable abbrev zH5 (k1 k2 : Bool) (h : Heap) (l1 l2 : Addr) : Heap := (zH4 k1 k2 h l1 l2).push (zipO .none false (zH2 k1 k2 h l1 l2).objs.size (zH3 k1 k2 h l1 l2).objs.size)
theorem meets_zipK (k1 k2 : Bool) (l1 l2 : Addr) (xs ys : Array Value) :
    Meets (Builtin.«zip.__new__» ⟨[.type "zip", .ref l1, .ref l2], []⟩) (fun _ R s => SeqAt k1 s.heap l1 xs ∧ SeqAt k2 s.heap l2 ys ∧ R (.ok (.ret (.ref (zH4 k1 k2 s.heap l1 l2).objs.size))) { s with heap := zH5 k1 k2 s.heap l1 l2 }) :=
  .of_wp fun prog w A R s h => by
    obtain ⟨hp, g, d, tk, os⟩ := s
    obtain ⟨hl1, hl2, h⟩ := h
    have hsub := sub_zip
    have hL1 : SeqAt k1 (Shared.heap ⟨hp, g, d, tk, os⟩) l1 xs := hl1
    have hL2 : SeqAt k2 (Shared.heap ⟨hp.push (itObj k1 l1), g, d, tk, os⟩) l2 ys := hl2.at fun o e => Heap.get?_push_of_some _ e
    wp_walk using iter_seq hL1, iter_seq hL2
    exact ⟨_, rfl, h⟩
section
variable {prog : Program} {w : World} {A : Around} {E : Value → Shared → Prop} {s : Shared}
theorem call_zipK {k1 k2 : Bool} {l1 l2 : Addr} {xs ys : Array Value} {Q : Value → Shared → Prop} (hl1 : SeqAt k1 s.heap l1 xs) (hl2 : SeqAt k2 s.heap l2 ys)
    (h : ∀ h', ZSt k1 k2 (s.heap.objs.size + 4) (s.heap.objs.size + 2) (s.heap.objs.size + 3) s.heap.objs.size (s.heap.objs.size + 1) l1 l2 0 h' → (∀ c o, s.heap.get? c = some o → h'.get? c = some o) → Q (.ref (s.heap.objs.size + 4)) { s with heap := h' }) :
    wpAny (model prog w) A (call (.type "zip") [.ref l1, .ref l2]) Q E s := by
  refine callType_new F.called_zip (by decide) (F.typeCall_zip_2 _ _) (F.newCall_zip_2 _ _) (fun obj => F.args_object_init_3 obj _ _) F.entry_zip_new (meets_zipK k1 k2 l1 l2 xs ys) ⟨hl1, hl2, ?_⟩
  have z1 : (zH1 k1 s.heap l1).objs.size = s.heap.objs.size + 1 := Heap.size_push ..
  have z2 : (zH2 k1 k2 s.heap l1 l2).objs.size = s.heap.objs.size + 2 := by rw [Heap.size_push, z1]
  have z3 : (zH3 k1 k2 s.heap l1 l2).objs.size = s.heap.objs.size + 3 := by rw [Heap.size_push, z2]
  have z4 : (zH4 k1 k2 s.heap l1 l2).objs.size = s.heap.objs.size + 4 := by rw [Heap.size_push, z3]
  have g5 : (zH5 k1 k2 s.heap l1 l2).get? (zH4 k1 k2 s.heap l1 l2).objs.size = some _ := Heap.get?_push_size _ rfl
  have g4 : (zH5 k1 k2 s.heap l1 l2).get? (zH3 k1 k2 s.heap l1 l2).objs.size = some _ := Heap.get?_push_of_some _ (Heap.get?_push_size _ rfl)
  have g3 : (zH5 k1 k2 s.heap l1 l2).get? (zH2 k1 k2 s.heap l1 l2).objs.size = some _ := Heap.get?_push_of_some _ (Heap.get?_push_of_some _ (Heap.get?_push_size _ rfl))
  have g2 : IterAt k2 (zH5 k1 k2 s.heap l1 l2) (zH1 k1 s.heap l1).objs.size l2 0 := (it_new k2 (zH1 k1 s.heap l1) l2).at fun o e => Heap.get?_push_of_some _ (Heap.get?_push_of_some _ (Heap.get?_push_of_some _ e))
  have g1 : IterAt k1 (zH5 k1 k2 s.heap l1 l2) s.heap.objs.size l1 0 := (it_new k1 s.heap l1).at fun o e => Heap.get?_push_of_some _ (Heap.get?_push_of_some _ (Heap.get?_push_of_some _ (Heap.get?_push_of_some _ e)))
  show _ ∧ _
  rw [z2, z3, z4] at g5
  rw [z1, z2] at g3
  rw [z3] at g4
  rw [z1] at g2
  rw [z4]
  exact ⟨⟨_, g5, rfl⟩, h _ ⟨⟨_, _, .inl rfl, g5⟩, g3, ⟨_, _, g4⟩, g1, g2⟩ fun c o x => Heap.get?_push_of_some _ (Heap.get?_push_of_some _ (Heap.get?_push_of_some _ (Heap.get?_push_of_some _ (Heap.get?_push_of_some _ x))))⟩
end
section
variable {X : L2.Cx} {cm : Nat → Addr}
theorem i_zip {a b tg : Expr} {d e : ED} {p pos : Pos} (ht : ∀ es p, tg ≠ .List es p) (hg : L2.Gl X "zip") (hm : X.mg "zip" = none) (ha : L2.PE X a (EvE X.K cm d)) (hb : L2.PE X b (EvE X.K cm e))
    (hs : starEach [a, b] X.env = (false, eval a X.env) :: starEach [b] X.env := by rfl) (hs2 : starEach [b] X.env = (false, eval b X.env) :: starEach [] X.env := by rfl) : L2.PI X tg (.Call (.Name "zip" p) [a, b] [] pos) (EvI X.K cm (iZip d e)) := by
  intro pins s σ H R I h
  obtain ⟨ρ, A, σp, J, A', rl, rs, ev, k⟩ := h
  obtain ⟨x, A1, e1, ev1⟩ := bnd_inv ev
  obtain ⟨y, A2, e2, ev2⟩ := bnd_inv ev1
  refine Call_ (L2.ld_blt I hg hm (show bootBuiltins "zip" = some (.type "zip") from by rfl) (callWith_type1 (L2.thn ((r_cons ha (r_cons hb r_nil hs2) hs) pos pins s σ H (fun vs H1 => ∃ a xs b ys, vs = [.ref a, .ref b] ∧ SqK (kindOf x) X.K H1 a xs ∧ SqK (kindOf y) X.K H1 b ys ∧ R (Itz X.K (kindOf x) (kindOf y) a b) H1) I ⟨ρ, A, σp, [x, y], A2, rl, rs, by show bnd (d σp) _ A = _; rw [bnd_ok e1]; show bnd (bnd (e σp) _) _ A1 = _; rw [bnd_ok (show bnd (e σp) _ A1 = .ok [y] A2 by rw [bnd_ok e2]; rfl)]; rfl, fun ρ1 H1 vs1 x1 rl1 rv1 => ?_⟩) fun us s1 ⟨vs, H1, I1, r1, q1⟩ => ?_) hs (by rw [hs2]; rfl)))
  · cases rv1 with
    | cons hv hr =>
      cases hr with
      | cons hv2 hr2 =>
        cases hr2
        obtain ⟨l, A3, e3, ev3⟩ := bnd_inv ev2
        obtain ⟨rfl, a, xs, rfl, hq, r⟩ := seqk_read rl1 hv e3
        obtain ⟨m, A4, e4, ev4⟩ := bnd_inv ev3
        obtain ⟨rfl, b, ys, rfl, hq2, r2⟩ := seqk_read rl1 hv2 e4
        cases ev4
        exact ⟨a, xs, b, ys, rfl, hq, hq2, k ρ1 H1 _ x1 rl1 ⟨a, b, hv, hv2, rfl⟩⟩
  · obtain ⟨a, xs, b, ys, rfl, hq, hq2, q⟩ := q1
    cases r1 with
    | cons h1 t1 =>
      cases t1 with
      | cons h2 t2 =>
        cases t2
        cases h1
        cases h2
        obtain ⟨its1, r1, p1⟩ := sqk_of I1 hq
        obtain ⟨its2, r2, p2⟩ := sqk_of I1 hq2
        refine call_zipK p1 p2 fun h' S kp => ?_
        refine pyIter_zip S.zr ?_
        have I2 : L2.Inv X pins σ H1 { s1 with heap := h' } := I1.kept (t' := s1.toks) kp
        have la := p1.lt
        have lb := p2.lt
        refine ⟨s1.heap.objs.size + 4, [s1.heap.objs.size + 4, s1.heap.objs.size + 2, s1.heap.objs.size + 3, s1.heap.objs.size, s1.heap.objs.size + 1], _, _, H1, rfl, I2, turn_zip ht (kindOf x) (kindOf y) a b _ _ _ _ _ ?_, S, fun c hc => ?_, q⟩
        · have la : @LT.lt Nat _ a s1.heap.objs.size := la
          have lb : @LT.lt Nat _ b s1.heap.objs.size := lb
          constructor <;> first | exact Nat.ne_of_lt (by omega) | exact Nat.ne_of_gt (by omega)
        · have hb2 : s1.heap.objs.size ≤ c := by
            simp only [List.mem_cons, List.not_mem_nil, or_false] at hc
            rcases hc with rfl | rfl | rfl | rfl | rfl
            · exact Nat.le_add_right _ 4
            · exact Nat.le_add_right _ 2
            · exact Nat.le_add_right _ 3
            · exact Nat.le_refl _
            · exact Nat.le_add_right _ 1
          exact I1.fpOk hb2 (I1.hok.fresh hb2)
end
end Ws
namespace Ws
open PySem PySem.W PyProof.Rows
noncomputable abbrev setN (led : Bool) : Obj := { cls := .type "set", dict := none, data := .set #[] 0 (.fresh 0 0 led) }
section
variable {prog : Program} {w : World} {A : Around} {E : Value → Shared → Prop} {s : Shared}
set_option maxHeartbeats 3200000 in
theorem call_set_tup {l : Addr} {its : Array Value} {ns : List Int} {Q : Value → Shared → Prop} (hh : A.handled = none) (hl : s.heap.IsTuple l its) (hi : IntsAre its.toList ns) (hb : its.size + 1 < scanBound)
    (h : ∀ (h' : Heap) (tk : Nat), h'.SetOf (intKind prog w) s.heap.objs.size (fun k' => (firstMet (fun i => ns.getD i 0) its.size).any (· == k')) (firstMet (fun i => ns.getD i 0) its.size).length → (∀ b o, b < s.heap.objs.size → s.heap.get? b = some o → h'.get? b = some o) → Q (.ref s.heap.objs.size) { s with heap := h', toks := tk }) :
    wpAny (model prog w) A (call (.type "set") [.ref l]) Q E s := by
  obtain ⟨c, tl, hmro⟩ := PySem.F.called_set.mro
  have hmade := PySem.F.called_set.made
  have hsub := PySem.F.called_set.sub
  refine wpAny_call (codeAny_of_tree ?_)
  show wpAny _ _ (callAny (.type "set") _) _ _ _
  refine wpAny_pure ⟨Code.quiet_builtin _ (by decide +kernel), codeAny_builtin PySem.F.entry_type_call ?_⟩
  rw [Around.under_plain (weight_type_call_type "set" [.ref l] []) rfl]
  have h1 := PySem.F.called_set.notType
  have h2 := PySem.F.called_set.canCreate
  have hct := PySem.F.typeCall_set_1 (.ref l)
  repeat (any_goals (first | assumption | wp_step))
  refine codeAny_mono (code_set_new_1 (.ref l) (E := E) (Q₁ := fun obj s₁ => ∃ led : Bool, obj = .ref s.heap.objs.size ∧ s₁ = { s with heap := s.heap.push (setN led) }) fun led => ⟨led, rfl, rfl⟩) fun r s₁ hr => ?_
  cases r with
  | error e => exact hr
  | ok fl =>
    cases fl with
    | ret obj =>
      obtain ⟨led, rfl, rfl⟩ := hr
      have hS : (s.heap.push (setN led)).get? s.heap.objs.size = some (setN led) := Heap.get?_push_size _ rfl
      have hT : Shared.TypeIs { s with heap := s.heap.push (setN led) } (.ref s.heap.objs.size) "set" := ⟨_, hS, rfl⟩
      have hli := PySem.F.called_set.init.lookup
      have hbi := PySem.F.called_set.init.bind (.ref s.heap.objs.size)
      repeat (any_goals (first | assumption | wp_step))
      refine codeAny_mono (codeAny_call_builtin (R := wants (fun r s₂ => r = .none ∧ ∃ h' tk, s₂ = { s with heap := h', toks := tk } ∧
          h'.SetOf (intKind prog w) s.heap.objs.size (fun k' => (firstMet (fun i => ns.getD i 0) its.size).any (· == k')) (firstMet (fun i => ns.getD i 0) its.size).length ∧
          (∀ b o, b < s.heap.objs.size → s.heap.get? b = some o → h'.get? b = some o)) E) PySem.F.called_set.init.plain PySem.F.entry_set_init (check_set_init_1 hT ?_)) fun r₂ s₂ hr₂ => ?_
      · obtain ⟨ol, hol, hcl, nl, hdl⟩ := hl
        obtain ⟨ocls, odict, odata, oslots⟩ := ol
        simp only at hcl hdl
        subst hcl; subst hdl
        have hol' : (s.heap.push (setN led)).get? l = some { cls := .type "tuple", dict := odict, data := .seq its nl, slots := oslots } := Heap.get?_push_of_some _ hol
        have hsls := PySem.F.sub_tuple_set
        have hslf := PySem.F.sub_tuple_frozenset
        have hne : (Value.type "tuple" == Value.type "dict") = false := by decide
        have hl1 : (s.heap.push (setN led)).IsTuple l its := ⟨_, hol', rfl, nl, rfl⟩
        unfold Builtin.«set.__init__» noKeywords Builtin.Frozenset.updateFrom
        generalize hPI : pyIter = PI
        wp_walk
        subst hPI
        refine wpAny_pyIter_tuple hl1 ?_
        refine wpAny_bind (wpAny_runValue ?_)
        have hlS : l < s.heap.objs.size := Heap.lt_size hol
        have hh3 : A.in1.in1.in1.handled = none := by simp [hh]
        have hneI : l ≠ (s.heap.push (setN led)).objs.size := by
          rw [Heap.size_push]; exact Nat.ne_of_lt (Nat.lt_succ_of_lt hlS)
        have hSf : s.heap.objs.size ∉ [(s.heap.push (setN led)).objs.size, l] := by
          rw [Heap.size_push]; simp only [List.mem_cons, List.mem_singleton, List.not_mem_nil, or_false, not_or]
          exact ⟨Nat.ne_of_lt (Nat.lt_succ_self _), Nat.ne_of_gt hlS⟩
        have hval : ∀ (i : Nat) (v : Value), its[i]? = some v → ∃ t, v = .int ((fun i => ns.getD i 0) i) t := fun i v hv => IntsAre.int_at hi i v (by rw [Array.getElem?_toList]; exact hv)
        refine codeAny_set_update_loopS ((Walks.tuple hh3 _ l hneI its).toS) s.heap.objs.size hSf (fun i => ns.getD i 0) hval hb (its.size - 0) 0 _ (by omega) (Nat.zero_le _)
          ⟨⟨_, Heap.get?_push_size _ rfl, rfl, rfl⟩, (hl1.push _)⟩ ?hS0 ?hR
        case hS0 =>
          have hget : ((s.heap.push (setN led)).push { cls := .type "tuple_iterator", data := .fields #[.ref l, .int 0 0] }).get? s.heap.objs.size = some (setN led) := Heap.get?_push_of_some _ hS
          exact SetOf_congr ((setObjOf_fresh (knd := intKind prog w) led).setOf hget (by unfold scanBound; omega)) (fun _ => rfl) rfl
        case hR =>
          intro s' hm hS'
          obtain ⟨h', g', d', tk', os'⟩ := s'
          have eg : g' = s.gens := hm.gens
          have ed : d' = s.drawn := hm.drawn
          have eo : os' = s.os := hm.os
          subst eg; subst ed; subst eo
          show wpAny _ _ _ _ _ _
          refine wpAny_pure ?_
          show wpAny _ _ (PySem.ret Value.none) _ _ _
          refine wpAny_pure ⟨rfl, h', tk', rfl, hS', fun b o hb e => ?_⟩
          have hb1 : b ≠ s.heap.objs.size := Nat.ne_of_lt hb
          have hb2 : b ≠ (s.heap.push (setN led)).objs.size := by
            rw [Heap.size_push]; exact Nat.ne_of_lt (Nat.lt_succ_of_lt hb)
          exact hm.heap b o (by simp only [List.mem_cons, List.mem_singleton, List.not_mem_nil, or_false, not_or]; exact ⟨hb1, hb2⟩) (Heap.get?_push_of_some _ (Heap.get?_push_of_some _ e))
      · cases r₂ with
        | error e => exact hr₂
        | ok fl₂ =>
          cases fl₂ with
          | ret r =>
            obtain ⟨rfl, h', tk, rfl, hS', hk'⟩ := hr₂
            repeat (any_goals (first | assumption | wp_step))
            exact h _ _ hS' hk'
          | _ => exact hr₂.elim
    | _ => exact hr.elim
end
end Ws
namespace Ws
open PySem PySem.W PyProof.Rows
theorem met_same (ns : List Int) : (firstMet (fun i => ns.getD i 0) ns.length).length = cntI ns := by
  unfold firstMet cntI
  have e : (List.range ns.length).map (fun i => ns.getD i 0) = ns := by
    refine List.ext_getElem? fun k => ?_
    rw [List.getElem?_map]
    by_cases hk : k < ns.length
    · rw [List.getElem?_range hk]; simp [hk]
    · simp [hk]
  rw [e]; rfl
section
variable {X : L2.Cx} {cm : Nat → Addr}
theorem r_lenSet2 {e : Expr} {d : ED} {p1 p2 q1 q2 : Pos} (hcalm : X.calm = true) (he : L2.PE X e (EvE X.K cm d)) (hg1 : L2.Gl X "len") (hm1 : X.mg "len" = none) (hg2 : L2.Gl X "set") (hm2 : X.mg "set" = none)
    (hs2 : starEach [e] X.env = (false, eval e X.env) :: starEach [] X.env := by rfl)
    (hs1 : starEach [.Call (.Name "set" p2) [e] [] q2] X.env = (false, eval (.Call (.Name "set" p2) [e] [] q2) X.env) :: starEach [] X.env := by rfl) :
    L2.PE X (.Call (.Name "len" p1) [.Call (.Name "set" p2) [e] [] q2] [] q1) (EvE X.K cm (eLenSet2 d)) := by
  intro pins s σ H Q I h
  obtain ⟨ρ, A, σp, v, A', rl, rs, ev, k⟩ := h
  obtain ⟨x, A1, e1, ev1⟩ := bnd_inv ev
  refine Call_ (L2.ld_blt I hg1 hm1 PySem.boot_len (callWith_builtin1 (arg_one hs1 ?_) hs1 rfl))
  refine Call_ (L2.ld_blt I hg2 hm2 (show bootBuiltins "set" = some (.type "set") from by rfl) (callWith_type1 (arg_one hs2 ?_) hs2 rfl))
  refine L2.thn (he pins s σ H (fun v H1 => ∃ (a : Addr) (ns : List Int), v = .ref a ∧ SqK (kindOf x) X.K H1 a (ns.map L2.V.int) ∧ ns.length < 1000 ∧ Q (.int (cntI ns)) H1) I ⟨ρ, A, σp, x, A1, rl, rs, e1, fun ρ1 H1 v1 x1 rl1 rv1 => ?_⟩) fun u s1 ⟨w1, H1, I1, r1, a, ns, ew, hq, hlt, q⟩ => ?_
  · obtain ⟨l, A2, e2, ev2⟩ := bnd_inv ev1
    obtain ⟨rfl, a, xs, rfl, hH, r0⟩ := seqk_read rl1 rv1 e2
    cases hi : intsOf l with
    | none => rw [hi] at ev2; cases ev2
    | some ns =>
      rw [hi] at ev2
      obtain ⟨c, ev3⟩ := guard_inv ev2
      cases ev3
      rw [intsOf_inv hi] at r0
      exact ⟨a, ns, rfl, by rw [← rvs_ints r0]; exact hH, c, k ρ1 H1 _ x1 rl1 (.int _)⟩
  · subst ew
    obtain rfl : u = Value.ref a := r1
    have fin : ∀ (h' : Heap) (tk : Nat) (n : Nat), n = ns.length → h'.SetOf (intKind X.prog X.w) s1.heap.objs.size (fun k' => (firstMet (fun i => ns.getD i 0) n).any (· == k')) (firstMet (fun i => ns.getD i 0) n).length →
        (∀ b o, b < s1.heap.objs.size → s1.heap.get? b = some o → h'.get? b = some o) → wpAny (model X.prog X.w) X.A (call (.builtin "len") [.ref s1.heap.objs.size]) (L2.EP X pins σ Q) X.xe { s1 with heap := h', toks := tk } := by
      intro h' tk n hn hset hold
      subst hn
      obtain ⟨o, es, ep, t, ho, hex, hd, _, _, _, hf, hsz⟩ := hset
      have hn : es.size = cntI ns := by rw [hsz]; exact met_same ns
      have hle := cnt_le ns
      refine call_len_set (s := { s1 with heap := h', toks := tk }) ho hex hd hf (by omega) ?_
      rw [hn]
      exact ⟨.int (cntI ns), H1, I1.kept (h' := h') (t' := tk + 1 + 1) (fun b ob e => hold b ob (Heap.lt_size e) e), ⟨_, rfl⟩, q⟩
    cases hk : kindOf x with
    | true =>
      rw [hk] at hq
      obtain ⟨its, ri, pl, hz⟩ := I1.tuple hq
      have hi : IntsAre its ns := L2.intsAre_of ri
      have hl : its.length = ns.length := hi.length
      refine call_set_tup (I1.ok.hd hcalm) pl (by simpa using hi) (by rw [List.size_toArray, hl]; exact Nat.lt_of_lt_of_le (Nat.succ_lt_succ hlt) (by decide)) fun h' tk hset hold => fin h' tk _ (by rw [List.size_toArray, hl]) hset hold
    | false =>
      rw [hk] at hq
      obtain ⟨its, ri, pl, hz⟩ := I1.list hq
      have hi : IntsAre its ns := L2.intsAre_of ri
      have hl : its.length = ns.length := hi.length
      refine call_set_list (I1.ok.hd hcalm) pl.isList (by simpa using hi) (by rw [List.size_toArray, hl]; exact Nat.lt_of_lt_of_le (Nat.succ_lt_succ hlt) (by decide)) fun h' tk hset hold => fin h' tk _ (by rw [List.size_toArray, hl]) hset hold
end
end Ws
namespace Ws
open PySem PySem.W PyProof.Rows
section
variable {prog : Program} {w : World} {A : Around} {E : Value → Shared → Prop} {s : Shared}
end
section
variable {X : L2.Cx} {cm : Nat → Addr}
end
end Ws
namespace Ws
open PySem PySem.W PyProof.Rows PySem.Calls
structure XCls (h : Heap) (C : Addr) (newId : String) : Prop where
  obj : ∃ nm q N bs bm hdct sn sub ab col dd k0 k1 k2 k3 k5, h.get? C = some (excClassObj nm q C N bs bm hdct sn sub ab col dd k0 k1 k2 k3 k5 newId) ∧ bm.contains (.type "ValueError") = true ∧ bm.contains (.type "BaseException") = true ∧ bm.contains (.type "AttributeError") = false ∧ bm.contains (.type "NameError") = false
section
variable {prog : Program} {w : World} {A : Around} {R : Result → Shared → Prop} {h : Heap} {g : Array GenState} {d : Drawn} {t : Nat} {os : OsState} {C fI : Addr} {rest : List Value}
end
end Ws
namespace Ws
open PySem PySem.W PyProof.Rows PySem.Calls
section
variable {prog : Program} {w : World} {A : Around} {R : Result → Shared → Prop} {h : Heap} {g : Array GenState} {d : Drawn} {t : Nat} {os : OsState} {C fI : Addr} {rest : List Value}
end
end Ws
namespace Ws
open PySem PySem.W PyProof.Rows PySem.Calls Builtin Builtin.ObjectAttr
noncomputable def vErr : List Value := [.type "ValueError", .type "Exception", .type "BaseException", .type "object"]
noncomputable def onlyErr : List Value → Bool
  | .ref _ :: r => onlyErr r
  | l => l == vErr
section
variable {prog : Program} {w : World} {A : Around} {E : Value → Shared → Prop} {R : Result → Shared → Prop} {s : Shared} {K : Frag} {x C : Addr} {ox : Obj} {cd : ClassData} {name : Str} {v : Value}
end
end Ws
namespace Ws
open PySem PySem.W PyProof.Rows PySem.Calls
noncomputable def tbV : Option Addr → Value
  | none => .none
  | some T => .ref T
noncomputable def XObj (C : Addr) (d tb : Option Addr) (e : Addr) (h : Heap) : Prop := ∃ oe vs, h.get? e = some oe ∧ oe.cls = .ref C ∧ oe.dict = d ∧ oe.data = .fields vs ∧ vs[1]? = some (tbV tb)
noncomputable def XO (C : Addr) (d tb : Option Addr) (e : Addr) : L2.HO := .ext (XObj C d tb e)
noncomputable def TObj (T : Addr) (fl : Value) (h : Heap) : Prop := ∃ oT ts, h.get? T = some oT ∧ oT.data = .fields ts ∧ ts[3]? = some fl
noncomputable def TO (T : Addr) (fl : Value) : L2.HO := .ext (TObj T fl)
structure XK (K : PySem.W.Frag) (C fI : Addr) : Prop where
  obj : ∃ nm q N bs bm hdct sn sub ab col dd k0 k1 k2 k3 k5, K.lookup C = some (excClassObj nm q C N bs bm hdct sn sub ab col dd k0 k1 k2 k3 k5 "ValueError.__new__") ∧ onlyErr bm = true ∧ hdct = true
  init : findIn K (.ref C) "__init__" = some (some (.ref fI))
  fn : isFn K (.ref fI) = true
  kp : keepIn K (.ref C) = true
  sa : findIn K (.ref C) "__setattr__" = some (some (.builtin "object.__setattr__"))
  na : findIn K (.ref C) "at" = some none
theorem err_in : ∀ {l : List Value}, onlyErr l = true → l.contains (.type "ValueError") = true ∧ l.contains (.type "BaseException") = true ∧ l.contains (.type "AttributeError") = false ∧ l.contains (.type "NameError") = false
  | .ref c :: r, e => by
    obtain ⟨h1, h2, h3, h4⟩ := err_in (l := r) (by cases r <;> exact e)
    refine ⟨?_, ?_, ?_, ?_⟩ <;> rw [List.contains_cons] <;> first | rw [h1] | rw [h2] | rw [h3] | rw [h4]
    · exact Bool.or_true _
    · exact Bool.or_true _
    · rfl
    · rfl
  | [], e => by cases e
  | .type n :: r, e => by rw [show Value.type n :: r = vErr from beq_iff_eq.mp e]; exact ⟨rfl, rfl, rfl, rfl⟩
  | .none :: r, e => by cases e
  | .bool _ :: r, e => by cases e
  | .int _ _ :: r, e => by cases e
  | .str _ _ :: r, e => by cases e
  | .bytes _ _ :: r, e => by cases e
  | .float _ _ :: r, e => by cases e
  | .builtin _ :: r, e => by cases e
  | .ellipsis :: r, e => by cases e
  | .notImplemented :: r, e => by cases e
theorem XK.cls {K : PySem.W.Frag} {C fI : Addr} {h : Heap} (x : XK K C fI) (X : K.In h) : XCls h C "ValueError.__new__" := by
  obtain ⟨nm, q, N, bs, bm, hdct, sn, sub, ab, col, dd, k0, k1, k2, k3, k5, hC, ho, _⟩ := x.obj
  exact ⟨nm, q, N, bs, bm, hdct, sn, sub, ab, col, dd, k0, k1, k2, k3, k5, X _ _ hC, err_in ho⟩
section
variable {X : L2.Cx} {o value : Expr} {pos pos' : Pos} {to tv : L2.TE}
end
end Ws
namespace Ws
open PySem PySem.W PyProof.Rows PySem.Calls
noncomputable def FlyAt (fl : Value) (H : L2.Hp) (e C : Addr) (v : L2.V) : Prop := ∃ d tb, H e = some (XO C (some d) tb e) ∧ H d = some (.xd [("at", v)]) ∧ ∀ T, tb = some T → H T = some (TO T fl) ∧ T ≠ e
noncomputable def Calm (H H' : L2.Hp) : Prop := ∀ b u, H b = some u → (∀ φ, u ≠ .ext φ) → H' b = some u
theorem Calm.trans {H H1 H2 : L2.Hp} (a : Calm H H1) (b : Calm H1 H2) : Calm H H2 := fun c u e n => b c u (a c u e n) n
section
variable {M : Model} {A : Around} {E : Value → Shared → Prop} {s : Shared} {P : Program} {w : World}
end
end Ws
namespace Ws
open PySem PySem.W PyProof.Rows PySem.Calls
section
variable (K : PySem.W.Frag) (cm : Nat → Addr)
noncomputable def XPost (ρ : List Addr) (H : L2.Hp) (c : Nat) (v : PV) (A' : PHp) (XQ : Addr → L2.Hp → Prop) : Prop := ∀ ρ' H' a v', Ext ρ H ρ' H' → Rel K cm ρ' A' H' → RV ρ' H' v v' → FlyAt .none H' a (cm c) v' → XQ a H'
noncomputable def OutV (ρ : List Addr) (H : L2.Hp) (XQ : Addr → L2.Hp → Prop) (Q : L2.VK) : R PV → Prop
  | .ok v A' => ∀ ρ' H' v', Ext ρ H ρ' H' → Rel K cm ρ' A' H' → RV ρ' H' v v' → Q v' H'
  | .ex c v A' => XPost K cm ρ H c v A' XQ
  | .no => False
noncomputable def OutS (ρ : List Addr) (H : L2.Hp) (XE : Addr → L2.Hp → Prop) (D : L2.Ends) : R Fl → Prop
  | .ok f A' => ∀ ρ' H', Ext ρ H ρ' H' → Rel K cm ρ' A' H' → Post D ρ' H' f
  | .ex c v A' => XPost K cm ρ H c v A' XE
  | .no => False
end
section
variable {K : PySem.W.Frag} {cm : Nat → Addr} {ρ ρ1 : List Addr} {H H1 : L2.Hp} {XQ : Addr → L2.Hp → Prop} {Q : L2.VK} {D : L2.Ends}
theorem XPost.ext {c : Nat} {v : PV} {A' : PHp} (h : XPost K cm ρ H c v A' XQ) (x : Ext ρ H ρ1 H1) : XPost K cm ρ1 H1 c v A' XQ := fun ρ' H' a v' y r rv f => h ρ' H' a v' (x.trans y) r rv f
theorem OutV.ext {r : R PV} (h : OutV K cm ρ H XQ Q r) (x : Ext ρ H ρ1 H1) : OutV K cm ρ1 H1 XQ Q r := by
  cases r with
  | ok v A' => exact fun ρ' H' v' y rl rv => h ρ' H' v' (x.trans y) rl rv
  | ex c v A' => exact XPost.ext h x
  | no => exact h
theorem Post.def {f : Fl} : Post D ρ H f = Post D ρ H f := rfl
theorem OutS.ext {r : R Fl} (h : OutS K cm ρ H XQ D r) (x : Ext ρ H ρ1 H1) : OutS K cm ρ1 H1 XQ D r := by
  cases r with
  | ok v A' => exact fun ρ' H' y rl => h ρ' H' (x.trans y) rl
  | ex c v A' => exact XPost.ext h x
  | no => exact h
theorem Calm.ext {H' : L2.Hp} (c : Calm H H') : Ext ρ H ρ H' := ⟨List.prefix_refl _, fun a vs h => c a _ h (by intro φ z; cases z), fun a vs h => c a _ h (by intro φ z; cases z)⟩
end
section
variable {X : L2.Cx} {cm : Nat → Addr} {pins : List (Addr × Obj)} {σ : L2.St} {H : L2.Hp} {s s' : Shared}
end
section
variable {X : L2.Cx} {cm : Nat → Addr}
end
end Ws
namespace Ws
open PySem PySem.W PyProof.Rows PySem.Calls
section
variable {X : L2.Cx} {cm : Nat → Addr} {XE : Addr → L2.Hp → Prop}
end
end Ws
namespace Ws
open PySem PySem.W PyProof.Rows PySem.Calls
section
variable {P : Program} {w : World} {K : PySem.W.Frag} {mg : Str → Option Value} {base : Heap} {cm : Nat → Addr}
end
section
variable {X : L2.Cx} {cm : Nat → Addr}
end
end Ws
namespace Ws
open PySem PySem.W PyProof.Rows PySem.Calls
section
variable {X : L2.Cx} {pins : List (Addr × Obj)} {σ : L2.St} {H : L2.Hp} {s : Shared} {E : Value → Shared → Prop}
end
section
variable {M : Model} {A : Around} {E : Value → Shared → Prop} {env : Env}
end
end Ws
namespace Ws
open PySem PySem.W PyProof.Rows PySem.Calls
section
variable {X : L2.Cx} {cm : Nat → Addr} {XE : Addr → L2.Hp → Prop}
end
end Ws
namespace Ws
open PySem PySem.W PyProof.Rows PySem.Calls
section
variable {M : Model} {A : Around} {E : Value → Shared → Prop} {s : Shared}
end
section
variable {X : L2.Cx} {pins : List (Addr × Obj)} {σ : L2.St} {H : L2.Hp} {s : Shared} {a : Addr}
end
section
variable {K : PySem.W.Frag} {cm : Nat → Addr} {ρ : List Addr} {H : L2.Hp} {A : PHp} {a : Addr}
end
section
variable {X : L2.Cx} {cm : Nat → Addr}
end
end Ws
namespace Ws
open PySem PySem.W PyProof.Rows PySem.Calls
section
variable {prog : Program} {w : World} {A : Around} {E : Value → Shared → Prop} {K : PySem.W.Frag} {x C fI : Addr} {ox od : Obj} {name : Str} {h : Heap} {g : Array GenState} {d : Drawn} {t : Nat} {os : OsState}
end
end Ws
namespace Ws
open PySem PySem.W PyProof.Rows PySem.Calls
section
variable {X : L2.Cx} {cm : Nat → Addr} {pins : List (Addr × Obj)} {σ : L2.St} {H : L2.Hp} {s : Shared}
end
section
variable {X : L2.Cx} {cm : Nat → Addr}
end
end Ws
namespace Ws
open PySem PySem.W PyProof.Rows PySem.Calls
section
variable {X : L2.Cx} {cm : Nat → Addr}
end
end Ws
namespace Ws
open PySem
section
variable {X : L2.Cx} {cm : Nat → Addr}
end
end Ws
namespace Ws
open PySem
open PySem.SeqAt
section
variable {X : L2.Cx} {pins : List (Addr × Obj)} {σ : L2.St} {H : L2.Hp} {s : Shared} {ρ : List Addr} {A : Around} {cm : Nat → Addr}
end
end Ws
namespace Ws
end Ws
namespace Ws
open PySem PySem.Spec PySem.Calls PyProof.Rows
section
variable {prog : Program} {w : World} {A : Around} {E : Value → Shared → Prop} {s : Shared} {Q : Value → Shared → Prop}
theorem call_mxT {l : Addr} {its : List Value} {i : Int} {r : List Int} (hh : A.handled = none) (hl : IsTup s.heap l its.toArray) (hi : IntsAre its (i :: r))
    (h1 : ∀ t h' tk, (∀ b o, s.heap.get? b = some o → h'.get? b = some o) → Q (.int (maxI i r) t) { s with heap := h', toks := tk }) :
    wpAny (model prog w) A (call (.builtin "max") [.ref l]) Q E s := by
  have hlt : l < s.heap.objs.size := by
    exact hl.lt
  have hlen : its.toArray.size = r.length + 1 := by rw [List.size_toArray]; exact hi.length
  refine fn_tree_kw F.kind_max F.plain_max F.entry_max (F.args_max1 _) ?_
  show wpAny _ A.in1 (Builtin.Builtins.bindParams "max" ["key", "default"] 0 ⟨[], []⟩ >>= _) _ _ s
  refine (wpAny_bind (wpAny_of_eq (show Builtin.Builtins.bindParams "max" ["key", "default"] 0 ⟨[], []⟩ = pure [none, none] from by rfl) ?_))
  refine (wpAny_bind (wpAny_pure ?_))
  refine (wpAny_bind (wpAny_pyIter_tuple hl ?_))
  refine (wpAny_bind (wpAny_newObj_type ?_))
  rw [mx_name]
  have W := Walks.tuple (prog := prog) (w := w) (A := A.in1) hh s.heap.objs.size l (Nat.ne_of_lt hlt) its.toArray
  have hget : ∀ k v, its.toArray[k]? = some v → ∃ t, v = Value.int ((i :: r).getD k 0) t := by
    intro k v hv
    rw [List.getElem?_toArray] at hv
    have hil : k < (i :: r).length := by
      have := (List.getElem?_eq_some_iff.mp hv).1
      rwa [hi.length] at this
    obtain ⟨t, e1⟩ := hi.get k (i :: r)[k] (List.getElem?_eq_getElem hil)
    rw [e1] at hv
    exact ⟨t, by rw [← Option.some.inj hv, List.getD_eq_getElem?_getD, List.getElem?_eq_getElem hil]; rfl⟩
  have hsz : (s.heap.push { cls := .type "tuple_iterator", data := .fields #[.ref l, .int 0 0] }).objs.size = s.heap.objs.size + 1 := Heap.size_push ..
  have hup : maxI ((i :: r).getD 0 0) (upto (fun k => (i :: r).getD k 0) 1 (r.length + 1)) = maxI i r := by
    have : upto (fun k => (i :: r).getD k 0) 1 (r.length + 1) = r := by
      unfold upto
      refine List.ext_getElem? fun k => ?_
      rw [List.getElem?_map]
      simp only [Nat.add_sub_cancel]
      by_cases hk : k < r.length
      · rw [List.getElem?_range hk]
        simp [Nat.add_comm 1 k, hk]
      · simp [hk]
    rw [this]; rfl
  have st0 := W.frame 0 _ ((s.heap.push { cls := .type "tuple_iterator", data := .fields #[.ref l, .int 0 0] }).push { cls := .type "list", data := .seq #[] 0 }) ⟨⟨_, Heap.get?_push_size _ rfl, rfl, rfl⟩, hl.push _⟩ fun b _ o e => Heap.get?_push_of_some _ e
  refine (wpAny_pure ⟨plainId_quiet F.plain_max_loop _, mx_some (kw := []) (s := { s with heap := (s.heap.push { cls := .type "tuple_iterator", data := .fields #[.ref l, .int 0 0] }).push { cls := .type "list", data := .seq #[] 0 } }) W (fun k => (i :: r).getD k 0) hget (s.heap.push { cls := .type "tuple_iterator", data := .fields #[.ref l, .int 0 0] }).objs.size ?_ st0 (Heap.get?_push_size _ rfl) (by rw [hlen]; omega) ?_⟩)
  · rw [hsz]
    intro z
    rcases List.mem_cons.mp z with e | z
    · exact Nat.succ_ne_self _ e
    · have e := List.mem_singleton.mp z
      rw [← e] at hlt
      exact Nat.lt_irrefl _ (Nat.lt_of_succ_lt hlt)
  · intro t h2 tk k2
    rw [hlen, hup]
    refine h1 t h2 tk fun b o e => ?_
    have hb : b < s.heap.objs.size := Heap.lt_size e
    exact k2 b o (fun z => absurd (List.mem_singleton.mp z) (Nat.ne_of_lt hb)) (by rw [hsz]; exact Nat.ne_of_lt (Nat.lt_succ_of_lt hb)) (Heap.get?_push_of_some _ (Heap.get?_push_of_some _ e))
end
section
variable {X : L2.Cx} {cm : Nat → Addr}
theorem call_maxT (hcalm : X.calm = true) : L2.CallR X (.builtin "max") (fun vs H Q => ∃ (a : Addr) (i : Int) (r : List Int), vs = [.ref a] ∧ L2.SqT X.K H a ((i :: r).map L2.V.int) ∧ Q (.int (maxI i r)) H) := by
  intro pins s σ H xs us Q I r h
  obtain ⟨a, i, is, rfl, hq, q⟩ := h
  obtain ⟨u, rfl, rx⟩ := L2.vals1 r
  cases rx
  obtain ⟨its, ri, pl, hz⟩ := I.tuple hq
  exact call_mxT (I.ok.hd hcalm) pl (L2.intsAre_of ri) fun t h' tk k => ⟨.int (maxI i is), H, I.kept (t' := tk) k, ⟨t, rfl⟩, q⟩
theorem r_maxT {e : Expr} {d : ED} {p pos : Pos} (hcalm : X.calm = true) (he : L2.PE X e (EvE X.K cm d)) (hg : L2.Gl X "max") (hm : X.mg "max" = none) (hs : starEach [e] X.env = (false, eval e X.env) :: starEach [] X.env := by rfl) : L2.PE X (.Call (.Name "max" p) [e] [] pos) (EvE X.K cm (eMaxT d)) :=
  PE_imp (L2.pe_callB (call_maxT hcalm) hg hm (by rfl) (r_cons he r_nil hs) (he := hs)) fun σ H Q h => ev_one (f := fun x => match x with | .tup l => (match intsOf l with | some (i :: r) => ret (.int (maxI i r)) | _ => stuck) | _ => stuck) (fun _ => rfl) (fun ρ A H x z A' v Q rl rx ev k => by
    cases x with
    | tup l =>
      cases rx with
      | tup ha hv =>
        cases hi : intsOf l with
        | none => simp only [hi] at ev; cases ev
        | some ns =>
          simp only [hi] at ev
          cases ns with
          | nil => cases ev
          | cons i r =>
            cases ev
            rw [intsOf_inv hi] at hv
            exact ⟨_, i, r, rfl, by rw [← rvs_ints hv]; exact L2.SqT.of ha, k ρ H _ (Ext.refl _ _) rl (.int _)⟩
    | _ => cases ev) h
end
end Ws
namespace Ws
noncomputable abbrev XP := Nat → PV → PHp → Prop
noncomputable def Wp {α : Type} (m : M α) (A : PHp) (Q : α → PHp → Prop) (E : XP) : Prop := match m A with
  | .ok a A' => Q a A'
  | .ex c v A' => E c v A'
  | .no => False
noncomputable abbrev NoX : XP := fun _ _ _ => False
section
variable {α β : Type} {m : M α} {f : α → M β} {A A' A1 B : PHp} {a : α} {E E' : XP} {σ σ' : PSt}
theorem w_eq {Q : α → PHp → Prop} (h : m A = .ok a A') (q : Q a A') : Wp m A Q E := by unfold Wp; rw [h]; exact q
theorem w_inv {Q : α → PHp → Prop} (h : Wp m A Q NoX) : ∃ a A', m A = .ok a A' ∧ Q a A' := by
  unfold Wp at h
  cases e : m A with
  | ok a A' => rw [e] at h; exact ⟨a, A', rfl, h⟩
  | ex c v A' => rw [e] at h; exact h.elim
  | no => rw [e] at h; exact h.elim
theorem w_mono2 {Q Q' : α → PHp → Prop} (h : Wp m A Q E) (hq : ∀ a A', Q a A' → Q' a A') (he : ∀ c v A', E c v A' → E' c v A') : Wp m A Q' E' := by
  unfold Wp at h ⊢
  cases e : m A with
  | ok a A' => rw [e] at h; exact hq _ _ h
  | ex c v A' => rw [e] at h; exact he _ _ _ h
  | no => rw [e] at h; exact h.elim
theorem w_mono {Q Q' : α → PHp → Prop} (h : Wp m A Q E) (hq : ∀ a A', Q a A' → Q' a A') : Wp m A Q' E := w_mono2 h hq fun _ _ _ z => z
theorem w_ret {Q : α → PHp → Prop} (q : Q a A) : Wp (ret a) A Q E := q
theorem w_bnd {Q : β → PHp → Prop} (h : Wp m A (fun a A1 => Wp (f a) A1 Q E) E) : Wp (bnd m f) A Q E := by
  unfold Wp at h ⊢
  unfold bnd
  cases e : m A with
  | ok a A' => rw [e] at h; exact h
  | ex c v A' => rw [e] at h; exact h
  | no => rw [e] at h; exact h
theorem w_guard {P : Prop} {Q : α → PHp → Prop} (p : P) (h : Wp m A Q E) : Wp (guard P m) A Q E := by rw [guard_pos p]; exact h
variable {Q : PV → PHp → Prop} {e e1 e2 e3 : ED} {es : AD} {v x y : PV} {i j : Int} {k n : Nat} {l : List PV}
theorem w_var (h : σ[k]? = some (some v)) (q : Q v A) : Wp (eVar k σ) A Q E := w_eq (a := v) (by show (eVar k σ) A = _; unfold eVar; rw [h]; rfl) q
theorem w_k (q : Q v A) : Wp (eK v σ) A Q E := q
theorem w_nil {Q : List PV → PHp → Prop} (q : Q [] A) : Wp (aNil σ) A Q E := q
theorem w_cons {Q : List PV → PHp → Prop} (h : Wp (e σ) A (fun x A1 => Wp (es σ) A1 (fun xs A2 => Q (x :: xs) A2) E) E) : Wp (aCons e es σ) A Q E :=
  w_bnd (w_mono h fun _ _ h1 => w_bnd (w_mono h1 fun _ _ h2 => h2))
theorem w_tup (h : Wp (es σ) A (fun xs A1 => xs.length ≤ LIM ∧ Q (.tup xs) A1) E) : Wp (eTup es σ) A Q E := w_bnd (w_mono h fun _ _ ⟨h1, h2⟩ => w_guard h1 h2)
theorem w_lst (h : Wp (es σ) A (fun xs A1 => xs.length ≤ LIM ∧ Q (.ref A1.length) (A1 ++ [.lst xs])) E) : Wp (eLst es σ) A Q E := w_bnd (w_mono h fun _ _ ⟨h1, h2⟩ => w_guard h1 h2)
theorem w_bin {f : OD} (h : Wp (e1 σ) A (fun x A1 => Wp (e2 σ) A1 (fun y A2 => Wp (f x y) A2 Q E) E) E) : Wp (eBin f e1 e2 σ) A Q E := w_bnd (w_mono h fun _ _ h1 => w_bnd h1)
theorem w_add (q : Q (.int (i + j)) A) : Wp (oAdd (.int i) (.int j)) A Q E := q
theorem w_mut {Q : List PV → PHp → Prop} (h : A[n]? = some (.lst l)) (q : Q l A) : Wp (mutAt n) A Q E := w_eq (mutAt_lst h) q
theorem w_addL {n k : Nat} {l m : List PV} (hn : A[n]? = some (.lst l)) (hk : A[k]? = some (.lst m)) (hl : l.length + m.length ≤ LIM) (q : Q (.ref A.length) (A ++ [.lst (l ++ m)])) : Wp (oAdd (.ref n) (.ref k)) A Q E :=
  w_bnd (w_mut hn (w_bnd (w_mut hk (w_guard hl q))))
theorem w_mod (h : 0 < j) (q : Q (.int (i % j)) A) : Wp (oMod (.int i) (.int j)) A Q E := w_guard h q
theorem w_lt (q : Q (.bl (decide (i < j))) A) : Wp (oLt (.int i) (.int j)) A Q E := q
theorem w_eqI (q : Q (.bl (decide (i = j))) A) : Wp (oEq (.int i) (.int j)) A Q E := w_bnd (w_guard (.inr ⟨rfl, rfl⟩) q)
theorem w_neI (q : Q (.bl (!decide (i = j))) A) : Wp (oNe (.int i) (.int j)) A Q E := w_bnd (w_guard (.inr ⟨rfl, rfl⟩) q)
theorem w_eqB {b c : Bool} (q : Q (.bl (b == c)) A) : Wp (oEq (.bl b) (.bl c)) A Q E := w_bnd (w_guard (.inl rfl) q)
theorem w_eqT {l m : List PV} (h : plain (.tup l) = true ∧ plain (.tup m) = true) (q : Q (.bl (eqvs l m)) A) : Wp (oEq (.tup l) (.tup m)) A Q E := w_bnd (w_guard (.inr h) q)
theorem w_neT {l m : List PV} (h : plain (.tup l) = true ∧ plain (.tup m) = true) (q : Q (.bl (!eqvs l m)) A) : Wp (oNe (.tup l) (.tup m)) A Q E := w_bnd (w_guard (.inr h) q)
theorem w_eqP (hx : plain x = true) (hy : plain y = true) (q : Q (.bl (eqv x y)) A) : Wp (oEq x y) A Q E := by
  cases x with
  | ref n => cases hx
  | _ => exact w_bnd (w_guard (.inr ⟨hx, hy⟩) q)
theorem w_neP (hx : plain x = true) (hy : plain y = true) (q : Q (.bl (!eqv x y)) A) : Wp (oNe x y) A Q E := by
  cases x with
  | ref n => cases hx
  | _ => exact w_bnd (w_guard (.inr ⟨hx, hy⟩) q)
theorem w_lstAt {Q : List PV → PHp → Prop} (h : A[n]? = some (.lst l)) (q : Q l A) : Wp (lstAt n) A Q E := w_eq (lstAt_lst h) q
theorem w_inL (hn : A[n]? = some (.lst l)) (hp : plain x = true ∧ plains l = true) (q : Q (.bl (pIn x l)) A) : Wp (oIn x (.ref n)) A Q E := w_bnd (w_lstAt hn (w_guard hp q))
theorem w_notInL (hn : A[n]? = some (.lst l)) (hp : plain x = true ∧ plains l = true) (q : Q (.bl (!pIn x l)) A) : Wp (oNotIn x (.ref n)) A Q E := w_bnd (w_lstAt hn (w_guard hp q))
theorem w_isN (h : Wp (e σ) A (fun x A1 => Q (.bl (isNon x)) A1) E) : Wp (eIsN e σ) A Q E := w_bnd h
theorem w_notN (h : Wp (e σ) A (fun x A1 => Q (.bl (!isNon x)) A1) E) : Wp (eNotN e σ) A Q E := w_bnd h
variable {QB : Bool → PHp → Prop} {t t1 t2 : TD} {b : Bool}
theorem w_true (q : QB true A) : Wp (tTrue σ) A QB E := q
theorem w_tval (h : Wp (e σ) A (fun x A1 => ∃ b, x = .bl b ∧ QB b A1) E) : Wp (tVal e σ) A QB E := w_bnd (w_mono h fun x A1 ⟨b, hx, q⟩ => by subst hx; exact q)
theorem w_tand (h : Wp (t1 σ) A (fun b A1 => (b = true → Wp (t2 σ) A1 QB E) ∧ (b = false → QB false A1)) E) : Wp (tAnd t1 t2 σ) A QB E := w_bnd (w_mono h fun b A1 ⟨h1, h2⟩ => by
  cases b with
  | true => exact h1 rfl
  | false => exact h2 rfl)
theorem w_tor (h : Wp (t1 σ) A (fun b A1 => (b = true → QB true A1) ∧ (b = false → Wp (t2 σ) A1 QB E)) E) : Wp (tOr t1 t2 σ) A QB E := w_bnd (w_mono h fun b A1 ⟨h1, h2⟩ => by
  cases b with
  | true => exact h1 rfl
  | false => exact h2 rfl)
theorem w_tnot (h : Wp (t σ) A (fun b A1 => QB (!b) A1) E) : Wp (tNot t σ) A QB E := w_bnd h
theorem w_and (h : Wp (e1 σ) A (fun x A1 => ∃ b, x = .bl b ∧ ((b = true → Wp (e2 σ) A1 Q E) ∧ (b = false → Q (.bl false) A1))) E) : Wp (eAnd e1 e2 σ) A Q E := w_bnd (w_bnd (w_mono h fun x A1 ⟨b, hx, h1, h2⟩ => by
  subst hx
  cases b with
  | true => exact h1 rfl
  | false => exact h2 rfl))
theorem w_ixL (hn : A[n]? = some (.lst l)) (hi : atI l i = some v) (q : Q v A) : Wp (oIx (.ref n) (.int i)) A Q E := w_bnd (w_lstAt hn (by rw [hi]; exact q))
theorem w_ixT (hi : atI l i = some v) (q : Q v A) : Wp (oIx (.tup l) (.int i)) A Q E := by
  refine w_eq (a := v) (A' := A) ?_ q
  simp [hi]
theorem w_len (h : Wp (e σ) A (fun x A1 => Wp (seqOf x) A1 (fun l A2 => Q (.int l.length) A2) E) E) : Wp (eLen e σ) A Q E := w_bnd (w_mono h fun _ _ h1 => w_bnd h1)
theorem w_seqT {Q : List PV → PHp → Prop} (q : Q l A) : Wp (seqOf (.tup l)) A Q E := q
variable {QO : Option Int → PHp → Prop} {lo hi : LD}
theorem w_lno (q : QO none A) : Wp (lNo σ) A QO E := q
theorem w_lat (h : Wp (e σ) A (fun x A1 => ∃ i, x = .int i ∧ QO (some i) A1) E) : Wp (lAt e σ) A QO E := w_bnd (w_mono h fun x A1 ⟨i, hx, q⟩ => by subst hx; exact q)
theorem w_cut (h : Wp (e σ) A (fun x A1 => Wp (lo σ) A1 (fun l A2 => Wp (hi σ) A2 (fun h A3 => (∃ n xs, x = .ref n ∧ lstAt n A3 = .ok xs A3 ∧ Q (.ref A3.length) (A3 ++ [.lst (cut xs l h)])) ∨
    ∃ xs, x = .tup xs ∧ ¬ (cutIx xs.length 0 l = 0 ∧ cutIx xs.length xs.length h = xs.length) ∧ Q (.tup (cut xs l h)) A3) E) E) E) : Wp (eCut e lo hi σ) A Q E :=
  w_bnd (w_mono h fun _ _ h1 => w_bnd (w_mono h1 fun _ _ h2 => w_bnd (w_mono h2 fun _ _ h3 => by
    rcases h3 with ⟨n, xs, rfl, hn, q⟩ | ⟨xs, rfl, hn, q⟩
    · exact w_bnd (w_eq hn q)
    · exact w_guard hn q)))
theorem blsOf_map : ∀ bs : List Bool, blsOf (bs.map PV.bl) = some bs
  | [] => rfl
  | b :: r => by rw [List.map_cons]; show (blsOf (r.map PV.bl)).map (b :: ·) = _; rw [blsOf_map r]; rfl
theorem w_all (h : Wp (e σ) A (fun x A1 => ∃ (n : Nat) (bs : List Bool), x = .ref n ∧ A1[n]? = some (.lst (bs.map PV.bl)) ∧ Q (.bl (bs.all id)) A1) E) : Wp (eAll e σ) A Q E := w_bnd (w_mono h fun x A1 ⟨n, bs, hx, h1, q⟩ => by
  subst hx
  refine w_bnd (w_lstAt h1 ?_)
  rw [blsOf_map]; exact q)
theorem w_lenSet2 (h : Wp (e σ) A (fun x A1 => Wp (seqOf x) A1 (fun l A2 => ∃ ns, l = ns.map PV.int ∧ ns.length < 1000 ∧ Q (.int (cntI ns)) A2) E) E) : Wp (eLenSet2 e σ) A Q E := w_bnd (w_mono h fun x A1 h1 => w_bnd (w_mono h1 fun l A2 ⟨ns, hl, h2, q⟩ => by
  subst hl
  rw [intsOf_map]
  exact w_guard h2 q))
theorem w_append {e1 e2 : ED} (h : Wp (e1 σ) A (fun x A1 => ∃ n l, x = .ref n ∧ A1[n]? = some (.lst l) ∧ Wp (e2 σ) A1 (fun v A2 => ∃ l2, A2[n]? = some (.lst l2) ∧ l2.length < LIM ∧ Q .non (A2.set n (.lst (l2 ++ [v])))) E) E) : Wp (eAppend e1 e2 σ) A Q E :=
  w_bnd (w_mono h fun x A1 ⟨n, l, hx, h1, h2⟩ => by
    subst hx
    exact w_bnd (w_mut h1 (w_bnd (w_mono h2 fun v A2 ⟨l2, h3, h4, q⟩ => w_bnd (w_mut h3 (w_guard h4 q))))))
theorem w_fld (h : Wp (e σ) A (fun x A1 => ∃ n c fs v, x = .ref n ∧ A1[n]? = some (.ins c fs) ∧ getFld k fs = some v ∧ Q v A1) E) : Wp (eFld e k σ) A Q E :=
  w_bnd (w_mono h fun x A1 ⟨n, c, fs, v, hx, h1, h2, q⟩ => by
    subst hx
    refine w_bnd (w_eq (a := (c, fs)) (A' := A1) (by show insAt n A1 = _; unfold insAt; rw [h1]) ?_)
    show Wp (match getFld k fs with | some v => _ | none => _) _ _ _
    rw [h2]; exact q)
theorem w_call {f : Fun} (h : Wp (es σ) A (fun vs A1 => Wp (f vs) A1 Q E) E) : Wp (eCall f es σ) A Q E := w_bnd h
theorem w_meth {c : Nat} {f : Fun} (h : Wp (e σ) A (fun x A1 => ∃ n fs, x = .ref n ∧ A1[n]? = some (.ins c fs) ∧ Wp (es σ) A1 (fun vs A2 => Wp (f (.ref n :: vs)) A2 Q E) E) E) : Wp (eMeth c f e es σ) A Q E :=
  w_bnd (w_mono h fun x A1 ⟨n, fs, hx, h1, h2⟩ => by
    subst hx
    exact w_bnd (w_eq (a := (c, fs)) (A' := A1) (by show insAt n A1 = _; unfold insAt; rw [h1]) (w_guard rfl (w_bnd h2))))
theorem w_make {c : Nat} {f : Fun} (h : Wp (es σ) A (fun vs A1 => Wp (f (.ref A1.length :: vs)) (A1 ++ [.ins c []]) (fun _ A2 => Q (.ref A1.length) A2) E) E) : Wp (eMake c f es σ) A Q E :=
  w_bnd (w_mono h fun vs A1 h1 => w_bnd (w_eq (a := .ref A1.length) (A' := A1 ++ [.ins c []]) rfl (w_bnd h1)))
variable {QF : Fl → PHp → Prop} {s s1 s2 : SD} {g : GD} {QS : PSt → PHp → Prop}
theorem w_pass (q : QF (.nx σ) A) : Wp (sPass σ) A QF E := q
theorem w_seq (h : Wp (s1 σ) A (fun o A1 => match o with | .nx σ' => Wp (s2 σ') A1 QF E | o => QF o A1) E) : Wp (sSeq s1 s2 σ) A QF E := w_bnd (w_mono h fun o A1 h1 => by
  cases o with
  | nx σ' => exact h1
  | _ => exact h1)
theorem w_exp (h : Wp (e σ) A (fun _ A1 => QF (.nx σ) A1) E) : Wp (sExpr e σ) A QF E := w_bnd h
theorem w_retS (h : Wp (e σ) A (fun v A1 => QF (.rt v) A1) E) : Wp (sRet e σ) A QF E := w_bnd h
theorem w_if (h : Wp (t σ) A (fun b A1 => (b = true → Wp (s1 σ) A1 QF E) ∧ (b = false → Wp (s2 σ) A1 QF E)) E) : Wp (sIf t s1 s2 σ) A QF E := w_bnd (w_mono h fun b A1 ⟨h1, h2⟩ => by
  cases b with
  | true => exact h1 rfl
  | false => exact h2 rfl)
theorem w_asg (h : Wp (e σ) A (fun v A1 => Wp (g v σ) A1 (fun σ' A2 => QF (.nx σ') A2) E) E) : Wp (sAsg e g σ) A QF E := w_bnd (w_mono h fun _ _ h1 => w_bnd h1)
theorem w_gname (q : QS (σ.set k (some v)) A) : Wp (gName k v σ) A QS E := q
theorem w_gnil (q : QS σ A) : Wp (gNil [] σ) A QS E := q
theorem w_gcons {r : GDs} {vs : List PV} (h : Wp (g v σ) A (fun σ' A1 => Wp (r vs σ') A1 QS E) E) : Wp (gCons g r (v :: vs) σ) A QS E := w_bnd h
theorem w_gtup {r : GDs} (hl : l.length = n) (h : Wp (r l σ) A QS E) : Wp (gTup n r (.tup l) σ) A QS E := w_guard hl h
theorem w_fn {n p : Nat} {vs : List PV} (hl : vs.length = p) (h : Wp (s (start n vs)) A (fun o A1 => match o with | .rt v => Q v A1 | .nx _ => Q .non A1 | _ => False) E) : Wp (fn n p s vs) A Q E :=
  w_guard hl (w_bnd (w_mono h fun o A1 h1 => by
    cases o with
    | rt v => exact h1
    | nx σ' => exact h1
    | bk σ' => exact h1.elim
    | ct σ' => exact h1.elim))
noncomputable abbrev TurnQ (P : PSt → PHp → Prop) (QF : Fl → PHp → Prop) : Fl → PHp → Prop := fun o A => match o with
  | .nx σ => P σ A
  | .ct σ => P σ A
  | .bk σ => QF (.nx σ) A
  | .rt v => QF (.rt v) A
theorem w_turns {J : It} {n : Nat} (P : Nat → PSt → PHp → Prop) (hend : ∀ σ A, P n σ A → item J n A = .ok none A ∧ QF (.nx σ) A)
    (hs : ∀ i σ A, i < n → P i σ A → ∃ v, item J i A = .ok (some v) A ∧ Wp (g v σ) A (fun σ1 A1 => Wp (s σ1) A1 (TurnQ (P (i + 1)) QF) E) E) :
    ∀ k i σ A, i + k = n → P i σ A → ∀ m, k < m → Wp (turns J g s m i σ) A QF E
  | _, _, _, _, _, _, 0, hm => absurd hm (Nat.not_lt_zero _)
  | 0, i, σ, A, e, h, m + 1, hm => by
    obtain rfl : i = n := by omega
    obtain ⟨h1, h2⟩ := hend σ A h
    rw [turns_succ]
    exact w_bnd (w_eq h1 h2)
  | k + 1, i, σ, A, e, h, m + 1, hm => by
    obtain ⟨v, hv, t⟩ := hs i σ A (by omega) h
    rw [turns_succ]
    refine w_bnd (w_eq hv ?_)
    refine w_bnd (w_mono t fun σ1 A1 h1 => w_bnd (w_mono h1 fun o A2 h2 => ?_))
    cases o with
    | nx σ2 => exact w_turns P hend hs k (i + 1) σ2 A2 (by omega) h2 m (by omega)
    | ct σ2 => exact w_turns P hend hs k (i + 1) σ2 A2 (by omega) h2 m (by omega)
    | bk σ2 => exact h2
    | rt v => exact h2
theorem w_forR {it : ID} (P : Nat → PSt → PHp → Prop) (h : Wp (it σ) A (fun J A1 => ∃ lo n, J = .rng lo n ∧ P 0 σ A1 ∧ (∀ (i : Nat) σ B, i < n → P i σ B → Wp (g (.int (lo + i)) σ) B (fun σ1 B1 => Wp (s σ1) B1 (TurnQ (P (i + 1)) QF) E) E) ∧ ∀ σ B, P n σ B → QF (.nx σ) B) E) :
    Wp (sFor it g s σ) A QF E := w_bnd (w_mono h fun J A1 ⟨lo, n, hJ, h0, hs, he⟩ => by
  subst hJ
  exact w_bnd (w_ret (w_turns P (fun σ B hP => ⟨by simp, he σ B hP⟩) (fun i σ B hi hP => ⟨_, by simp [hi], hs i σ B hi hP⟩) n 0 σ A1 (by omega) h0 (n + 1) (Nat.lt_succ_self _))))
theorem w_forL {it : ID} (P : Nat → PSt → PHp → Prop) (h : Wp (it σ) A (fun J A1 => ∃ a l, J = .lst a ∧ P 0 σ A1 ∧ (∀ i σ B, P i σ B → lstAt a B = .ok l B) ∧ (∀ (i : Nat) v σ B, l[i]? = some v → P i σ B → Wp (g v σ) B (fun σ1 B1 => Wp (s σ1) B1 (TurnQ (P (i + 1)) QF) E) E) ∧ ∀ σ B, P l.length σ B → QF (.nx σ) B) E) :
    Wp (sFor it g s σ) A QF E := w_bnd (w_mono h fun J A1 ⟨a, l, hJ, h0, hl, hs, he⟩ => by
  subst hJ
  refine w_bnd (w_bnd (w_eq (hl 0 σ A1 h0) (w_ret ?_)))
  refine w_turns P (fun σ B hP => ⟨by show bnd (lstAt a) _ B = _; rw [bnd_ok (hl _ σ B hP)]; simp, he σ B hP⟩) (fun i σ B hi hP => ?_) l.length 0 σ A1 (by omega) h0 (l.length + 1) (Nat.lt_succ_self _)
  exact ⟨l[i], by show bnd (lstAt a) _ B = _; rw [bnd_ok (hl _ σ B hP), List.getElem?_eq_getElem hi]; rfl, hs i l[i] σ B (List.getElem?_eq_getElem hi) hP⟩)
theorem w_wturns (P : Nat → PSt → PHp → Prop) (hs : ∀ m σ A, P m σ A → Wp (t σ) A (fun b A1 => (b = true → Wp (s σ) A1 (TurnQ (fun σ' A' => ∃ m', m' < m ∧ P m' σ' A') QF) E) ∧ (b = false → QF (.nx σ) A1)) E) :
    ∀ f m σ A, m < f → P m σ A → Wp (wturns t s f σ) A QF E
  | 0, m, σ, A, hm, _ => absurd hm (by omega)
  | f + 1, m, σ, A, hm, h => by
    rw [wturns_succ]
    refine w_bnd (w_mono (hs m σ A h) fun b A1 ⟨h1, h2⟩ => ?_)
    cases b with
    | false => exact h2 rfl
    | true =>
      refine w_bnd (w_mono (h1 rfl) fun o A2 h3 => ?_)
      cases o with
      | nx σ2 => obtain ⟨m', hm', h4⟩ := h3; exact w_wturns P hs f m' σ2 A2 (by omega) h4
      | ct σ2 => obtain ⟨m', hm', h4⟩ := h3; exact w_wturns P hs f m' σ2 A2 (by omega) h4
      | bk σ2 => exact h3
      | rt v => exact h3
theorem w_while (P : Nat → PSt → PHp → Prop) {m : Nat} (hm : m < 10000) (h0 : P m σ A) (hs : ∀ m σ A, P m σ A → Wp (t σ) A (fun b A1 => (b = true → Wp (s σ) A1 (TurnQ (fun σ' A' => ∃ m', m' < m ∧ P m' σ' A') QF) E) ∧ (b = false → QF (.nx σ) A1)) E) :
    Wp (sWhile t s σ) A QF E := w_wturns P hs LIM m σ A (lim_lt hm) h0
theorem w_cturns {J : It} {g : GD} {t : TD} {e : ED} {l : List PV} {QL : List PV → PHp → Prop} (P : Nat → List PV → PSt → PHp → Prop) (hit : ∀ i acc σ B, P i acc σ B → item J i B = .ok l[i]? B)
    (hs : ∀ i v acc σ B, l[i]? = some v → P i acc σ B → Wp (g v σ) B (fun σ1 B1 => Wp (t σ1) B1 (fun c B2 => (c = true → Wp (e σ1) B2 (fun y B3 => P (i + 1) (acc ++ [y]) σ1 B3) E) ∧ (c = false → P (i + 1) acc σ1 B2)) E) E)
    (he : ∀ acc σ B, P l.length acc σ B → QL acc B) : ∀ k i acc σ B, i ≤ l.length → l.length < i + k → P i acc σ B → Wp (cturns J g t e k i σ) B (fun ys B' => QL (acc ++ ys) B') E
  | 0, i, acc, σ, B, h1, h2, _ => absurd h2 (by omega)
  | k + 1, i, acc, σ, B, h1, h2, h => by
    rw [cturns_succ]
    refine w_bnd (w_eq (hit i acc σ B h) ?_)
    cases hv : l[i]? with
    | none =>
      have : l.length = i := by have := List.getElem?_eq_none_iff.mp hv; omega
      subst this
      show QL (acc ++ []) B
      rw [List.append_nil]; exact he acc σ B h
    | some v =>
      have hi := (List.getElem?_eq_some_iff.mp hv).1
      refine w_bnd (w_mono (hs i v acc σ B hv h) fun σ1 B1 h3 => w_bnd (w_mono h3 fun c B2 ⟨h4, h5⟩ => ?_))
      cases c with
      | true =>
        refine w_bnd (w_mono (h4 rfl) fun y B3 h6 => w_bnd (w_mono (w_cturns P hit hs he k (i + 1) (acc ++ [y]) σ1 B3 hi (by omega) h6) fun ys B4 h7 => ?_))
        show QL (acc ++ (y :: ys)) B4
        rw [show acc ++ (y :: ys) = acc ++ [y] ++ ys by simp]; exact h7
      | false => exact w_cturns P hit hs he k (i + 1) acc σ1 B2 hi (by omega) (h5 rfl)
theorem w_comp {it : ID} {mk : PSt → PSt} {g : GD} {t : TD} {e : ED} (h : Wp (it σ) A (fun J A1 => ∃ (l : List PV) (n : Nat) (P : Nat → List PV → PSt → PHp → Prop), fuelOf J A1 = .ok n A1 ∧ l.length ≤ n ∧ P 0 [] (mk σ) A1 ∧ (∀ i acc σ B, P i acc σ B → item J i B = .ok l[i]? B) ∧
    (∀ i v acc σ B, l[i]? = some v → P i acc σ B → Wp (g v σ) B (fun σ1 B1 => Wp (t σ1) B1 (fun c B2 => (c = true → Wp (e σ1) B2 (fun y B3 => P (i + 1) (acc ++ [y]) σ1 B3) E) ∧ (c = false → P (i + 1) acc σ1 B2)) E) E) ∧
    ∀ acc σ B, P l.length acc σ B → acc.length ≤ LIM ∧ Q (.ref B.length) (B ++ [.lst acc])) E) : Wp (eComp it mk g t e σ) A Q E :=
  w_bnd (w_mono h fun J A1 ⟨l, n, P, hf, hn, h0, hit, hs, he⟩ => w_bnd (w_eq hf (w_bnd (w_mono (w_cturns P hit hs (QL := fun acc B => acc.length ≤ LIM ∧ Q (.ref B.length) (B ++ [.lst acc])) he (n + 1) 0 [] (mk σ) A1 (Nat.zero_le _) (by omega) h0) fun ys B h12 => by
    obtain ⟨h1, h2⟩ := h12
    rw [List.nil_append] at h1 h2
    exact w_guard h1 h2))))
theorem w_compP {it : ID} {mk : PSt → PSt} {g : GD} {t : TD} {e : ED} {l : List PV} (S : PSt → Prop) (p : PV → Bool) (f : PV → PV) (h : Wp (it σ) A (fun J A1 => ∃ n, fuelOf J A1 = .ok n A1 ∧ l.length ≤ n ∧ l.length ≤ LIM ∧ S (mk σ) ∧ (∀ i, item J i A1 = .ok l[i]? A1) ∧
    (∀ v σ, v ∈ l → S σ → Wp (g v σ) A1 (fun σ1 B1 => B1 = A1 ∧ S σ1 ∧ Wp (t σ1) A1 (fun c B2 => B2 = A1 ∧ c = p v ∧ (c = true → Wp (e σ1) A1 (fun y B3 => B3 = A1 ∧ y = f v) E)) E) E) ∧
    Q (.ref A1.length) (A1 ++ [.lst ((l.filter p).map f)])) E) : Wp (eComp it mk g t e σ) A Q E :=
  w_comp (w_mono h fun J A1 ⟨n, hf, hn, hL, h0, hit, hs, he⟩ => ⟨l, n, fun i acc σ B => B = A1 ∧ S σ ∧ acc = ((l.take i).filter p).map f, hf, hn, ⟨rfl, h0, by simp⟩, fun i acc σ B ⟨h1, _⟩ => by rw [h1]; exact hit i, fun i v acc σ B hv ⟨h1, h2, h3⟩ => by
    subst h1
    refine w_mono (hs v σ (List.mem_of_getElem? hv) h2) fun σ1 B1 ⟨e1, h4, h5⟩ => ?_
    subst e1
    refine w_mono h5 fun c B2 ⟨e2, h6, h7⟩ => ?_
    subst e2
    have tk : l.take (i + 1) = l.take i ++ [v] := by rw [List.take_succ, hv]; rfl
    refine ⟨fun hc => w_mono (h7 hc) fun y B3 ⟨e3, h8⟩ => ⟨e3, h4, ?_⟩, fun hc => ⟨rfl, h4, ?_⟩⟩
    · rw [tk, List.filter_append, List.map_append, h3, h8, List.filter_cons_of_pos (by rw [← h6]; exact hc)]; rfl
    · rw [tk, List.filter_append, List.map_append, h3, List.filter_cons_of_neg (by rw [← h6, hc]; simp)]; simp, fun acc σ B ⟨h1, _, h3⟩ => by
    subst h1
    rw [List.take_of_length_le (Nat.le_refl _)] at h3
    subst h3
    exact ⟨by rw [List.length_map]; exact Nat.le_trans (List.length_filter_le _ _) hL, he⟩⟩)
theorem item_rng (n i : Nat) : item (.rng 0 n) i A = .ok ((List.range n).map fun (k : Nat) => PV.int (k : Int))[i]? A := by
  by_cases hi : i < n <;> simp [hi]
noncomputable def zipP : List PV → List PV → List PV
  | x :: xs, y :: ys => .tup [x, y] :: zipP xs ys
  | _, _ => []
theorem zipP_at : ∀ (l m : List PV) (i : Nat), (match l[i]?, m[i]? with | some u, some v => some (.tup [u, v]) | _, _ => none) = (zipP l m)[i]?
  | [], m, i => by simp [zipP]
  | x :: xs, [], i => by cases h : (x :: xs)[i]? <;> simp [zipP]
  | x :: xs, y :: ys, 0 => by simp [zipP]
  | x :: xs, y :: ys, i + 1 => by simpa [zipP] using zipP_at xs ys i
theorem item_zipT (l m : List PV) (i : Nat) : item (.zip (.tup l) (.tup m)) i A = .ok (zipP l m)[i]? A := by
  rw [← zipP_at]; rfl
theorem atn {α : Type} {xs : List α} {j : Nat} (h : j < xs.length) : atI xs (j : Int) = some xs[j] := by
  unfold atI ixN
  rw [if_pos (by omega), if_pos (by omega)]
  simp [h]
theorem atm {xs : List Int} {j : Nat} (h : j < xs.length) : atI (xs.map PV.int) (j : Int) = some (.int xs[j]) := by
  rw [atn (by simpa using h)]; simp
theorem atl {xs : List Int} {i : Int} (h : 0 ≤ i ∧ i < xs.length) : atI (xs.map PV.int) i = some (.int (xs.getD i.toNat 0)) := by
  obtain ⟨j, rfl⟩ : ∃ j : Nat, i = j := ⟨i.toNat, by omega⟩
  have hj : j < xs.length := by omega
  rw [atm hj]; simp [hj]
end
noncomputable def pv (p : Int × Int) : PV := .tup [.int p.1, .int p.2]
noncomputable def pvs (ps : List (Int × Int)) : List PV := ps.map pv
theorem pv_plain (p : Int × Int) : plain (pv p) = true := rfl
theorem pvs_plain (ps : List (Int × Int)) : plains (pvs ps) = true := by
  rw [plains_iff]; intro x hx; obtain ⟨p, _, rfl⟩ := List.mem_map.mp hx; rfl
theorem pv_inj {p q : Int × Int} (h : pv p = pv q) : p = q := by
  obtain ⟨a, b⟩ := p; obtain ⟨c, d⟩ := q
  simp [pv] at h; simp [h]
theorem pIn_pvs (p : Int × Int) (ps : List (Int × Int)) : pIn (pv p) (pvs ps) = decide (p ∈ ps) := by
  induction ps with
  | nil => simp [pIn, pvs]
  | cons q r ih =>
    have e : eqv (pv q) (pv p) = decide (q = p) := by
      by_cases h : q = p
      · subst h; simp [(eqv_iff (pv q) (pv q) rfl).mpr rfl]
      · have : ¬ eqv (pv q) (pv p) = true := fun z => h (pv_inj ((eqv_iff _ _ rfl).mp z))
        simp [h, this]
    show (eqv (pv q) (pv p) || pIn (pv p) (pvs r)) = _
    rw [ih, e]
    by_cases h : q = p <;> by_cases h2 : p ∈ r <;> simp [h, h2]
    intro z; exact h z.symm
theorem mem_pvs {ps : List (Int × Int)} {v : PV} (h : v ∈ pvs ps) : ∃ p ∈ ps, v = pv p := by
  obtain ⟨p, hp, rfl⟩ := List.mem_map.mp h; exact ⟨p, hp, rfl⟩
noncomputable def fst1 : PV → Int
  | .tup [.int a, .int b] => a
  | _ => 0
noncomputable def snd1 : PV → Int
  | .tup [.int a, .int b] => b
  | _ => 0
@[simp] theorem fst1_pv (p : Int × Int) : fst1 (pv p) = p.1 := rfl
@[simp] theorem snd1_pv (p : Int × Int) : snd1 (pv p) = p.2 := rfl
theorem pIn_int (x : Int) (M : List Int) : pIn (.int x) (M.map .int) = decide (x ∈ M) := by
  induction M with
  | nil => rfl
  | cons a r ih =>
    have : pIn (.int x) ((a :: r).map .int) = (eqv (.int a) (.int x) || pIn (.int x) (r.map .int)) := rfl
    rw [this, ih]
    show (decide (a = x) || decide (x ∈ r)) = _
    by_cases h : a = x
    · subst h; simp
    · have h' : ¬ x = a := fun z => h z.symm
      simp [h, h']
section
variable {A : PHp} {Q : PV → PHp → Prop} {E : XP} {n : Nat} {x a b : Int} {M : List Int} {ps : List (Int × Int)}
theorem w_inI (hn : A[n]? = some (.lst (M.map .int))) (q : Q (.bl (decide (x ∈ M))) A) : Wp (oIn (.int x) (.ref n)) A Q E := w_inL hn ⟨rfl, plains_ints _⟩ (by rw [pIn_int]; exact q)
theorem w_notInI (hn : A[n]? = some (.lst (M.map .int))) (q : Q (.bl (!decide (x ∈ M))) A) : Wp (oNotIn (.int x) (.ref n)) A Q E := w_notInL hn ⟨rfl, plains_ints _⟩ (by rw [pIn_int]; exact q)
theorem w_inP (hn : A[n]? = some (.lst (pvs ps))) (q : Q (.bl (decide ((a, b) ∈ ps))) A) : Wp (oIn (.tup [.int a, .int b]) (.ref n)) A Q E := w_inL hn ⟨rfl, pvs_plain _⟩ (by rw [show PV.tup [.int a, .int b] = pv (a, b) from rfl, pIn_pvs]; exact q)
theorem plain_ints (l : List Int) : plain (.tup (l.map .int)) = true := by
  show (l.map PV.int).all flat2 = true
  rw [List.all_eq_true]; intro x hx; obtain ⟨y, _, rfl⟩ := List.mem_map.mp hx; rfl
theorem eqvs_ints (l m : List Int) : eqvs (l.map .int) (m.map .int) = decide (l = m) := by
  have h := eqvs_iff (l.map .int) (m.map .int) (plains_ints _)
  have inj : l.map PV.int = m.map PV.int ↔ l = m := ⟨fun z => by
    have := congrArg intsOf z
    rw [intsOf_map, intsOf_map] at this
    exact Option.some.inj this, fun z => by rw [z]⟩
  cases e : eqvs (l.map .int) (m.map .int) with
  | true => exact (decide_eq_true (inj.mp (h.mp e))).symm
  | false => exact (decide_eq_false fun z => by rw [h.mpr (inj.mpr z)] at e; cases e).symm
theorem w_eqT0 {l : List Int} (q : Q (.bl (decide (l = []))) A) : Wp (oEq (.tup (l.map .int)) (.tup [])) A Q E := w_eqT ⟨plain_ints _, rfl⟩ (by rw [show ([] : List PV) = ([] : List Int).map .int from rfl, eqvs_ints]; exact q)
theorem w_neT0 {l : List Int} (q : Q (.bl (!decide (l = []))) A) : Wp (oNe (.tup (l.map .int)) (.tup [])) A Q E := w_neT ⟨plain_ints _, rfl⟩ (by rw [show ([] : List PV) = ([] : List Int).map .int from rfl, eqvs_ints]; exact q)
end
section
variable {A : PHp} {E : XP} {σ : PSt} {e e1 e2 : ED}
theorem brT {P R : Prop} (h : P) : (true = true → P) ∧ (true = false → R) := ⟨fun _ => h, fun z => nomatch z⟩
theorem brF' {P R : Prop} (h : R) : (false = true → P) ∧ (True → R) := ⟨fun z => (nomatch z), fun _ => h⟩
theorem brNT {P R : Prop} (h : R) : ((!true) = true → P) ∧ ((!true) = false → R) := ⟨fun z => (nomatch z), fun _ => h⟩
theorem brF {P R : Prop} (h : R) : (false = true → P) ∧ (false = false → R) := ⟨fun z => (nomatch z), fun _ => h⟩
theorem exL {A : PHp} {n : Nat} {l : List PV} {R : Nat → List PV → Prop} (h : A[n]? = some (.lst l)) (q : R n l) : ∃ n' l', PV.ref n = .ref n' ∧ A[n']? = some (.lst l') ∧ R n' l' := ⟨n, l, rfl, h, q⟩
theorem exL1 {A : PHp} {n : Nat} {l : List PV} {R : List PV → Prop} (h : A[n]? = some (.lst l)) (q : R l) : ∃ l', A[n]? = some (.lst l') ∧ R l' := ⟨l, h, q⟩
theorem exO {A : PHp} {n c : Nat} {l : List (Nat × PV)} {R : Nat → List (Nat × PV) → Prop} (h : A[n]? = some (.ins c l)) (q : R n l) : ∃ n' l', PV.ref n = .ref n' ∧ A[n']? = some (.ins c l') ∧ R n' l' := ⟨n, l, rfl, h, q⟩
theorem exF {A : PHp} {n c k : Nat} {l : List (Nat × PV)} {v : PV} {R : PV → Prop} (h : A[n]? = some (.ins c l)) (hv : getFld k l = some v) (q : R v) : ∃ n' c' l' v', PV.ref n = .ref n' ∧ A[n']? = some (.ins c' l') ∧ getFld k l' = some v' ∧ R v' := ⟨n, c, l, v, rfl, h, hv, q⟩
theorem exLA {A : PHp} {n : Nat} {l : List PV} {R : Nat → Prop} {R' : Prop} (h : A[n]? = some (.lst l)) (q : R n) : (∃ n' l', PV.ref n = .ref n' ∧ lstAt n' A = .ok l' A ∧ R n') ∨ R' := .inl ⟨n, l, rfl, lstAt_lst h, q⟩
theorem exTA {l : List PV} {R : List PV → Prop} {R' : Prop} (q : R l) : R' ∨ ∃ l', PV.tup l = .tup l' ∧ R l' := .inr ⟨l, rfl, q⟩
variable {QI : It → PHp → Prop}
theorem w_iseq (h : Wp (e σ) A (fun x A1 => (∃ n l, x = .ref n ∧ lstAt n A1 = .ok l A1 ∧ QI (.lst n) A1) ∨ ∃ l, x = .tup l ∧ QI (.tup l) A1) E) : Wp (iSeq e σ) A QI E := w_bnd (w_mono h fun x A1 h1 => by
  rcases h1 with ⟨n, l, rfl, h2, q⟩ | ⟨l, rfl, q⟩
  · exact w_bnd (w_eq h2 q)
  · exact q)
theorem w_irng1 (h : Wp (e σ) A (fun x A1 => ∃ n : Nat, x = .int n ∧ n ≤ 1000000 ∧ QI (.rng 0 n) A1) E) : Wp (iRng1 e σ) A QI E := w_bnd (w_mono h fun x A1 ⟨n, hx, hn, q⟩ => by
  subst hx
  have l1 : (n : Int) ≤ 1000000 := Int.ofNat_le.mpr hn
  refine w_guard ⟨Int.le_trans (by decide) (Int.natCast_nonneg n), Int.lt_of_le_of_lt l1 (by decide)⟩ (w_ret ?_)
  rw [Int.toNat_natCast]; exact q)
theorem w_izip (h : Wp (e1 σ) A (fun x A1 => Wp (e2 σ) A1 (fun y A2 => Wp (seqOf x) A2 (fun _ A3 => Wp (seqOf y) A3 (fun _ A4 => QI (.zip x y) A4) E) E) E) E) : Wp (iZip e1 e2 σ) A QI E :=
  w_bnd (w_mono h fun _ _ h1 => w_bnd (w_mono h1 fun _ _ h2 => w_bnd (w_mono h2 fun _ _ h3 => w_bnd h3)))
end
end Ws
local macro_rules | `(tactic| walk_at "st") => `(tactic| first
  | assumption
  | exact Ws.get_app
  | (refine Ws.get_app_of ?_; walk_at "st")
  | (refine Ws.pre_get (by assumption) ?_; walk_at "st"))
local macro_rules | `(tactic| walk_at "lim") => `(tactic| first
  | (refine Ws.lim_le ?_; (try simp only [List.length_map, List.length_append, List.length_cons, List.length_nil]); omega)
  | (refine Ws.lim_lt ?_; (try simp only [List.length_map, List.length_append, List.length_cons, List.length_nil]); omega))
local macro_rules | `(tactic| walk_at "s1") => `(tactic| first
  | with_reducible refine Ws.w_seq ?_
  | with_reducible refine Ws.w_asg ?_
  | with_reducible refine Ws.w_if ?_
  | with_reducible refine Ws.w_exp ?_
  | with_reducible refine Ws.w_retS ?_
  | with_reducible refine Ws.w_pass ?_
  | with_reducible refine Ws.w_tval ?_
  | with_reducible refine Ws.w_tand ?_
  | with_reducible refine Ws.w_tor ?_
  | with_reducible refine Ws.w_tnot ?_
  | with_reducible refine Ws.w_bin ?_
  | with_reducible refine Ws.w_and ?_
  | with_reducible refine Ws.w_isN ?_
  | with_reducible refine Ws.w_notN ?_
  | with_reducible refine Ws.w_cons ?_
  | with_reducible refine Ws.w_tup ?_
  | with_reducible refine Ws.w_lst ?_
  | with_reducible refine Ws.w_call ?_
  | with_reducible refine Ws.w_meth ?_
  | with_reducible refine Ws.w_make ?_
  | with_reducible refine Ws.w_fld ?_
  | with_reducible refine Ws.w_len ?_
  | with_reducible refine Ws.w_cut ?_
  | with_reducible refine Ws.w_lat ?_
  | with_reducible refine Ws.w_append ?_
  | with_reducible refine Ws.w_all ?_
  | with_reducible refine Ws.w_lenSet2 ?_
  | with_reducible refine Ws.w_izip ?_
  | with_reducible refine Ws.w_iseq ?_
  | with_reducible refine Ws.w_irng1 ?_
  | with_reducible refine Ws.w_ienm ?_)
local macro_rules | `(tactic| walk_at "s2") => `(tactic| first
  | ((with_reducible apply Ws.w_var); (· rfl))
  | with_reducible refine Ws.w_k ?_
  | with_reducible refine Ws.w_true ?_
  | with_reducible refine Ws.w_nil ?_
  | with_reducible refine Ws.w_gname ?_
  | with_reducible refine Ws.w_gnil ?_
  | with_reducible refine Ws.w_gcons ?_
  | ((with_reducible apply Ws.w_gtup); (· rfl))
  | with_reducible refine Ws.w_add ?_
  | ((with_reducible apply Ws.w_mod); (· omega))
  | with_reducible refine Ws.w_lt ?_
  | with_reducible refine Ws.w_eqI ?_
  | with_reducible refine Ws.w_neI ?_
  | with_reducible refine Ws.w_eqB ?_
  | with_reducible refine Ws.w_lno ?_
  | ((with_reducible apply Ws.w_inI); (· walk_at "st"))
  | ((with_reducible apply Ws.w_notInI); (· walk_at "st"))
  | ((with_reducible apply Ws.w_inP); (· walk_at "st"))
  | with_reducible refine Ws.w_eqT0 ?_
  | with_reducible refine Ws.w_neT0 ?_
  | ((with_reducible refine Ws.w_seqT ?_); (try dsimp only); (try rw [List.length_map]))
  | ((with_reducible apply Ws.w_ixL); (· walk_at "st"); (· walk_at "ix"))
  | ((with_reducible apply Ws.w_ixT); (· walk_at "ix")))
local macro_rules | `(tactic| walk_at "ix") => `(tactic| first
  | assumption
  | rfl
  | exact Ws.atl (by omega))
local macro_rules | `(tactic| walk_at "s3") => `(tactic| first
  | with_reducible refine Ws.brT ?_
  | with_reducible refine Ws.brF ?_
  | with_reducible refine Ws.brNT ?_
  | with_reducible refine ⟨_, rfl, ?_⟩
  | ((with_reducible apply Ws.exL); (· walk_at "st"))
  | ((with_reducible apply Ws.exL1); (· walk_at "st"))
  | ((with_reducible apply Ws.exO); (· walk_at "st"))
  | ((with_reducible apply Ws.exF); (· walk_at "st"); (· rfl))
  | ((with_reducible apply Ws.exLA); (· walk_at "st"))
  | with_reducible apply Ws.exTA
  | ((with_reducible refine And.intro ?h1 ?_); (case h1 => first | walk_at "lim" | omega)))
local macro_rules | `(tactic| walk_at "s") => `(tactic| (first | walk_at "s1" | walk_at "s2" | walk_at "s3"); (try dsimp only [List.set, Ws.TurnQ]))
local macro_rules | `(tactic| walk_at "fn") => `(tactic| (refine Ws.w_fn (by rfl) ?_; simp only [Ws.start, List.map_cons, List.map_nil, List.length_cons, List.length_nil, Nat.reduceAdd, Nat.reduceSub, List.replicate, List.cons_append, List.nil_append]))
local macro_rules | `(tactic| walk_at "go") => `(tactic| repeat walk_at "s")
namespace Ws
noncomputable def f_is_whole : Fun := fn 1 1
 (sRet (eAnd (eIsA (eVar 0) .int) (eNot (eIsA (eVar 0) .bool))))
noncomputable def f_is_hand : Fun := fn 2 2
 (sRet (eAnd (eCall f_is_whole (aCons (eVar 1) aNil)) (eChain oLe oLt (eK (.int 0)) (eVar 1) (eVar 0))))
noncomputable def f_is_number_of_hands : Fun := fn 1 1
 (sRet (eAnd (eCall f_is_whole (aCons (eVar 0) aNil)) (eChain oLe oLe (eK (.int 2)) (eVar 0) (eK (.int 6)))))
noncomputable def f_is_passing : Fun := fn 2 2
 (sSeq (sIf (tOr (tNot (tVal (eIsA (eVar 1) .tuple))) (tVal (eBin oNe (eLen (eVar 1)) (eK (.int 2)))))
 (sRet (eK (.bl false)))
 sPass)
 (sRet (eAnd (eCall f_is_hand (aCons (eVar 0) (aCons (eBin oIx (eVar 1) (eK (.int 0))) aNil))) (eAnd (eCall f_is_hand (aCons (eVar 0) (aCons (eBin oIx (eVar 1) (eK (.int 1))) aNil))) (eBin oNe (eBin oIx (eVar 1) (eK (.int 0))) (eBin oIx (eVar 1) (eK (.int 1))))))))
noncomputable def f_first_wrong_passing_b1 : SD :=
 (sIf (tOr (tNot (tVal (eCall f_is_passing (aCons (eVar 0) (aCons (eVar 3) aNil))))) (tVal (eBin oIn (eVar 3) (eCut (eVar 1) lNo (lAt (eVar 2))))))
 (sRet (eVar 2))
 sPass)
noncomputable def f_first_wrong_passing_l1 : SD := sFor (iEnm (eVar 1)) (gTup 2 (gCons (gName 2) (gCons (gName 3) gNil))) f_first_wrong_passing_b1
noncomputable def f_first_wrong_passing : Fun := fn 4 2
 (sSeq f_first_wrong_passing_l1
 (sRet (eK .non)))
noncomputable def f_Web_init : Fun := fn 4 3
 (sSeq (sIf (tNot (tVal (eCall f_is_number_of_hands (aCons (eVar 1) aNil))))
 sNever
 sPass)
 (sSeq (sAsg (eCall f_first_wrong_passing (aCons (eVar 1) (aCons (eVar 2) aNil))) (gName 3))
 (sSeq (sIf (tVal (eNotN (eVar 3)))
 sNever
 sPass)
 (sSeq (sFld (eVar 0) 0 (eVar 1))
 (sFld (eVar 0) 1 (eSorted (eVar 2)))))))
noncomputable def f_Web_takers_of_c1 : ED := eComp (iSeq (eFld (eVar 0) 1)) (bst [none, none, some 1]) (gTup 2 (gCons (gName 0) (gCons (gName 1) gNil))) (tVal (eBin oEq (eVar 0) (eVar 2))) (eVar 1)
noncomputable def f_Web_takers_of : Fun := fn 2 2
 (sRet f_Web_takers_of_c1)
noncomputable def f_Web_reach_b2 : SD :=
 (sIf (tAnd (tVal (eBin oNe (eVar 6) (eVar 2))) (tVal (eDNotIn (eVar 6) (eVar 3))))
 (sSeq (sDPut (eVar 3) (eVar 6) (eK (.bl true)))
 (sExpr (eAppend (eVar 4) (eVar 6))))
 sPass)
noncomputable def f_Web_reach_l2 : SD := sFor (iSeq (eMeth 0 f_Web_takers_of (eVar 0) (aCons (eVar 5) aNil))) (gName 6) f_Web_reach_b2
noncomputable def f_Web_reach_b1 : SD :=
 (sSeq (sAsg (ePop (eVar 4)) (gName 5))
 f_Web_reach_l2)
noncomputable def f_Web_reach_l1 : SD := sWhile (tVal (eBin oNe (eVar 4) (eLst aNil))) f_Web_reach_b1
noncomputable def f_Web_reach : Fun := fn 7 3
 (sSeq (sAsg (eDisp1 (eVar 1) (eK (.bl true))) (gName 3))
 (sSeq (sAsg (eLst (aCons (eVar 1) aNil)) (gName 4))
 (sSeq f_Web_reach_l1
 (sRet (eSortedD (eVar 3))))))
noncomputable def f_is_chain_c1 : ED := eComp (iSeq (eVar 2)) (bst [none, some 0]) (gName 0) tTrue (eCall f_is_hand (aCons (eFld (eVar 1) 0) (aCons (eVar 0) aNil)))
noncomputable def f_is_chain_c2 : ED := eComp (iZip (eVar 2) (eCut (eVar 2) (lAt (eK (.int 1))) lNo)) (bst [none, some 0]) (gName 0) tTrue (eBin oIn (eVar 0) (eFld (eVar 1) 1))
noncomputable def f_is_chain : Fun := fn 3 3
 (sSeq (sIf (tOr (tVal (eBin oEq (eVar 2) (eTup aNil))) (tVal (eBin oNotIn (eBin oIx (eVar 2) (eK (.int (-1)))) (eVar 1))))
 (sRet (eK (.bl false)))
 sPass)
 (sSeq (sIf (tOr (tVal (eBin oLt (eLenSet2 (eVar 2)) (eLen (eVar 2)))) (tNot (tVal (eAll f_is_chain_c1))))
 (sRet (eK (.bl false)))
 sPass)
 (sRet (eAll f_is_chain_c2))))
noncomputable def f_longer_walks_c1 : ED := eComp (iSeq (eMeth 0 f_Web_takers_of (eVar 0) (aCons (eBin oIx (eVar 1) (eK (.int (-1)))) aNil))) (bst [none, some 1]) (gName 0) (tVal (eBin oNotIn (eVar 0) (eVar 1))) (eBin oAdd (eVar 1) (eTup (aCons (eVar 0) aNil)))
noncomputable def f_longer_walks : Fun := fn 2 2
 (sRet f_longer_walks_c1)
noncomputable def f_least_chain_b2 : SD :=
 (sIf (tAnd (tVal (eBin oNe (eBin oIx (eVar 7) (eK (.int (-1)))) (eVar 3))) (tVal (eDNotIn (eBin oIx (eVar 7) (eK (.int (-1)))) (eVar 4))))
 (sSeq (sDPut (eVar 4) (eBin oIx (eVar 7) (eK (.int (-1)))) (eK (.bl true)))
 (sExpr (eAppend (eVar 5) (eVar 7))))
 sPass)
noncomputable def f_least_chain_l2 : SD := sFor (iSeq (eCall f_longer_walks (aCons (eVar 0) (aCons (eVar 6) aNil)))) (gName 7) f_least_chain_b2
noncomputable def f_least_chain_b1 : SD :=
 (sSeq (sAsg (ePop0 (eVar 5)) (gName 6))
 (sSeq (sIf (tVal (eBin oEq (eBin oIx (eVar 6) (eK (.int (-1)))) (eVar 2)))
 (sRet (eVar 6))
 sPass)
 f_least_chain_l2))
noncomputable def f_least_chain_l1 : SD := sWhile (tVal (eBin oNe (eVar 5) (eLst aNil))) f_least_chain_b1
noncomputable def f_least_chain : Fun := fn 8 4
 (sSeq (sAsg (eDisp1 (eVar 1) (eK (.bl true))) (gName 4))
 (sSeq (sAsg (eLst (aCons (eTup (aCons (eVar 1) aNil)) aNil)) (gName 5))
 (sSeq f_least_chain_l1
 (sRet (eK .non)))))
noncomputable def f_chains_from_b1 : SD :=
 (sSeq (sAsg (ePop0 (eVar 4)) (gName 5))
 (sSeq (sIf (tVal (eBin oIn (eBin oIx (eVar 5) (eK (.int (-1)))) (eVar 1)))
 (sExpr (eAppend (eVar 3) (eVar 5)))
 sPass)
 (sExpr (eExtend (eVar 4) (eCall f_longer_walks (aCons (eVar 0) (aCons (eVar 5) aNil)))))))
noncomputable def f_chains_from_l1 : SD := sWhile (tVal (eBin oNe (eVar 4) (eLst aNil))) f_chains_from_b1
noncomputable def f_chains_from : Fun := fn 6 3
 (sSeq (sAsg (eLst aNil) (gName 3))
 (sSeq (sAsg (eLst (aCons (eTup (aCons (eVar 2) aNil)) aNil)) (gName 4))
 (sSeq f_chains_from_l1
 (sRet (eVar 3)))))
noncomputable def f_law_cell_at : Fun := fn 2 2
 (sSeq (sIf (tVal (eBin oLt (eVar 1) (eLen (eVar 0))))
 (sRet (eBin oIx (eVar 0) (eVar 1)))
 sPass)
 (sRet (eK (.int 0))))
noncomputable def f_law_stream_b1 : SD :=
 (sSeq (sExpr (eAppend (eVar 2) (eBin oMod (eVar 3) (eK (.int 5040)))))
 (sAsg (eBin oFdiv (eVar 3) (eK (.int 5040))) (gName 3)))
noncomputable def f_law_stream_l1 : SD := sFor (iRng1 (eVar 1)) (gName 4) f_law_stream_b1
noncomputable def f_law_stream_b2 : SD :=
 (sSeq (sAsg (eBin oMod (eBin oAdd (eBin oAdd (eBin oMul (eVar 5) (eBin oAdd (eBin oFdiv (eVar 5) (eK (.int 1009))) (eK (.int 69621)))) (eVar 4)) (eK (.int 1))) (eK (.int 2147483647))) (gName 5))
 (sExpr (eAppend (eVar 2) (eVar 5))))
noncomputable def f_law_stream_l2 : SD := sFor (iRng1 (eVar 1)) (gName 4) f_law_stream_b2
noncomputable def f_law_stream : Fun := fn 6 2
 (sSeq (sAsg (eLst aNil) (gName 2))
 (sSeq (sIf (tVal (eBin oEq (eBin oMod (eVar 0) (eK (.int 2))) (eK (.int 1))))
 (sSeq (sAsg (eBin oFdiv (eVar 0) (eK (.int 2))) (gName 3))
 (sSeq f_law_stream_l1
 (sRet (eVar 2))))
 sPass)
 (sSeq (sAsg (eBin oMod (eBin oAdd (eBin oMul (eVar 0) (eK (.int 48271))) (eK (.int 7919))) (eK (.int 2147483647))) (gName 5))
 (sSeq f_law_stream_l2
 (sRet (eVar 2))))))
noncomputable def f_law_web_c1 : ED := eComp (iRng1 (eVar 2)) (bst [none, some 1]) (gName 0) tTrue (eTup (aCons (eBin oIx (eVar 1) (eBin oAdd (eK (.int 36)) (eVar 0))) (aCons (eVar 0) aNil)))
noncomputable def f_law_web_c2 : ED := eComp (iSeq (eSorted f_law_web_c1)) (bst [none, none]) (gTup 2 (gCons (gName 0) (gCons (gName 1) gNil))) tTrue (eVar 1)
noncomputable def f_law_web_b1 : SD :=
 (sExpr (eAppend (eVar 4) (eTup (aCons (eBin oIx (eVar 3) (eBin oSub (eVar 5) (eK (.int 1)))) (aCons (eBin oIx (eVar 3) (eVar 5)) aNil)))))
noncomputable def f_law_web_l1 : SD := sFor (iRng1 (eVar 2)) (gName 5) f_law_web_b1
noncomputable def f_law_web_b3 : SD :=
 (sSeq (sAsg (eBin oEq (eBin oMod (eBin oIx (eVar 1) (eBin oAdd (eBin oMul (eK (.int 6)) (eVar 6)) (eVar 7))) (eBin oAdd (eK (.int 2)) (eBin oMod (eBin oIx (eVar 1) (eK (.int 43))) (eK (.int 5))))) (eK (.int 0))) (gName 8))
 (sIf (tAnd (tVal (eBin oNe (eVar 6) (eVar 7))) (tAnd (tVal (eVar 8)) (tVal (eBin oNotIn (eTup (aCons (eVar 6) (aCons (eVar 7) aNil))) (eVar 4)))))
 (sExpr (eAppend (eVar 4) (eTup (aCons (eVar 6) (aCons (eVar 7) aNil)))))
 sPass))
noncomputable def f_law_web_l3 : SD := sFor (iRng1 (eVar 2)) (gName 7) f_law_web_b3
noncomputable def f_law_web_b2 : SD :=
 f_law_web_l3
noncomputable def f_law_web_l2 : SD := sFor (iRng1 (eVar 2)) (gName 6) f_law_web_b2
noncomputable def f_law_web : Fun := fn 10 1
 (sSeq (sAsg (eCall f_law_stream (aCons (eVar 0) (aCons (eK (.int 46)) aNil))) (gName 1))
 (sSeq (sAsg (eBin oAdd (eK (.int 2)) (eBin oMod (eBin oIx (eVar 1) (eK (.int 45))) (eK (.int 5)))) (gName 2))
 (sSeq (sAsg f_law_web_c2 (gName 3))
 (sSeq (sAsg (eLst aNil) (gName 4))
 (sSeq (sIf (tVal (eBin oGt (eBin oMod (eBin oIx (eVar 1) (eK (.int 42))) (eK (.int 3))) (eK (.int 0))))
 f_law_web_l1
 sPass)
 (sSeq f_law_web_l2
 (sSeq (sAsg (eBin oMod (eBin oIx (eVar 1) (eK (.int 44))) (eBin oAdd (eLen (eVar 4)) (eK (.int 1)))) (gName 9))
 (sRet (eTup (aCons (eVar 2) (aCons (eBin oAdd (eCut (eVar 4) (lAt (eVar 9)) lNo) (eCut (eVar 4) lNo (lAt (eVar 9)))) aNil)))))))))))
noncomputable def f_law_leaders_c1 : ED := eComp (iRng1 (eVar 1)) (bst [none, some 2]) (gName 0) (tVal (eBin oLt (eBin oMod (eBin oIx (eVar 1) (eVar 0)) (eK (.int 4))) (eBin oAdd (eK (.int 1)) (eBin oMod (eBin oIx (eVar 1) (eK (.int 6))) (eK (.int 3)))))) (eVar 0)
noncomputable def f_law_leaders : Fun := fn 3 2
 (sSeq (sAsg (eCall f_law_stream (aCons (eVar 0) (aCons (eK (.int 7)) aNil))) (gName 2))
 (sRet f_law_leaders_c1))
noncomputable def f_law_first_b1 : SD :=
 (sIf (tAnd (tVal (eBin oEq (eBin oIx (eVar 3) (eK (.int (-1)))) (eVar 1))) (tVal (eBin oNotIn (eVar 2) (eVar 3))))
 (sRet (eVar 3))
 sPass)
noncomputable def f_law_first_l1 : SD := sFor (iSeq (eVar 0)) (gName 3) f_law_first_b1
noncomputable def f_law_first : Fun := fn 4 3
 (sSeq f_law_first_l1
 (sRet (eK .non)))
noncomputable def f_law_least : Fun := fn 6 5
 (sSeq (sAsg (eCall f_law_first (aCons (eBin oIx (eVar 1) (eVar 2)) (aCons (eVar 3) (aCons (eVar 4) aNil)))) (gName 5))
 (sSeq (sIf (tVal (eIsN (eVar 4)))
 (sRet (eAnd (eBin oEq (eCall (dflt f_least_chain [.non]) (aCons (eVar 0) (aCons (eVar 2) (aCons (eVar 3) aNil)))) (eVar 5)) (eBin oEq (eBin oIn (eVar 3) (eMeth 0 (dflt f_Web_reach [.non]) (eVar 0) (aCons (eVar 2) aNil))) (eNotN (eVar 5)))))
 sPass)
 (sSeq (sIf (tVal (eBin oNe (eCall f_least_chain (aCons (eVar 0) (aCons (eVar 2) (aCons (eVar 3) (aCons (eVar 4) aNil))))) (eVar 5)))
 (sRet (eK (.bl false)))
 sPass)
 (sRet (eBin oEq (eBin oIn (eVar 3) (eMeth 0 f_Web_reach (eVar 0) (aCons (eVar 2) (aCons (eVar 4) aNil)))) (eNotN (eVar 5)))))))
noncomputable def f_law_rests_b1 : SD :=
 (sSeq (sIf (tNot (tVal (eCall f_is_chain (aCons (eVar 0) (aCons (eVar 1) (aCons (eVar 4) aNil))))))
 (sRet (eK (.bl false)))
 sPass)
 (sSeq (sAsg (eCut (eVar 4) (lAt (eK (.int 1))) lNo) (gName 5))
 (sSeq (sIf (tAnd (tVal (eBin oNe (eVar 5) (eTup aNil))) (tNot (tVal (eCall f_is_chain (aCons (eVar 0) (aCons (eVar 1) (aCons (eVar 5) aNil)))))))
 (sRet (eK (.bl false)))
 sPass)
 (sIf (tAnd (tVal (eBin oNe (eVar 5) (eTup aNil))) (tVal (eBin oNotIn (eVar 5) (eBin oIx (eVar 2) (eBin oIx (eVar 5) (eK (.int 0)))))))
 (sRet (eK (.bl false)))
 sPass))))
noncomputable def f_law_rests_l1 : SD := sFor (iSeq (eBin oIx (eVar 2) (eVar 3))) (gName 4) f_law_rests_b1
noncomputable def f_law_rests : Fun := fn 6 4
 (sSeq f_law_rests_l1
 (sRet (eK (.bl true))))
noncomputable def f_law_c1 : ED := eComp (iSeq (eVar 2)) (bst [none]) (gName 0) (tVal (eBin oLt (eMaxT (eVar 0)) (eK (.int 4)))) (eVar 0)
noncomputable def f_law_c2 : ED := eComp (iRng1 (eVar 1)) (bst [none, some 4, some 3]) (gName 0) tTrue (eCall f_chains_from (aCons (eVar 1) (aCons (eVar 2) (aCons (eVar 0) aNil))))
noncomputable def f_law_c3 : ED := eComp (iRng1 (eVar 1)) (bst [none, some 6]) (gName 0) (tVal (eBin oNe (eVar 0) (eVar 1))) (eVar 0)
noncomputable def f_law_b3 : SD :=
 (sIf (tNot (tVal (eCall f_law_least (aCons (eVar 4) (aCons (eVar 5) (aCons (eVar 6) (aCons (eVar 7) (aCons (eVar 8) aNil))))))))
 (sRet (eK (.bl false)))
 sPass)
noncomputable def f_law_l3 : SD := sFor (iSeq (eBin oAdd (eLst (aCons (eK .non) aNil)) f_law_c3)) (gName 8) f_law_b3
noncomputable def f_law_b2 : SD :=
 f_law_l3
noncomputable def f_law_l2 : SD := sFor (iSeq (eVar 3)) (gName 7) f_law_b2
noncomputable def f_law_b1 : SD :=
 (sSeq (sIf (tNot (tVal (eCall f_law_rests (aCons (eVar 4) (aCons (eVar 3) (aCons (eVar 5) (aCons (eVar 6) aNil)))))))
 (sRet (eK (.bl false)))
 sPass)
 f_law_l2)
noncomputable def f_law_l1 : SD := sFor (iRng1 (eVar 1)) (gName 6) f_law_b1
noncomputable def f_law : Fun := fn 9 1
 (sSeq (sAsg (eCall f_law_web (aCons (eCall f_law_cell_at (aCons (eVar 0) (aCons (eK (.int 0)) aNil))) aNil)) (gTup 2 (gCons (gName 1) (gCons (gName 2) gNil))))
 (sSeq (sIf (tVal (eBin oEq (eVar 1) (eK (.int 6))))
 (sSeq (sAsg (eK (.int 4)) (gName 1))
 (sAsg f_law_c1 (gName 2)))
 sPass)
 (sSeq (sAsg (eCall f_law_leaders (aCons (eCall f_law_cell_at (aCons (eVar 0) (aCons (eK (.int 1)) aNil))) (aCons (eVar 1) aNil))) (gName 3))
 (sSeq (sAsg (eMake 0 f_Web_init (aCons (eVar 1) (aCons (eVar 2) aNil))) (gName 4))
 (sSeq (sAsg f_law_c2 (gName 5))
 (sSeq f_law_l1
 (sRet (eK (.bl true)))))))))
end Ws
namespace Ws
@[simp] theorem is_whole_eq (i : Int) (A : PHp) : f_is_whole [.int i] A = .ok (.bl true) A := by simp [f_is_whole]
theorem is_hand_eq (n h : Int) (A : PHp) : f_is_hand [.int n, .int h] A = .ok (.bl (decide (0 ≤ h ∧ h < n))) A := by
  by_cases h0 : 0 ≤ h <;> simp [f_is_hand, h0]
theorem is_number_eq (n : Int) (A : PHp) : f_is_number_of_hands [.int n] A = .ok (.bl (decide (2 ≤ n ∧ n ≤ 6))) A := by
  by_cases h0 : 2 ≤ n <;> simp [f_is_number_of_hands, h0]
noncomputable def good (n : Int) (p : Int × Int) : Prop := (0 ≤ p.1 ∧ p.1 < n) ∧ (0 ≤ p.2 ∧ p.2 < n) ∧ p.1 ≠ p.2
noncomputable instance (n : Int) (p : Int × Int) : Decidable (good n p) := by unfold good; infer_instance
theorem is_passing_eq (n : Int) (p : Int × Int) (A : PHp) : f_is_passing [.int n, pv p] A = .ok (.bl (decide (good n p))) A := by
  by_cases h0 : 0 ≤ p.1 ∧ p.1 < n <;> by_cases h1 : 0 ≤ p.2 ∧ p.2 < n <;> simp [f_is_passing, pv, good, atI, ixN, plain, eqv, is_hand_eq, h0, h1]
structure Passings (n : Int) (ps : List (Int × Int)) : Prop where
  lo : 2 ≤ n
  hi : n ≤ 6
  good : ∀ p ∈ ps, good n p
  nd : ps.Nodup
  len : ps.length < 64
theorem cut_to {α : Type} (xs : List α) (i : Nat) : cut xs none (some (i : Int)) = xs.take i := by
  unfold cut cutIx
  simp only [List.drop_zero, Nat.sub_zero]
  rw [if_neg (by omega)]
  rw [show (min (i : Int) (xs.length : Int)).toNat = min i xs.length by omega, List.take_eq_take_iff]
  omega
theorem first_wrong_ok {n : Int} {ps : List (Int × Int)} (W : Passings n ps) {A : PHp} {r : Nat} (hr : A[r]? = some (.lst (pvs ps))) :
    ∃ A', f_first_wrong_passing [.int n, .ref r] A = .ok .non A' ∧ A <+: A' := by
  have hl : Comes (f_first_wrong_passing_l1 [some (.int n), some (.ref r), none, none] A) (fun σ A' => A <+: A') (fun _ _ => False) := by
    unfold f_first_wrong_passing_l1
    refine (for_enm (l := pvs ps) (a := r) (A1 := A) (by simp [hr]) (fun i σ A' => A <+: A' ∧ ∃ x y, σ = [some (.int n), some (.ref r), x, y]) (fun _ _ => False) ⟨List.prefix_refl _, _, _, rfl⟩ ?_ ?_).mono (fun _ _ h => h.1) (fun _ _ h => h)
    · rintro i σ A' ⟨hp, _⟩
      simp [pre_get hp hr]
    · rintro i v σ A' hv ⟨hp, x, y, rfl⟩
      have hr' := pre_get hp hr
      obtain ⟨p, hp1, rfl⟩ : ∃ p, ps[i]? = some p ∧ v = pv p := by
        simp only [pvs, List.getElem?_map] at hv
        cases e : ps[i]? with
        | none => rw [e] at hv; cases hv
        | some p => rw [e] at hv; exact ⟨p, rfl, (Option.some.inj hv).symm⟩
      have hmem : p ∈ ps := List.mem_of_getElem? hp1
      have hg := W.good p hmem
      have hnin : p ∉ ps.take i := by
        intro hm
        have hlt := (List.getElem?_eq_some_iff.mp hp1).1
        obtain ⟨j, hj, e⟩ := List.mem_iff_getElem.mp hm
        rw [List.length_take] at hj
        rw [List.getElem_take] at e
        have e2 : ps[i] = p := (List.getElem?_eq_some_iff.mp hp1).2
        exact List.pairwise_iff_getElem.mp W.nd j i (by omega) hlt (by omega) (e.trans e2.symm)
      have hc : cut (pvs ps) none (some (i : Int)) = pvs (ps.take i) := by rw [cut_to]; simp [pvs, List.map_take]
      refine Turns.nx (σ := [some (.int n), some (.ref r), some (.int i), some (pv p)]) (A := A' ++ [.lst (pvs (ps.take i))]) ?_ ⟨pre_app hp, _, _, rfl⟩
      simp [f_first_wrong_passing_b1, is_passing_eq, hg, hr', hc, pv_plain, pvs_plain, pIn_pvs, hnin]
  obtain ⟨σ, A', e, h⟩ := hl.end
  refine ⟨A', ?_, h⟩
  simp [f_first_wrong_passing, e]
noncomputable def l2 (p : Int × Int) : List Int := [p.1, p.2]
noncomputable def ltP (p q : Int × Int) : Bool := lexLt (l2 p) (l2 q)
noncomputable def srt (ps : List (Int × Int)) : List (Int × Int) := sortBy ltP ps
theorem insBy_map {α β : Type} (f : α → β) (lt : β → β → Bool) (a : α) : ∀ l : List α, insBy lt (f a) (l.map f) = (insBy (fun x y => lt (f x) (f y)) a l).map f
  | [] => rfl
  | b :: r => by
    have ih := insBy_map f lt a r
    simp only [List.map_cons, insBy]
    split
    · rw [ih]; rfl
    · rfl
theorem sortBy_map {α β : Type} (f : α → β) (lt : β → β → Bool) : ∀ l : List α, sortBy lt (l.map f) = (sortBy (fun x y => lt (f x) (f y)) l).map f
  | [] => rfl
  | a :: r => by
    simp only [List.map_cons, sortBy]
    rw [sortBy_map f lt r, insBy_map]
theorem pvs_eq (ps : List (Int × Int)) : pvs ps = (ps.map l2).map fun t => PV.tup (t.map .int) := by
  simp [pvs, pv, l2]
theorem sorted_pvs {ps : List (Int × Int)} {A : PHp} (h : ps.length < 64) : pSorted (pvs ps) A = .ok (pvs (srt ps)) A := by
  rw [pvs_eq, pSorted_tups (by simpa using h) (by intro t ht; obtain ⟨p, _, rfl⟩ := List.mem_map.mp ht; simp [l2]), sortBy_map, pvs_eq]
  rfl
theorem srt_perm (ps : List (Int × Int)) : (srt ps).Perm ps := sortBy_perm _ _
structure WebAt (A : PHp) (w r : Nat) (n : Int) (ps : List (Int × Int)) : Prop where
  ob : A[w]? = some (.ins 0 [(0, .int n), (1, .ref r)])
  ls : A[r]? = some (.lst (pvs (srt ps)))
theorem WebAt.mono {A B : PHp} {w r : Nat} {n : Int} {ps : List (Int × Int)} (h : WebAt A w r n ps) (e : A <+: B) : WebAt B w r n ps := ⟨pre_get e h.ob, pre_get e h.ls⟩
theorem web_init {n : Int} {ps : List (Int × Int)} (W : Passings n ps) {A B : PHp} {w q : Nat} (hA : A <+: B) (hw : A.length ≤ w) (ho : B[w]? = some (.ins 0 [])) (hq : B[q]? = some (.lst (pvs ps))) :
    ∃ B' r, f_Web_init [.ref w, .int n, .ref q] B = .ok .non B' ∧ A <+: B' ∧ WebAt B' w r n ps ∧ w < r := by
  obtain ⟨B1, e1, h1⟩ := first_wrong_ok W hq
  have ho1 := pre_get h1 ho
  have hq1 := pre_get h1 hq
  have hwl := pre_lt ho1
  have nqw : q ≠ w := by rintro rfl; rw [hq] at ho; cases ho
  have hq2 : (B1.set w (.ins 0 [(0, .int n)]))[q]? = some (.lst (pvs ps)) := by rw [get_set_ne nqw]; exact hq1
  have ho2 : (B1.set w (.ins 0 [(0, .int n)]))[w]? = some (.ins 0 [(0, .int n)]) := get_set ho1
  have ho3 := get_app_of (o := PO.lst (pvs (srt ps))) ho2
  refine ⟨((B1.set w (PO.ins 0 [(0, .int n)])) ++ [PO.lst (pvs (srt ps))]).set w (PO.ins 0 [(0, .int n), (1, .ref B1.length)]), B1.length, ?_, ?_, ⟨get_set ho3, ?_⟩, hwl⟩
  · simp [f_Web_init, is_number_eq, W.lo, W.hi, e1, ho1, ho2, hq2, ho3, sorted_pvs W.len]
  · exact pre_set (pre_app (pre_set (hA.trans h1) hw)) hw
  · rw [get_set_ne (Nat.ne_of_gt hwl)]
    have := get_app (A := B1.set w (.ins 0 [(0, .int n)])) (o := .lst (pvs (srt ps)))
    rwa [List.length_set] at this
theorem web_make {n : Int} {ps : List (Int × Int)} (W : Passings n ps) {A : PHp} {q : Nat} (hq : A[q]? = some (.lst (pvs ps))) :
    ∃ A' r, f_Web_init [.ref A.length, .int n, .ref q] (A ++ [.ins 0 []]) = .ok .non A' ∧ A <+: A' ∧ WebAt A' A.length r n ps ∧ A.length < r :=
  web_init W (List.prefix_append _ _) (Nat.le_refl _) get_app (get_app_of hq)
noncomputable def takers (ps : List (Int × Int)) (h : Int) : List Int := (ps.filter fun p => decide (p.1 = h)).map (·.2)
theorem filt_t (ps : List (Int × Int)) (h : Int) : ((pvs ps).filter fun v => decide (fst1 v = h)).map (fun v => PV.int (snd1 v)) = (takers ps h).map .int := by
  simp only [pvs, takers, List.filter_map, List.map_map]; rfl
end Ws
namespace Ws
theorem takers_of_ok {A : PHp} {w r : Nat} {n h : Int} {ps : List (Int × Int)} (W : WebAt A w r n ps) (hl : ps.length < 64) :
    f_Web_takers_of [.ref w, .int h] A = .ok (.ref A.length) (A ++ [.lst ((takers (srt ps) h).map .int)]) := by
  have c : f_Web_takers_of_c1 [some (.ref w), some (.int h)] A = .ok (.ref A.length) (A ++ [.lst ((takers (srt ps) h).map .int)]) := by
    unfold f_Web_takers_of_c1
    rw [← filt_t]
    refine comp_lst (a := r) (l := pvs (srt ps)) (S := fun σ => ∃ x y, σ = [x, y, some (.int h)]) (by simp [W.ob, W.ls]) (by simp [W.ls]) (lim_le (by simp [pvs, (srt_perm ps).length_eq]; omega)) ⟨_, _, rfl⟩ ?_
    rintro v hv σ ⟨x, y, rfl⟩
    obtain ⟨p, hp, rfl⟩ := mem_pvs hv
    refine ⟨[some (.int p.1), some (.int p.2), some (.int h)], by simp [pv], ⟨_, _, rfl⟩, by simp [plain, eqv] <;> exact decide_eq_decide.mpr Iff.rfl, by simp⟩
  simp [f_Web_takers_of, c]
end Ws
namespace Ws
theorem rng1_nat {e : ED} {σ : PSt} {A A1 : PHp} {m k : Nat} (hm : m ≤ k) (h : e σ A = .ok (.int m) A1) (hk : k ≤ 1000000 := by decide) : iRng1 e σ A = .ok (.rng 0 m) A1 := by
  show bnd (e σ) _ A = _
  rw [bnd_ok h]
  show guard (-(2 ^ 62) ≤ (m : Int) ∧ (m : Int) < 2 ^ 62) _ A1 = _
  rw [guard_pos (by omega)]
  rfl
theorem modk (i j : Int) (A : PHp) (h : 0 < j) : oMod (.int i) (.int j) A = .ok (.int (i % j)) A := by
  show guard (0 < j) (ret _) A = _
  rw [guard_pos h]; rfl
theorem cell_ok {A : PHp} {a : Nat} {ns : List Int} (h : A[a]? = some (.ro (ns.map .int))) (k : Nat) : ∃ c, f_law_cell_at [.ref a, .int k] A = .ok (.int c) A := by
  by_cases hk : k < ns.length
  · refine ⟨ns[k], ?_⟩
    have hk' : (k : Int) < (ns.length : Int) := by omega
    simp [f_law_cell_at, h, hk', hk, atI, ixN]
  · refine ⟨0, ?_⟩
    have hk' : ¬ (k : Int) < (ns.length : Int) := by omega
    simp [f_law_cell_at, h, hk', hk]
theorem stream_l1 (c : Int) (m : Nat) (hm : m ≤ 64) (d : Int) (A : PHp) : ∃ (σ : PSt) (xs : List Int), xs.length = m ∧ (∀ x ∈ xs, (0 : Int) ≤ x) ∧ σ[2]? = some (some (.ref A.length)) ∧
    f_law_stream_l1 [some (.int c), some (.int m), some (.ref A.length), some (.int d), none, none] (A ++ [.lst []]) = .ok (.nx σ) (A ++ [.lst (xs.map .int)]) := by
  have h : Comes (f_law_stream_l1 [some (.int c), some (.int m), some (.ref A.length), some (.int d), none, none] (A ++ [.lst []]))
      (fun σ A' => ∃ (xs : List Int) (d : Int) (k : Option PV), xs.length = m ∧ (∀ x ∈ xs, (0 : Int) ≤ x) ∧ σ = [some (.int c), some (.int m), some (.ref A.length), some (.int d), k, none] ∧ A' = A ++ [.lst (xs.map .int)]) (fun _ _ => False) := by
    unfold f_law_stream_l1
    refine for_rng' (lo := 0) (n := m) (A1 := A ++ [.lst []]) (rng1_nat hm (by rfl)) (fun i σ A' => ∃ (xs : List Int) (d : Int) (k : Option PV), xs.length = i ∧ (∀ x ∈ xs, (0 : Int) ≤ x) ∧ σ = [some (.int c), some (.int m), some (.ref A.length), some (.int d), k, none] ∧ A' = A ++ [.lst (xs.map .int)]) ⟨[], d, none, rfl, by simp, rfl, rfl⟩ ?_ (fun _ _ h => h)
    rintro i σ A' hi ⟨xs, d, k, hl, hx, rfl, rfl⟩
    have hlim : xs.length < LIM := lim_lt (by omega)
    refine Turns.nx ?_ ⟨xs ++ [d % 5040], d / 5040, some (.int i), by simp [hl], ?_, rfl, rfl⟩
    · simp [f_law_stream_b1, hlim, set_last]
    · intro x hx'
      rcases List.mem_append.mp hx' with h | h
      · exact hx x h
      · simp at h; subst h; exact Int.emod_nonneg _ (by decide)
  obtain ⟨σ, A', e, xs, d, k, h1, h2, rfl, rfl⟩ := h.end
  exact ⟨_, xs, h1, h2, rfl, e⟩
theorem stream_l2 (c : Int) (m : Nat) (hm : m ≤ 64) (z : Int) (hz : 0 ≤ z ∧ z < 2147483647) (A : PHp) : ∃ (σ : PSt) (xs : List Int), xs.length = m ∧ (∀ x ∈ xs, (0 : Int) ≤ x) ∧ σ[2]? = some (some (.ref A.length)) ∧
    f_law_stream_l2 [some (.int c), some (.int m), some (.ref A.length), none, none, some (.int z)] (A ++ [.lst []]) = .ok (.nx σ) (A ++ [.lst (xs.map .int)]) := by
  have h : Comes (f_law_stream_l2 [some (.int c), some (.int m), some (.ref A.length), none, none, some (.int z)] (A ++ [.lst []]))
      (fun σ A' => ∃ (xs : List Int) (z : Int) (k : Option PV), xs.length = m ∧ (∀ x ∈ xs, (0 : Int) ≤ x) ∧ (0 ≤ z ∧ z < 2147483647) ∧ σ = [some (.int c), some (.int m), some (.ref A.length), none, k, some (.int z)] ∧ A' = A ++ [.lst (xs.map .int)]) (fun _ _ => False) := by
    unfold f_law_stream_l2
    refine for_rng' (lo := 0) (n := m) (A1 := A ++ [.lst []]) (rng1_nat hm (by rfl)) (fun i σ A' => ∃ (xs : List Int) (z : Int) (k : Option PV), xs.length = i ∧ (∀ x ∈ xs, (0 : Int) ≤ x) ∧ (0 ≤ z ∧ z < 2147483647) ∧ σ = [some (.int c), some (.int m), some (.ref A.length), none, k, some (.int z)] ∧ A' = A ++ [.lst (xs.map .int)]) ⟨[], z, none, rfl, by simp, hz, rfl, rfl⟩ ?_ (fun _ _ h => h)
    rintro i σ A' hi ⟨xs, z, k, hl, hx, hz, rfl, rfl⟩
    have hlim : xs.length < LIM := lim_lt (by omega)
    have hb : (-(18446744073709551616) < z ∧ z < 18446744073709551616) := by omega
    refine Turns.nx ?_ ⟨xs ++ [(z * (z / 1009 + 69621) + i + 1) % 2147483647], (z * (z / 1009 + 69621) + i + 1) % 2147483647, some (.int i), by simp [hl], ?_, ⟨Int.emod_nonneg _ (by decide), Int.emod_lt_of_pos _ (by decide)⟩, rfl, rfl⟩
    · simp [f_law_stream_b2, hlim, set_last, hb]
    · intro x hx'
      rcases List.mem_append.mp hx' with h | h
      · exact hx x h
      · simp at h; subst h; exact Int.emod_nonneg _ (by decide)
  obtain ⟨σ, A', e, xs, z, k, h1, h2, h3, rfl, rfl⟩ := h.end
  exact ⟨_, xs, h1, h2, rfl, e⟩
theorem stream_ok (c : Int) (m : Nat) (hm : m ≤ 64) (A : PHp) : ∃ xs : List Int, xs.length = m ∧ (∀ x ∈ xs, 0 ≤ x) ∧ f_law_stream [.int c, .int m] A = .ok (.ref A.length) (A ++ [.lst (xs.map .int)]) := by
  by_cases h : c % 2 = 1
  · obtain ⟨σ, xs, h1, h2, h3, h4⟩ := stream_l1 c m hm (c / 2) A
    refine ⟨xs, h1, h2, ?_⟩
    unfold f_law_stream
    refine fn_rt rfl ?_
    rw [seq_nx (asg_ok (eLst_nil _ _) rfl)]
    refine seq_rt ?_
    rw [if_t (A' := A ++ [.lst []]) (by simp [h, plain, eqv])]
    rw [seq_nx (σ' := [some (.int c), some (.int m), some (.ref A.length), some (.int (c / 2)), none, none]) (A' := A ++ [.lst []]) (by simp)]
    rw [seq_nx h4]
    simp [h3]
  · obtain ⟨σ, xs, h1, h2, h3, h4⟩ := stream_l2 c m hm ((c * 48271 + 7919) % 2147483647) ⟨Int.emod_nonneg _ (by decide), Int.emod_lt_of_pos _ (by decide)⟩ A
    refine ⟨xs, h1, h2, ?_⟩
    unfold f_law_stream
    refine fn_rt rfl ?_
    rw [seq_nx (asg_ok (eLst_nil _ _) rfl)]
    rw [seq_nx (σ' := [some (.int c), some (.int m), some (.ref A.length), none, none, none]) (A' := A ++ [.lst []]) (by rw [if_f (A' := A ++ [.lst []]) (by simp [h, plain, eqv])]; rfl)]
    rw [seq_nx (σ' := [some (.int c), some (.int m), some (.ref A.length), none, none, some (.int ((c * 48271 + 7919) % 2147483647))]) (A' := A ++ [.lst []]) (by simp)]
    rw [seq_nx h4]
    simp [h3]
theorem at_nat {α : Type} {xs : List α} {j : Nat} (h : j < xs.length) : atI xs (j : Int) = some xs[j] := by
  unfold atI ixN
  rw [if_pos (by omega), if_pos (by omega)]
  simp [h]
theorem at_map {xs : List Int} {j : Nat} (h : j < xs.length) : atI (xs.map PV.int) (j : Int) = some (.int xs[j]) := by
  rw [at_nat (by simpa using h)]; simp
noncomputable def ords (xs : List Int) (N : Nat) : List (List Int) := (List.range N).map fun k => [xs.getD (36 + k) 0, (k : Int)]
noncomputable def ord (xs : List Int) (N : Nat) : List Int := (sortBy lexLt (ords xs N)).map fun t => t.getD 1 0
theorem ord_perm (xs : List Int) (N : Nat) : (ord xs N).Perm ((List.range N).map fun (k : Nat) => (k : Int)) := by
  unfold ord
  refine ((sortBy_perm lexLt (ords xs N)).map _).trans ?_
  unfold ords
  rw [List.map_map]
  exact .refl _
theorem ord_len (xs : List Int) (N : Nat) : (ord xs N).length = N := by rw [(ord_perm xs N).length_eq]; simp
theorem ord_mem {xs : List Int} {N : Nat} {x : Int} (h : x ∈ ord xs N) : 0 ≤ x ∧ x < N := by
  have := (ord_perm xs N).mem_iff.mp h
  obtain ⟨k, hk, rfl⟩ := List.mem_map.mp this
  have := List.mem_range.mp hk
  omega
theorem ord_nd (xs : List Int) (N : Nat) : (ord xs N).Nodup := by
  rw [(ord_perm xs N).nodup_iff]
  rw [List.nodup_iff_pairwise_ne, List.pairwise_map]
  exact List.nodup_range.imp fun h z => h (by omega)
noncomputable def wst (c n : Int) (a o f : Nat) (k g t d : Option PV) : PSt := [some (.int c), some (.ref a), some (.int n), some (.ref o), some (.ref f), k, g, t, d, none]
theorem web_order {c : Int} {xs : List Int} (hx : xs.length = 46) (N : Nat) (hN : N ≤ 6) (A : PHp) :
    f_law_web_c2 [some (.int c), some (.ref A.length), some (.int N), none, none, none, none, none, none, none] (A ++ [.lst (xs.map .int)]) =
      .ok (.ref (A.length + 3)) (A ++ [.lst (xs.map .int)] ++ [.lst ((ords xs N).map fun t => .tup (t.map .int))] ++ [.lst ((sortBy lexLt (ords xs N)).map fun t => .tup (t.map .int))] ++ [.lst ((ord xs N).map .int)]) := by
  have c1 : f_law_web_c1 [some (.int c), some (.ref A.length), some (.int N), none, none, none, none, none, none, none] (A ++ [.lst (xs.map .int)]) =
      .ok (.ref (A.length + 1)) (A ++ [.lst (xs.map .int)] ++ [.lst ((ords xs N).map fun t => .tup (t.map .int))]) := by
    unfold f_law_web_c1
    refine Eq.trans (comp_rng (lo := 0) (n := N) (A1 := A ++ [.lst (xs.map .int)]) (S := fun σ => ∃ x, σ = [x, some (.ref A.length)]) (p := fun _ => true)
      (f := fun v => match v with | .int k => .tup [.int (xs.getD (36 + k.toNat) 0), .int k] | _ => .non) (rng1_nat hN (by rfl)) (lim_le (by omega)) ⟨_, rfl⟩ ?_) ?_
    · rintro i hi σ ⟨x, rfl⟩
      refine ⟨_, rfl, ⟨_, rfl⟩, rfl, fun _ => ?_⟩
      have h36 : (36 : Int) + (i : Int) = ((36 + i : Nat) : Int) := by omega
      have hlt : 36 + i < xs.length := by omega
      have e36 : atI (xs.map PV.int) (36 + (i : Int)) = some (.int xs[36 + i]) := by rw [h36]; exact at_map hlt
      simp [e36, hlt]
    · have : A.length + 1 = (A ++ [PO.lst (xs.map .int)]).length := by simp
      rw [this]
      rw [List.filter_eq_self.mpr fun _ _ => rfl]
      simp [ords, Function.comp_def]
  have hs : pSorted ((ords xs N).map fun t => PV.tup (t.map .int)) = fun A => .ok ((sortBy lexLt (ords xs N)).map fun t => PV.tup (t.map .int)) A := by
    funext B
    exact pSorted_tups (by simp [ords]; omega) (by intro t ht; obtain ⟨k, _, rfl⟩ := List.mem_map.mp ht; simp)
  generalize hB : A ++ [PO.lst (xs.map .int)] ++ [PO.lst ((ords xs N).map fun t => PV.tup (t.map .int))] = B at c1
  have hBl : B.length = A.length + 2 := by rw [← hB]; simp
  have hB1 : B[A.length + 1]? = some (.lst ((ords xs N).map fun t => PV.tup (t.map .int))) := by
    rw [← hB, show A.length + 1 = (A ++ [PO.lst (xs.map .int)]).length by simp]; exact get_app
  unfold f_law_web_c2
  refine Eq.trans (comp_lst (a := B.length) (l := (sortBy lexLt (ords xs N)).map fun t => .tup (t.map .int)) (A1 := B ++ [.lst ((sortBy lexLt (ords xs N)).map fun t => .tup (t.map .int))])
    (S := fun σ => ∃ x y, σ = [x, y]) (p := fun _ => true) (f := fun v => .int (snd1 v)) ?_ ?_ ?_ ⟨_, _, rfl⟩ ?_) ?_
  · exact iseq_ok (sorted_ok c1 (lstAt_lst hB1) (by rw [hs])) lstAt_last
  · exact lstAt_last
  · refine lim_le ?_
    rw [List.length_map, (sortBy_perm lexLt (ords xs N)).length_eq]; simp [ords]; omega
  · rintro v hv σ ⟨x, y, rfl⟩
    obtain ⟨t, ht, rfl⟩ := List.mem_map.mp hv
    obtain ⟨k, _, rfl⟩ := List.mem_map.mp ((sortBy_perm _ _).mem_iff.mp ht)
    exact ⟨[some (.int (xs.getD (36 + k) 0)), some (.int k)], by simp, ⟨_, _, rfl⟩, rfl, fun _ => rfl⟩
  · have e : (List.map (fun v => PV.int (snd1 v)) (List.filter (fun _ => true) ((sortBy lexLt (ords xs N)).map fun t => PV.tup (t.map .int)))) = (ord xs N).map .int := by
      rw [List.filter_eq_self.mpr fun _ _ => rfl, List.map_map, ord, List.map_map]
      refine List.map_congr_left fun t ht => ?_
      obtain ⟨k, _, rfl⟩ := List.mem_map.mp ((sortBy_perm _ _).mem_iff.mp ht)
      rfl
    rw [e, List.length_append, hBl]
    rfl
structure WF (A B : PHp) (a o f : Nat) (xs : List Int) (N : Nat) (ps : List (Int × Int)) : Prop where
  pre : A <+: B
  above : A.length ≤ f
  sx : B[a]? = some (.lst (xs.map .int))
  so : B[o]? = some (.lst ((ord xs N).map .int))
  sf : B[f]? = some (.lst (pvs ps))
theorem WF.put {A B : PHp} {a o f : Nat} {xs : List Int} {N : Nat} {ps : List (Int × Int)} (W : WF A B a o f xs N ps) (haf : a ≠ f) (hof : o ≠ f) (p : Int × Int) : WF A (B.set f (.lst (pvs (ps ++ [p])))) a o f xs N (ps ++ [p]) :=
  ⟨pre_set W.pre W.above, W.above, by rw [get_set_ne haf]; exact W.sx, by rw [get_set_ne hof]; exact W.so, get_set W.sf⟩
structure Pr (N : Nat) (ps : List (Int × Int)) (L : Nat) : Prop where
  good : ∀ p ∈ ps, good N p
  nd : ps.Nodup
  len : ps.length ≤ L
theorem Pr.put {N L : Nat} {ps : List (Int × Int)} (h : Pr N ps L) {p : Int × Int} (hg : Ws.good N p) (hn : p ∉ ps) : Pr N (ps ++ [p]) (L + 1) := by
  refine ⟨fun q hq => ?_, ?_, by rw [List.length_append]; have := h.len; simp; omega⟩
  · rcases List.mem_append.mp hq with z | z
    · exact h.good q z
    · simp at z; subst z; exact hg
  · rw [List.nodup_append]
    refine ⟨h.nd, by simp, ?_⟩
    intro x hx y hy
    simp at hy; subst hy
    rintro rfl; exact hn hx
theorem append_ok {e v : ED} {σ : PSt} {B : PHp} {f : Nat} {l : List PV} {u : PV} (he : e σ B = .ok (.ref f) B) (hf : B[f]? = some (.lst l)) (hv : v σ B = .ok u B) (hl : l.length < LIM) :
    eAppend e v σ B = .ok .non (B.set f (.lst (l ++ [u]))) := by
  show bnd (e σ) _ B = _
  rw [bnd_ok he]
  show bnd (mutAt f) _ B = _
  rw [bnd_ok (mutAt_lst hf), bnd_ok hv, bnd_ok (mutAt_lst hf), guard_pos hl]
  rfl
theorem ix_ok {e i : ED} {σ : PSt} {B : PHp} {a : Nat} {l : List PV} {k : Int} {u : PV} (he : e σ B = .ok (.ref a) B) (hi : i σ B = .ok (.int k) B) (ha : lstAt a B = .ok l B) (hk : atI l k = some u) : eBin oIx e i σ B = .ok u B := by
  show bnd (e σ) _ B = _
  rw [bnd_ok he, bnd_ok hi]
  show bnd (lstAt a) _ B = _
  rw [bnd_ok ha, hk]; rfl
theorem tup2_ok {e1 e2 : ED} {σ : PSt} {A A1 A2 : PHp} {u v : PV} (h1 : e1 σ A = .ok u A1) (h2 : e2 σ A1 = .ok v A2) : eTup (aCons e1 (aCons e2 aNil)) σ A = .ok (.tup [u, v]) A2 := by
  have h : aCons e1 (aCons e2 aNil) σ A = .ok [u, v] A2 := by
    show bnd (e1 σ) _ A = _
    rw [bnd_ok h1]
    have h3 : aCons e2 aNil σ A1 = .ok [v] A2 := by
      show bnd (e2 σ) _ A1 = _
      rw [bnd_ok h2]; rfl
    show bnd (aCons e2 aNil σ) _ A1 = _
    rw [bnd_ok h3]; rfl
  show bnd (aCons e1 (aCons e2 aNil) σ) _ A = _
  rw [bnd_ok h, guard_pos (by simp)]; rfl
theorem web_l1 {A B : PHp} {a o f : Nat} {xs : List Int} {N : Nat} (c : Int) (hN : N ≤ 6) (h2 : 2 ≤ N) (haf : a ≠ f) (hof : o ≠ f) (W : WF A B a o f xs N []) :
    Comes (f_law_web_l1 (wst c N a o f none none none none) B) (fun σ B' => ∃ k ps, σ = wst c N a o f k none none none ∧ WF A B' a o f xs N ps ∧ Pr N ps N) (fun _ _ => False) := by
  unfold f_law_web_l1
  refine for_rng' (lo := 0) (n := N) (A1 := B) (rng1_nat hN (by rfl)) (fun i σ B' => i ≤ N ∧ ∃ k ps, σ = wst c N a o f k none none none ∧ WF A B' a o f xs N ps ∧ Pr N ps i ∧ ps.map (·.2) = (ord xs N).take i)
    ⟨Nat.zero_le _, none, [], rfl, W, ⟨by simp, by simp, by simp⟩, rfl⟩ ?_ (fun σ B' ⟨_, k, ps, h1, h2, h3, _⟩ => ⟨k, ps, h1, h2, h3⟩)
  rintro i σ B' hi ⟨_, k, ps, rfl, W', hp, hm⟩
  have hol := ord_len xs N
  have hin : i < (ord xs N).length := by omega
  obtain ⟨j, hj, hji, hat⟩ : ∃ j, ∃ hj : j < (ord xs N).length, j ≠ i ∧ atI ((ord xs N).map PV.int) ((i : Int) - 1) = some (.int (ord xs N)[j]) := by
    by_cases h0 : i = 0
    · subst h0
      refine ⟨N - 1, by omega, by omega, ?_⟩
      unfold atI ixN
      rw [if_neg (by omega), if_pos (by simp; omega)]
      have : (((0 : Nat) : Int) - 1 + (((ord xs N).map PV.int).length : Int)).toNat = N - 1 := by rw [List.length_map, hol]; omega
      rw [this]
      simp [hol, show N - 1 < N by omega]
    · refine ⟨i - 1, by omega, by omega, ?_⟩
      rw [show (i : Int) - 1 = ((i - 1 : Nat) : Int) by omega]
      exact at_map (by omega)
  have hne : (ord xs N)[j] ≠ (ord xs N)[i] := by
    intro z
    rcases Nat.lt_or_gt_of_ne hji with h | h
    · exact List.pairwise_iff_getElem.mp (ord_nd xs N) j i hj hin h z
    · exact List.pairwise_iff_getElem.mp (ord_nd xs N) i j hin hj h z.symm
  have hg : good N ((ord xs N)[j], (ord xs N)[i]) := ⟨ord_mem (List.getElem_mem hj), ord_mem (List.getElem_mem hin), hne⟩
  have hnew : ((ord xs N)[j], (ord xs N)[i]) ∉ ps := by
    intro hmem
    have h1 : (ord xs N)[i] ∈ (ord xs N).take i := by rw [← hm]; exact List.mem_map.mpr ⟨_, hmem, rfl⟩
    obtain ⟨q, hq, e⟩ := List.mem_iff_getElem.mp h1
    rw [List.length_take] at hq
    rw [List.getElem_take] at e
    exact List.pairwise_iff_getElem.mp (ord_nd xs N) q i (by omega) hin (by omega) e
  refine Turns.nx (σ := wst c N a o f (some (.int i)) none none none) (A := B'.set f (.lst (pvs (ps ++ [((ord xs N)[j], (ord xs N)[i])])))) ?_ ⟨hi, some (.int i), _, rfl, W'.put haf hof _, hp.put hg hnew, ?_⟩
  · have ho := lstAt_lst W'.so
    have e1 := append_ok (e := eVar 4) (v := eTup (aCons (eBin oIx (eVar 3) (eBin oSub (eVar 5) (eK (.int 1)))) (aCons (eBin oIx (eVar 3) (eVar 5)) aNil))) (σ := wst c N a o f (some (.int i)) none none none) (B := B') (f := f) (u := pv ((ord xs N)[j], (ord xs N)[i]))
      rfl W'.sf (by
        have x1 := ix_ok (e := eVar 3) (i := eBin oSub (eVar 5) (eK (.int 1))) (σ := wst c N a o f (some (.int i)) none none none) (B := B') rfl rfl ho hat
        have x2 := ix_ok (e := eVar 3) (i := eVar 5) (σ := wst c N a o f (some (.int i)) none none none) (B := B') rfl rfl ho (at_map hin)
        exact tup2_ok x1 x2) (lim_lt (by rw [pvs, List.length_map]; have := hp.len; omega))
    have e2 : bnd (gName 5 (PV.int (0 + (i : Int))) (wst c N a o f k none none none)) f_law_web_b1 B' = f_law_web_b1 (wst c N a o f (some (.int i)) none none none) B' := by simp [wst]
    rw [e2]
    unfold f_law_web_b1
    show bnd (eAppend _ _ _) _ B' = _
    rw [bnd_ok e1]
    simp [pvs]
  · rw [List.map_append, hm, List.map_cons, List.map_nil, List.take_succ_eq_append_getElem hin]
theorem web_b3 {A B : PHp} {a o f : Nat} {xs : List Int} {N : Nat} (c : Int) (hx : xs.length = 46) (hN : N ≤ 6) (h2 : 2 ≤ N) (haf : a ≠ f) (hof : o ≠ f) {k d : Option PV} {g t : Nat} (hg : g < N) (ht : t < N) {ps : List (Int × Int)} {L : Nat} (hL : L ≤ 100) (W : WF A B a o f xs N ps) (P : Pr N ps L) :
    ∃ d' B' ps', f_law_web_b3 (wst c N a o f k (some (.int g)) (some (.int t)) d) B = .ok (.nx (wst c N a o f k (some (.int g)) (some (.int t)) d')) B' ∧ WF A B' a o f xs N ps' ∧ Pr N ps' (L + 1) := by
  have hlt : 6 * g + t < xs.length := by omega
  have ha := lstAt_lst W.sx
  have hpos : 0 < 2 + xs[43] % 5 := by have := Int.emod_nonneg xs[43] (show (5 : Int) ≠ 0 by decide); omega
  have e1 : eBin oEq (eBin oMod (eBin oIx (eVar 1) (eBin oAdd (eBin oMul (eK (.int 6)) (eVar 6)) (eVar 7))) (eBin oAdd (eK (.int 2)) (eBin oMod (eBin oIx (eVar 1) (eK (.int 43))) (eK (.int 5))))) (eK (.int 0))
      (wst c N a o f k (some (.int g)) (some (.int t)) d) B = .ok (.bl (decide (xs[6 * g + t] % (2 + xs[43] % 5) = 0))) B := by
    have x1 := ix_ok (e := eVar 1) (i := eBin oAdd (eBin oMul (eK (.int 6)) (eVar 6)) (eVar 7)) (σ := wst c N a o f k (some (.int g)) (some (.int t)) d) (B := B) (k := ((6 * g + t : Nat) : Int)) rfl (by simp [wst]) ha (at_map hlt)
    have x2 := ix_ok (e := eVar 1) (i := eK (.int 43)) (σ := wst c N a o f k (some (.int g)) (some (.int t)) d) (B := B) (k := (43 : Nat)) rfl rfl ha (at_map (by omega))
    have x3 : eBin oAdd (eK (.int 2)) (eBin oMod (eBin oIx (eVar 1) (eK (.int 43))) (eK (.int 5))) (wst c N a o f k (some (.int g)) (some (.int t)) d) B = .ok (.int (2 + xs[43] % 5)) B := by
      show bnd (bnd (eBin oIx (eVar 1) (eK (.int 43)) _) _) _ B = _
      rw [bnd_ok (show bnd (eBin oIx (eVar 1) (eK (.int 43)) (wst c N a o f k (some (.int g)) (some (.int t)) d)) _ B = .ok (.int (xs[43] % 5)) B by rw [bnd_ok x2]; exact modk _ _ _ (by decide))]
      rfl
    have x4 : eBin oMod (eBin oIx (eVar 1) (eBin oAdd (eBin oMul (eK (.int 6)) (eVar 6)) (eVar 7))) (eBin oAdd (eK (.int 2)) (eBin oMod (eBin oIx (eVar 1) (eK (.int 43))) (eK (.int 5)))) (wst c N a o f k (some (.int g)) (some (.int t)) d) B = .ok (.int (xs[6 * g + t] % (2 + xs[43] % 5))) B := by
      show bnd (eBin oIx (eVar 1) _ _) _ B = _
      rw [bnd_ok x1, bnd_ok x3]
      show guard (0 < 2 + xs[43] % 5) (ret _) B = _
      rw [guard_pos hpos]; rfl
    show bnd (eBin oMod _ _ _) _ B = _
    rw [bnd_ok x4]
    simp [plain, eqv]
  have e2 := asg_ok (g := gName 8) e1 (σ' := wst c N a o f k (some (.int g)) (some (.int t)) (some (.bl (decide (xs[6 * g + t] % (2 + xs[43] % 5) = 0))))) (A'' := B) rfl
  unfold f_law_web_b3
  rw [seq_nx e2]
  generalize decide (xs[6 * g + t] % (2 + xs[43] % 5) = 0) = b
  have n1 : tVal (eBin oNe (eVar 6) (eVar 7)) (wst c N a o f k (some (.int g)) (some (.int t)) (some (.bl b))) B = .ok (!decide ((g : Int) = t)) B := by
    simp [wst, plain, eqv]
  have n2 : tVal (eVar 8) (wst c N a o f k (some (.int g)) (some (.int t)) (some (.bl b))) B = .ok b B := rfl
  have n3 : tVal (eBin oNotIn (eTup (aCons (eVar 6) (aCons (eVar 7) aNil))) (eVar 4)) (wst c N a o f k (some (.int g)) (some (.int t)) (some (.bl b))) B = .ok (!decide (((g : Int), (t : Int)) ∈ ps)) B := by
    have y1 : eTup (aCons (eVar 6) (aCons (eVar 7) aNil)) (wst c N a o f k (some (.int g)) (some (.int t)) (some (.bl b))) B = .ok (pv ((g : Int), (t : Int))) B := tup2_ok rfl rfl
    show bnd (bnd (eTup _ _) _) _ B = _
    rw [bnd_ok (show bnd (eTup (aCons (eVar 6) (aCons (eVar 7) aNil)) (wst c N a o f k (some (.int g)) (some (.int t)) (some (.bl b)))) _ B = .ok (.bl (!decide (((g : Int), (t : Int)) ∈ ps))) B by
      rw [bnd_ok y1]
      show bnd (lstAt f) _ B = _
      rw [bnd_ok (lstAt_lst W.sf), guard_pos ⟨pv_plain _, pvs_plain _⟩, pIn_pvs]; rfl)]
    rfl
  by_cases hc : ((g : Int) ≠ t) ∧ b = true ∧ ((g : Int), (t : Int)) ∉ ps
  · obtain ⟨c1, c2, c3⟩ := hc
    refine ⟨some (.bl b), B.set f (.lst (pvs (ps ++ [((g : Int), (t : Int))]))), ps ++ [((g : Int), (t : Int))], ?_, W.put haf hof _, P.put ⟨by constructor <;> omega, by constructor <;> omega, c1⟩ c3⟩
    rw [if_t (A' := B) (by
      show bnd (tVal _ _) _ B = _
      rw [bnd_ok n1, if_pos (by simp [c1])]
      show bnd (tVal _ _) _ B = _
      rw [bnd_ok n2, if_pos c2, n3]; simp [c3])]
    have y1 : eTup (aCons (eVar 6) (aCons (eVar 7) aNil)) (wst c N a o f k (some (.int g)) (some (.int t)) (some (.bl b))) B = .ok (pv ((g : Int), (t : Int))) B := tup2_ok rfl rfl
    have y2 := append_ok (e := eVar 4) (v := eTup (aCons (eVar 6) (aCons (eVar 7) aNil))) (σ := wst c N a o f k (some (.int g)) (some (.int t)) (some (.bl b))) (B := B) rfl W.sf y1 (lim_lt (by rw [pvs, List.length_map]; have := P.len; omega))
    show bnd (eAppend _ _ _) _ B = _
    rw [bnd_ok y2]
    simp [pvs]
  · refine ⟨some (.bl b), B, ps, ?_, W, ⟨P.good, P.nd, Nat.le_succ_of_le P.len⟩⟩
    rw [if_f (A' := B) (by
      show bnd (tVal _ _) _ B = _
      rw [bnd_ok n1]
      by_cases c1 : (g : Int) = t
      · rw [if_neg (by simp [c1])]; rfl
      · rw [if_pos (by simp [c1])]
        show bnd (tVal _ _) _ B = _
        rw [bnd_ok n2]
        by_cases c2 : b = true
        · rw [if_pos c2, n3]
          have c3 : ((g : Int), (t : Int)) ∈ ps := Classical.byContradiction fun z => hc ⟨c1, c2, z⟩
          simp [c3]
        · rw [if_neg c2]; rfl)]
    rfl
theorem web_l2 {A B : PHp} {a o f : Nat} {xs : List Int} {N : Nat} (c : Int) (hx : xs.length = 46) (hN : N ≤ 6) (h2 : 2 ≤ N) (haf : a ≠ f) (hof : o ≠ f) {k : Option PV} {ps : List (Int × Int)} (W : WF A B a o f xs N ps) (P : Pr N ps N) :
    Comes (f_law_web_l2 (wst c N a o f k none none none) B) (fun σ B' => ∃ g t d ps, σ = wst c N a o f k g t d ∧ WF A B' a o f xs N ps ∧ Pr N ps 50) (fun _ _ => False) := by
  unfold f_law_web_l2
  refine for_rng' (lo := 0) (n := N) (A1 := B) (rng1_nat hN (by rfl)) (fun i σ B' => ∃ g t d ps, σ = wst c N a o f k g t d ∧ WF A B' a o f xs N ps ∧ Pr N ps (6 + 6 * i)) ⟨none, none, none, ps, rfl, W, ⟨P.good, P.nd, by have := P.len; omega⟩⟩ ?_
    (fun σ B' ⟨g, t, d, ps, h1, h2, h3⟩ => ⟨g, t, d, ps, h1, h2, ⟨h3.good, h3.nd, by have := h3.len; omega⟩⟩)
  rintro i σ B' hi ⟨g, t, d, ps, rfl, W', P'⟩
  have e : bnd (gName 6 (PV.int (0 + (i : Int))) (wst c N a o f k g t d)) f_law_web_b2 B' = f_law_web_l3 (wst c N a o f k (some (.int i)) t d) B' := by simp [wst, f_law_web_b2]
  rw [e]
  refine Comes.turns ?_
  unfold f_law_web_l3
  refine for_rng' (lo := 0) (n := N) (A1 := B') (rng1_nat hN (by rfl)) (fun j σ B' => ∃ t d ps, σ = wst c N a o f k (some (.int i)) t d ∧ WF A B' a o f xs N ps ∧ Pr N ps (6 + 6 * i + j)) ⟨t, d, ps, rfl, W', P'⟩ ?_
    (fun σ B' ⟨t, d, ps, h1, h2, h3⟩ => ⟨_, t, d, ps, h1, h2, ⟨h3.good, h3.nd, by have := h3.len; omega⟩⟩)
  rintro j σ B2 hj ⟨t, d, ps, rfl, W2, P2⟩
  obtain ⟨d', B3, ps', e3, W3, P3⟩ := web_b3 c hx hN h2 haf hof (k := k) (d := d) hi hj (by omega) W2 P2
  have e' : bnd (gName 7 (PV.int (0 + (j : Int))) (wst c N a o f k (some (.int i)) t d)) f_law_web_b3 B2 = f_law_web_b3 (wst c N a o f k (some (.int i)) (some (.int j)) d) B2 := by simp [wst]
  rw [e']
  exact Turns.nx e3 ⟨some (.int j), d', ps', rfl, W3, P3⟩
theorem cut_from {α : Type} (xs : List α) (i : Nat) : cut xs (some (i : Int)) none = xs.drop i := by
  unfold cut cutIx
  simp only
  rw [if_neg (by omega)]
  rw [show (min (i : Int) (xs.length : Int)).toNat = min i xs.length by omega]
  by_cases h : i ≤ xs.length
  · rw [Nat.min_eq_left h, List.take_of_length_le (by simp)]
  · rw [Nat.min_eq_right (by omega), List.drop_length, List.drop_eq_nil_of_le (by omega)]; simp
theorem lAt_ok {i : ED} {σ : PSt} {A B : PHp} {j : Int} (hi : i σ A = .ok (.int j) B) : lAt i σ A = .ok (some j) B := by
  show bnd (i σ) _ A = _
  rw [bnd_ok hi]; rfl
theorem bin_ok {f : OD} {a b : ED} {σ : PSt} {A A1 A2 A3 : PHp} {x y z : PV} (ha : a σ A = .ok x A1) (hb : b σ A1 = .ok y A2) (hf : f x y A2 = .ok z A3) : eBin f a b σ A = .ok z A3 := by
  show bnd (a σ) _ A = _
  rw [bnd_ok ha, bnd_ok hb, hf]
theorem tval_ok {e : ED} {σ : PSt} {A A1 : PHp} {b : Bool} (h : e σ A = .ok (.bl b) A1) : tVal e σ A = .ok b A1 := by
  show bnd (e σ) _ A = _
  rw [bnd_ok h]; rfl
theorem cutfrom_ok {e i : ED} {σ : PSt} {B : PHp} {a j : Nat} {l : List PV} (he : e σ B = .ok (.ref a) B) (hi : i σ B = .ok (.int j) B) (ha : lstAt a B = .ok l B) : eCut e (lAt i) lNo σ B = .ok (.ref B.length) (B ++ [.lst (l.drop j)]) := by
  show bnd (e σ) _ B = _
  rw [bnd_ok he]
  show bnd (lAt i σ) _ B = _
  rw [bnd_ok (lAt_ok hi)]
  show bnd (lstAt a) _ B = _
  rw [bnd_ok ha, cut_from]; rfl
theorem cutto_ok {e i : ED} {σ : PSt} {B : PHp} {a j : Nat} {l : List PV} (he : e σ B = .ok (.ref a) B) (hi : i σ B = .ok (.int j) B) (ha : lstAt a B = .ok l B) : eCut e lNo (lAt i) σ B = .ok (.ref B.length) (B ++ [.lst (l.take j)]) := by
  show bnd (e σ) _ B = _
  rw [bnd_ok he]
  show bnd (lAt i σ) _ B = _
  rw [bnd_ok (lAt_ok hi)]
  show bnd (lstAt a) _ B = _
  rw [bnd_ok ha, cut_to]; rfl
end Ws
namespace Ws
theorem web_ok (c : Int) (A : PHp) : ∃ (n : Int) (ps : List (Int × Int)) (A' : PHp) (r : Nat), f_law_web [.int c] A = .ok (.tup [.int n, .ref r]) A' ∧ A <+: A' ∧ A'[r]? = some (.lst (pvs ps)) ∧ Passings n ps ∧ A.length ≤ r := by
  obtain ⟨xs, hx, hx0, es⟩ := stream_ok c 46 (by decide) A
  have h45 := Int.emod_nonneg xs[45] (show (5 : Int) ≠ 0 by decide)
  have h45' := Int.emod_lt_of_pos xs[45] (show (0 : Int) < 5 by decide)
  obtain ⟨N, hNn, h2, hN⟩ : ∃ N : Nat, (2 : Int) + xs[45] % 5 = (N : Int) ∧ 2 ≤ N ∧ N ≤ 6 := ⟨(2 + xs[45] % 5).toNat, by omega, by omega, by omega⟩
  have hA0 : (A ++ [PO.lst (xs.map .int)])[A.length]? = some (.lst (xs.map .int)) := get_app
  have eo := web_order (c := c) hx N hN A
  generalize hB4 : A ++ [PO.lst (xs.map .int)] ++ [PO.lst ((ords xs N).map fun t => PV.tup (t.map .int))] ++ [PO.lst ((sortBy lexLt (ords xs N)).map fun t => PV.tup (t.map .int))] ++ [PO.lst ((ord xs N).map .int)] = B4 at eo
  have hl4 : B4.length = A.length + 4 := by rw [← hB4]; simp
  have hp4 : A ++ [PO.lst (xs.map .int)] <+: B4 := by rw [← hB4]; exact pre_app (pre_app (List.prefix_append _ _))
  have ha4 := pre_get hp4 hA0
  have ho4 : B4[A.length + 3]? = some (.lst ((ord xs N).map .int)) := by
    rw [← hB4]
    have : A.length + 3 = (A ++ [PO.lst (xs.map .int)] ++ [PO.lst ((ords xs N).map fun t => PV.tup (t.map .int))] ++ [PO.lst ((sortBy lexLt (ords xs N)).map fun t => PV.tup (t.map .int))]).length := by simp
    rw [this]; exact get_app
  have W0 : WF A (B4 ++ [.lst []]) A.length (A.length + 3) B4.length xs N [] := ⟨pre_app ((List.prefix_append _ _).trans hp4), by omega, get_app_of ha4, get_app_of ho4, get_app⟩
  have haf : A.length ≠ B4.length := by omega
  have hof : A.length + 3 ≠ B4.length := by omega
  have ix (j : Nat) (hj : j < 46) {σ : PSt} {B : PHp} (hσ : σ[1]? = some (some (.ref A.length))) (hB : B[A.length]? = some (.lst (xs.map .int))) : eBin oIx (eVar 1) (eK (.int j)) σ B = .ok (.int xs[j]) B :=
    ix_ok (k := (j : Int)) (by simp [hσ]) rfl (lstAt_lst hB) (at_map (by omega))
  obtain ⟨k, ps1, B5, e5, W1, P1⟩ : ∃ k ps1 B5, sIf (tVal (eBin oGt (eBin oMod (eBin oIx (eVar 1) (eK (.int 42))) (eK (.int 3))) (eK (.int 0)))) f_law_web_l1 sPass (wst c N A.length (A.length + 3) B4.length none none none none) (B4 ++ [.lst []]) = .ok (.nx (wst c N A.length (A.length + 3) B4.length k none none none)) B5 ∧
      WF A B5 A.length (A.length + 3) B4.length xs N ps1 ∧ Pr N ps1 N := by
    have t : tVal (eBin oGt (eBin oMod (eBin oIx (eVar 1) (eK (.int 42))) (eK (.int 3))) (eK (.int 0))) (wst c N A.length (A.length + 3) B4.length none none none none) (B4 ++ [.lst []]) = .ok (decide ((0 : Int) < xs[42] % 3)) (B4 ++ [.lst []]) := by
      have x := ix 42 (by decide) (σ := wst c N A.length (A.length + 3) B4.length none none none none) (B := B4 ++ [.lst []]) rfl W0.sx
      exact tval_ok (bin_ok (bin_ok x rfl (modk _ _ _ (by decide))) rfl rfl)
    by_cases h : (0 : Int) < xs[42] % 3
    · obtain ⟨σ, B5, e, k, ps, rfl, W, P⟩ := (web_l1 c hN h2 haf hof W0).end
      exact ⟨k, ps, B5, by rw [if_t (A' := B4 ++ [.lst []]) (by rw [t, decide_eq_true h]), e], W, P⟩
    · exact ⟨none, [], _, by rw [if_f (A' := B4 ++ [.lst []]) (by rw [t, decide_eq_false h])]; rfl, W0, ⟨by simp, by simp, by simp⟩⟩
  obtain ⟨σ6, B6, e6, g, t, d, ps, rfl, W2, P2⟩ := (web_l2 c hx hN h2 haf hof W1 P1 (k := k)).end
  have h44 := Int.emod_nonneg xs[44] (show ((ps.length : Int) + 1) ≠ 0 by omega)
  have h44' := Int.emod_lt_of_pos xs[44] (show (0 : Int) < (ps.length : Int) + 1 by omega)
  obtain ⟨q, hq⟩ : ∃ q : Nat, xs[44] % ((ps.length : Int) + 1) = (q : Int) := ⟨(xs[44] % ((ps.length : Int) + 1)).toNat, by omega⟩
  let σ7 : PSt := [some (.int c), some (.ref A.length), some (.int N), some (.ref (A.length + 3)), some (.ref B4.length), k, g, t, d, some (.int q)]
  have e7 : sAsg (eBin oMod (eBin oIx (eVar 1) (eK (.int 44))) (eBin oAdd (eLen (eVar 4)) (eK (.int 1)))) (gName 9) (wst c N A.length (A.length + 3) B4.length k g t d) B6 = .ok (.nx σ7) B6 := by
    have x := ix 44 (by decide) (σ := wst c N A.length (A.length + 3) B4.length k g t d) (B := B6) rfl W2.sx
    have x2 : eBin oAdd (eLen (eVar 4)) (eK (.int 1)) (wst c N A.length (A.length + 3) B4.length k g t d) B6 = .ok (.int ((ps.length : Int) + 1)) B6 := by
      simp [wst, W2.sf, pvs]
    refine asg_ok (v := .int q) (A' := B6) (bin_ok x x2 ?_) rfl
    rw [modk _ _ _ (by omega), hq]
  have e8 : sRet (eTup (aCons (eVar 2) (aCons (eBin oAdd (eCut (eVar 4) (lAt (eVar 9)) lNo) (eCut (eVar 4) lNo (lAt (eVar 9)))) aNil))) σ7 B6 =
      .ok (.rt (.tup [.int N, .ref (B6.length + 2)])) (B6 ++ [.lst ((pvs ps).drop q)] ++ [.lst ((pvs ps).take q)] ++ [.lst ((pvs ps).drop q ++ (pvs ps).take q)]) := by
    have x1 : eCut (eVar 4) (lAt (eVar 9)) lNo σ7 B6 = .ok (.ref B6.length) (B6 ++ [.lst ((pvs ps).drop q)]) := cutfrom_ok rfl rfl (lstAt_lst W2.sf)
    have x2 : eCut (eVar 4) lNo (lAt (eVar 9)) σ7 (B6 ++ [.lst ((pvs ps).drop q)]) = .ok (.ref (B6.length + 1)) (B6 ++ [.lst ((pvs ps).drop q)] ++ [.lst ((pvs ps).take q)]) := by
      have := cutto_ok (e := eVar 4) (i := eVar 9) (σ := σ7) (B := B6 ++ [.lst ((pvs ps).drop q)]) (j := q) rfl rfl (lstAt_lst (get_app_of W2.sf))
      rw [this]; simp
    have m1 : mutAt B6.length (B6 ++ [.lst ((pvs ps).drop q)] ++ [.lst ((pvs ps).take q)]) = .ok ((pvs ps).drop q) (B6 ++ [.lst ((pvs ps).drop q)] ++ [.lst ((pvs ps).take q)]) := mutAt_lst (get_app_of get_app)
    have m2 : mutAt (B6.length + 1) (B6 ++ [.lst ((pvs ps).drop q)] ++ [.lst ((pvs ps).take q)]) = .ok ((pvs ps).take q) (B6 ++ [.lst ((pvs ps).drop q)] ++ [.lst ((pvs ps).take q)]) := by
      have := get_app (A := B6 ++ [PO.lst ((pvs ps).drop q)]) (o := .lst ((pvs ps).take q))
      rw [List.length_append] at this
      exact mutAt_lst this
    have x3 : eBin oAdd (eCut (eVar 4) (lAt (eVar 9)) lNo) (eCut (eVar 4) lNo (lAt (eVar 9))) σ7 B6 = .ok (.ref (B6.length + 2)) (B6 ++ [.lst ((pvs ps).drop q)] ++ [.lst ((pvs ps).take q)] ++ [.lst ((pvs ps).drop q ++ (pvs ps).take q)]) := by
      show bnd (eCut _ _ _ _) _ _ = _
      rw [bnd_ok x1, bnd_ok x2]
      show bnd (mutAt _) _ _ = _
      rw [bnd_ok m1, bnd_ok m2, guard_pos (lim_le (by have := P2.len; simp [pvs]; omega))]
      show R.ok (PV.ref _) _ = _
      simp
    have x4 := tup2_ok (e1 := eVar 2) (e2 := eBin oAdd (eCut (eVar 4) (lAt (eVar 9)) lNo) (eCut (eVar 4) lNo (lAt (eVar 9)))) (σ := σ7) (A := B6) (A1 := B6) (u := .int N) rfl x3
    show bnd (eTup _ _) _ _ = _
    rw [bnd_ok x4]; rfl
  have hperm : (ps.drop q ++ ps.take q).Perm ps := by
    refine List.perm_append_comm.trans ?_
    rw [List.take_append_drop]
  refine ⟨N, ps.drop q ++ ps.take q, B6 ++ [.lst ((pvs ps).drop q)] ++ [.lst ((pvs ps).take q)] ++ [.lst ((pvs ps).drop q ++ (pvs ps).take q)], B6.length + 2, ?_, pre_app (pre_app (pre_app W2.pre)), ?_,
    ⟨by omega, by omega, fun p hp => P2.good p (hperm.mem_iff.mp hp), hperm.nodup_iff.mpr P2.nd, by rw [hperm.length_eq]; have := P2.len; omega⟩, by have := pre_len W2.pre; omega⟩
  · unfold f_law_web
    refine fn_rt rfl ?_
    rw [seq_nx (σ' := [some (.int c), some (.ref A.length), none, none, none, none, none, none, none, none]) (A' := A ++ [.lst (xs.map .int)]) (by
      refine asg_ok (v := .ref A.length) (A' := A ++ [.lst (xs.map .int)]) ?_ rfl
      exact es)]
    rw [seq_nx (σ' := [some (.int c), some (.ref A.length), some (.int N), none, none, none, none, none, none, none]) (A' := A ++ [.lst (xs.map .int)]) (by
      refine asg_ok (v := .int N) (A' := A ++ [.lst (xs.map .int)]) ?_ rfl
      have x := ix 45 (by decide) (σ := [some (.int c), some (.ref A.length), none, none, none, none, none, none, none, none]) (B := A ++ [.lst (xs.map .int)]) rfl hA0
      refine bin_ok rfl (bin_ok x rfl (modk _ _ _ (by decide))) ?_
      show R.ok (PV.int ((2 : Int) + xs[45] % 5)) _ = _
      rw [hNn])]
    rw [seq_nx (asg_ok (g := gName 3) eo (σ' := [some (.int c), some (.ref A.length), some (.int N), some (.ref (A.length + 3)), none, none, none, none, none, none]) (A'' := B4) rfl)]
    rw [seq_nx (asg_ok (g := gName 4) (eLst_nil _ _) (σ' := wst c N A.length (A.length + 3) B4.length none none none none) (A'' := B4 ++ [.lst []]) rfl)]
    rw [seq_nx e5, seq_nx e6, seq_nx e7]
    exact e8
  · have := get_app (A := B6 ++ [PO.lst ((pvs ps).drop q)] ++ [PO.lst ((pvs ps).take q)]) (o := .lst ((pvs ps).drop q ++ (pvs ps).take q))
    rw [show B6.length + 2 = (B6 ++ [PO.lst ((pvs ps).drop q)] ++ [PO.lst ((pvs ps).take q)]).length by simp, this]
    simp [pvs]
end Ws
namespace Ws
theorem ltP_iff (p q : Int × Int) : ltP p q = true ↔ p.1 < q.1 ∨ (p.1 = q.1 ∧ p.2 < q.2) := by
  unfold ltP l2 lexLt lexLt
  by_cases h : p.1 = q.1
  · by_cases h2 : p.2 = q.2 <;> simp [h, h2, lexLt]
  · simp [h]
theorem ltP_false (p q : Int × Int) : ltP p q = false ↔ ¬ (p.1 < q.1 ∨ (p.1 = q.1 ∧ p.2 < q.2)) := by
  rw [← ltP_iff]; simp
theorem srt_sorted (ps : List (Int × Int)) : (srt ps).Pairwise (fun p q => ltP q p = false) := by
  refine sortBy_sorted ?_ ?_ ps
  · intro a b h; rw [ltP_iff] at h; rw [ltP_false]; omega
  · intro a b c h1 h2; rw [ltP_false] at *; omega
theorem takers_len (ps : List (Int × Int)) (h : Int) : (takers ps h).length ≤ ps.length := by
  unfold takers; rw [List.length_map]; exact List.length_filter_le _ _
theorem args2_ok {e1 e2 : ED} {σ : PSt} {A A1 A2 : PHp} {u v : PV} (h1 : e1 σ A = .ok u A1) (h2 : e2 σ A1 = .ok v A2) : aCons e1 (aCons e2 aNil) σ A = .ok [u, v] A2 := by
  show bnd (e1 σ) _ A = _
  rw [bnd_ok h1]
  have h3 : aCons e2 aNil σ A1 = .ok [v] A2 := by
    show bnd (e2 σ) _ A1 = _
    rw [bnd_ok h2]; rfl
  show bnd (aCons e2 aNil σ) _ A1 = _
  rw [bnd_ok h3]; rfl
theorem args1_ok {e1 : ED} {σ : PSt} {A A1 : PHp} {u : PV} (h1 : e1 σ A = .ok u A1) : aCons e1 aNil σ A = .ok [u] A1 := by
  show bnd (e1 σ) _ A = _
  rw [bnd_ok h1]; rfl
theorem call_ok {f : Fun} {es : AD} {σ : PSt} {A A1 A2 : PHp} {vs : List PV} {v : PV} (h : es σ A = .ok vs A1) (hf : f vs A1 = .ok v A2) : eCall f es σ A = .ok v A2 := by
  show bnd (es σ) _ A = _
  rw [bnd_ok h, hf]
theorem meth_ok {c : Nat} {f : Fun} {a : ED} {es : AD} {σ : PSt} {A A1 A2 A3 : PHp} {n : Nat} {fs : List (Nat × PV)} {vs : List PV} {v : PV} (ha : a σ A = .ok (.ref n) A1) (ho : A1[n]? = some (.ins c fs)) (h : es σ A1 = .ok vs A2) (hf : f (.ref n :: vs) A2 = .ok v A3) : eMeth c f a es σ A = .ok v A3 := by
  show bnd (a σ) _ A = _
  rw [bnd_ok ha]
  show bnd (insAt n) _ A1 = _
  rw [bnd_ok (show insAt n A1 = .ok (c, fs) A1 by unfold insAt; rw [ho]), guard_pos rfl, bnd_ok h, hf]
end Ws
namespace Ws
inductive Way (ps : List (Int × Int)) (u : PV) (h : Int) : Int → Prop
  | here : Way ps u h h
  | step {a b : Int} : Way ps u h a → (a, b) ∈ ps → PV.int b ≠ u → Way ps u h b
noncomputable def hands (N : Nat) : List Int := (List.range N).map fun (k : Nat) => (k : Int)
theorem mem_hands {N : Nat} {x : Int} : x ∈ hands N ↔ 0 ≤ x ∧ x < N := by
  unfold hands
  rw [List.mem_map]
  constructor
  · rintro ⟨k, hk, rfl⟩
    have := List.mem_range.mp hk
    omega
  · rintro ⟨h1, h2⟩
    exact ⟨x.toNat, List.mem_range.mpr (by omega), by omega⟩
theorem hands_len (N : Nat) : (hands N).length = N := by simp [hands]
theorem hands_lt (N : Nat) : (hands N).Pairwise (· < ·) := by
  unfold hands
  rw [List.pairwise_map]
  exact List.pairwise_lt_range.imp fun h => by omega
theorem hands_nd (N : Nat) : (hands N).Nodup := (hands_lt N).imp fun h z => by omega
open Classical in
noncomputable def reachL (N : Nat) (ps : List (Int × Int)) (u : PV) (h : Int) : List Int := (hands N).filter fun x => decide (Way ps u h x)
theorem mem_reachL {N : Nat} {ps : List (Int × Int)} {u : PV} {h x : Int} : x ∈ reachL N ps u h ↔ (0 ≤ x ∧ x < N) ∧ Way ps u h x := by
  unfold reachL
  rw [List.mem_filter, mem_hands]; simp
theorem reachL_lt (N : Nat) (ps : List (Int × Int)) (u : PV) (h : Int) : (reachL N ps u h).Pairwise (· < ·) := (hands_lt N).filter _
theorem way_in {N : Nat} {ps : List (Int × Int)} {u : PV} {h x : Int} (hg : ∀ p ∈ ps, good N p) (hh : 0 ≤ h ∧ h < N) (w : Way ps u h x) : 0 ≤ x ∧ x < N := by
  induction w with
  | here => exact hh
  | step _ hp _ _ => exact (hg _ hp).2.1
structure Met (ps : List (Int × Int)) (u : PV) (h : Int) (M : List Int) : Prop where
  nd : M.Nodup
  way : ∀ x ∈ M, Way ps u h x
  mem : h ∈ M
theorem Met.len {N : Nat} {ps : List (Int × Int)} {u : PV} {h : Int} {M : List Int} (m : Met ps u h M) (hg : ∀ p ∈ ps, good N p) (hh : 0 ≤ h ∧ h < N) : M.length ≤ N := by
  have := m.nd.length_le_of_subset (l₂ := hands N) fun x hx => mem_hands.mpr (way_in hg hh (m.way x hx))
  rw [hands_len] at this; exact this
theorem Met.put {ps : List (Int × Int)} {u : PV} {h a b : Int} {M : List Int} (m : Met ps u h M) (ha : a ∈ M) (hp : (a, b) ∈ ps) (hu : PV.int b ≠ u) (hb : b ∉ M) : Met ps u h (M ++ [b]) := by
  refine ⟨?_, fun x hx => ?_, List.mem_append_left _ m.mem⟩
  · rw [List.nodup_append]
    refine ⟨m.nd, by simp, ?_⟩
    intro x hx y hy
    simp at hy; subst hy
    rintro rfl; exact hb hx
  · rcases List.mem_append.mp hx with hx | hx
    · exact m.way x hx
    · simp at hx; subst hx; exact .step (m.way a ha) hp hu
theorem Met.sort {N : Nat} {ps : List (Int × Int)} {u : PV} {h : Int} {M : List Int} (m : Met ps u h M) (hg : ∀ p ∈ ps, good N p) (hh : 0 ≤ h ∧ h < N) (hc : ∀ a b, a ∈ M → (a, b) ∈ ps → PV.int b ≠ u → b ∈ M) : sortBy ltI M = reachL N ps u h := by
  refine rise_uniq ((sortBy_perm _ _).trans ((List.perm_ext_iff_of_nodup m.nd ((reachL_lt N ps u h).imp fun h z => by omega)).mpr fun x => ?_)) (sortI_sorted _) ((reachL_lt N ps u h).imp fun h => by omega)
  rw [mem_reachL]
  constructor
  · intro hx
    exact ⟨way_in hg hh (m.way x hx), m.way x hx⟩
  · rintro ⟨_, w⟩
    induction w with
    | here => exact m.mem
    | step _ hp hu ih => exact hc _ _ (ih (way_in hg hh ‹_›)) hp hu
theorem wturns_inv {t : TD} {body : SD} {P' : PSt → PHp → Prop} {Q : PV → PHp → Prop} (P : Nat → PSt → PHp → Prop)
    (hs : ∀ m σ A, P m σ A → (∃ A1, t σ A = .ok false A1 ∧ P' σ A1) ∨ ∃ A1, t σ A = .ok true A1 ∧ Turns (body σ A1) (fun σ' A' => ∃ m', m' < m ∧ P m' σ' A') Q) :
    ∀ f m σ A, m < f → P m σ A → Comes (wturns t body f σ A) P' Q
  | 0, m, σ, A, hm, _ => absurd hm (by omega)
  | f + 1, m, σ, A, hm, h => by
    rw [wturns_succ]
    rcases hs m σ A h with ⟨A1, e, h1⟩ | ⟨A1, e, h1⟩
    · rw [bnd_ok e]; exact .inl ⟨σ, A1, rfl, h1⟩
    · rw [bnd_ok e, if_pos rfl]
      rcases h1 with ⟨σ2, A2, e2, m', hm', h2⟩ | ⟨v, A2, e2, h2⟩
      · rcases e2 with e2 | e2 <;> (rw [bnd_ok e2]; exact wturns_inv P hs f m' σ2 A2 (by omega) h2)
      · rw [bnd_ok e2]; exact .inr ⟨v, A2, rfl, h2⟩
theorem while_ok {t : TD} {body : SD} {P' : PSt → PHp → Prop} {Q : PV → PHp → Prop} {σ : PSt} {A : PHp} (P : Nat → PSt → PHp → Prop) {m : Nat} (hm : m < 10000) (h0 : P m σ A)
    (hs : ∀ m σ A, P m σ A → (∃ A1, t σ A = .ok false A1 ∧ P' σ A1) ∨ ∃ A1, t σ A = .ok true A1 ∧ Turns (body σ A1) (fun σ' A' => ∃ m', m' < m ∧ P m' σ' A') Q) : Comes (sWhile t body σ A) P' Q :=
  wturns_inv P hs LIM m σ A (lim_lt hm) h0
noncomputable def marks (M : List Int) : List (Int × PV) := M.map fun x => (x, PV.bl true)
theorem valI_marks (M : List Int) (k : Int) : (valI (marks M) k).isSome = decide (k ∈ M) := by
  induction M with
  | nil => rfl
  | cons x r ih =>
    show (valI ((x, PV.bl true) :: marks r) k).isSome = _
    unfold valI
    by_cases h : x = k
    · simp [h]
    · rw [if_neg h, ih]
      have : k ≠ x := fun z => h z.symm
      simp [this]
theorem putI_marks {M : List Int} {k : Int} (h : k ∉ M) : putI (marks M) k (.bl true) = marks (M ++ [k]) := by
  unfold putI
  rw [if_neg]
  · simp [marks]
  · simp only [marks, List.any_map, List.any_eq_true, Function.comp, decide_eq_true_eq, not_exists, not_and]
    rintro x hx rfl; exact h hx
theorem marks_keys (M : List Int) : (marks M).map (·.1) = M := by
  simp [marks, Function.comp_def]
theorem marks_len (M : List Int) : (marks M).length = M.length := by simp [marks]
theorem ne_ok {x y : PV} {A : PHp} (hx : plain x = true) (hy : plain y = true) : oNe x y A = .ok (.bl (!eqv x y)) A := by
  show bnd (pEq x y) _ A = _
  have : pEq x y A = .ok (eqv x y) A := by
    cases x <;> cases y <;> simp_all [pEq, plain]
  rw [bnd_ok this]; rfl
theorem eq_ok {x y : PV} {A : PHp} (hx : plain x = true) (hy : plain y = true) : oEq x y A = .ok (.bl (eqv x y)) A := by
  show bnd (pEq x y) _ A = _
  have : pEq x y A = .ok (eqv x y) A := by
    cases x <;> cases y <;> simp_all [pEq, plain]
  rw [bnd_ok this]; rfl
theorem ne_nil_ok {q : Nat} {ns : List Int} {A : PHp} {e : ED} {σ : PSt} (he : e σ A = .ok (.ref q) A) (h : A[q]? = some (.lst (ns.map .int))) : tVal (eBin oNe e (eLst aNil)) σ A = .ok (!ns.isEmpty) (A ++ [.lst []]) := by
  refine tval_ok (bin_ok he (eLst_nil _ _) ?_)
  show bnd (bnd (lstAt q) _) _ _ = _
  have e1 : pEq (.ref q) (.ref A.length) (A ++ [.lst []]) = .ok (eqvs (ns.map .int) []) (A ++ [.lst []]) := by
    show bnd (lstAt q) _ _ = _
    rw [bnd_ok (lstAt_lst (get_app_of h)), bnd_ok lstAt_last, guard_pos ⟨plains_ints ns, rfl⟩]; rfl
  have e2 : eqvs (ns.map PV.int) [] = ns.isEmpty := by cases ns <;> rfl
  show bnd (pEq (.ref q) (.ref A.length)) _ _ = _
  rw [bnd_ok e1, e2]; rfl
theorem dnotin_ok {y d : ED} {σ : PSt} {A : PHp} {k : Int} {n : Nat} {m : List (Int × PV)} (hy : y σ A = .ok (.int k) A) (hd : d σ A = .ok (.ref n) A) (hn : A[n]? = some (.dI m)) : eDNotIn y d σ A = .ok (.bl (!(valI m k).isSome)) A := by
  show bnd (y σ) _ A = _
  rw [bnd_ok hy, bnd_ok hd]
  show bnd (dctAt n) _ A = _
  rw [bnd_ok (show dctAt n A = .ok m A by unfold dctAt; rw [hn])]; rfl
theorem dput_ok {d y e : ED} {σ : PSt} {A : PHp} {k : Int} {n : Nat} {m : List (Int × PV)} {v : PV} (he : e σ A = .ok v A) (hd : d σ A = .ok (.ref n) A) (hy : y σ A = .ok (.int k) A) (hn : A[n]? = some (.dI m)) (hl : m.length < LIM) : sDPut d y e σ A = .ok (.nx σ) (A.set n (.dI (putI m k v))) := by
  show bnd (e σ) _ A = _
  rw [bnd_ok he, bnd_ok hd, bnd_ok hy]
  show bnd (dctAt n) _ A = _
  rw [bnd_ok (show dctAt n A = .ok m A by unfold dctAt; rw [hn]), guard_pos hl]; rfl
theorem expr_ok {e : ED} {σ : PSt} {A A1 : PHp} {v : PV} (h : e σ A = .ok v A1) : sExpr e σ A = .ok (.nx σ) A1 := by
  show bnd (e σ) _ A = _
  rw [bnd_ok h]; rfl
theorem tand_ok {a b : TD} {σ : PSt} {A A1 A2 : PHp} {x y : Bool} (ha : a σ A = .ok x A1) (hb : x = true → b σ A1 = .ok y A2) (hx : x = false → y = false ∧ A2 = A1) : tAnd a b σ A = .ok y A2 := by
  show bnd (a σ) _ A = _
  rw [bnd_ok ha]
  cases x with
  | true => rw [if_pos rfl, hb rfl]
  | false => obtain ⟨rfl, rfl⟩ := hx rfl; rfl
theorem ret_ok {e : ED} {σ : PSt} {A A1 : PHp} {v : PV} (h : e σ A = .ok v A1) : sRet e σ A = .ok (.rt v) A1 := by
  show bnd (e σ) _ A = _
  rw [bnd_ok h]; rfl
theorem sortedD_ok {e : ED} {σ : PSt} {A A1 : PHp} {n : Nat} {m : List (Int × PV)} (h : e σ A = .ok (.ref n) A1) (hn : A1[n]? = some (.dI m)) (hl : m.length < 64) : eSortedD e σ A = .ok (.ref A1.length) (A1 ++ [.lst ((sortBy ltI (m.map (·.1))).map PV.int)]) := by
  show bnd (e σ) _ A = _
  rw [bnd_ok h]
  show bnd (dctAt n) _ A1 = _
  rw [bnd_ok (show dctAt n A1 = .ok m A1 by unfold dctAt; rw [hn]), guard_pos hl]; rfl
theorem pop_ok {e : ED} {σ : PSt} {A A1 : PHp} {n : Nat} {l : List PV} {x : PV} (h : e σ A = .ok (.ref n) A1) (hn : A1[n]? = some (.lst (l ++ [x]))) : ePop e σ A = .ok x (A1.set n (.lst l)) := by
  show bnd (e σ) _ A = _
  rw [bnd_ok h]
  show bnd (mutAt n) _ A1 = _
  rw [bnd_ok (mutAt_lst hn)]
  have e1 : (l ++ [x])[(l ++ [x]).length - 1]? = some x := by simp
  rw [e1, List.dropLast_concat]; rfl
theorem mem_takers {ps : List (Int × Int)} {a b : Int} : b ∈ takers (srt ps) a ↔ (a, b) ∈ ps := by
  unfold takers
  rw [List.mem_map]
  constructor
  · rintro ⟨⟨x, y⟩, hp, rfl⟩
    rw [List.mem_filter] at hp
    obtain ⟨h1, h2⟩ := hp
    simp at h2; subst h2
    exact (srt_perm ps).mem_iff.mp h1
  · intro h
    exact ⟨(a, b), List.mem_filter.mpr ⟨(srt_perm ps).mem_iff.mpr h, by simp⟩, rfl⟩
theorem pIn_ints (x : Int) (M : List Int) : pIn (.int x) (M.map .int) = decide (x ∈ M) := by
  induction M with
  | nil => rfl
  | cons y r ih =>
    show (eqv (.int y) (.int x) || pIn (.int x) (r.map .int)) = _
    rw [ih]
    by_cases h : y = x
    · simp [eqv, h]
    · have : x ≠ y := fun z => h z.symm
      simp [eqv, h, this]
theorem in_ok {a b : ED} {σ : PSt} {A : PHp} {x : Int} {n : Nat} {M : List Int} (ha : a σ A = .ok (.int x) A) (hb : b σ A = .ok (.ref n) A) (hn : A[n]? = some (.lst (M.map .int))) : eBin oIn a b σ A = .ok (.bl (decide (x ∈ M))) A := by
  refine bin_ok ha hb ?_
  show bnd (lstAt n) _ A = _
  rw [bnd_ok (lstAt_lst hn), guard_pos ⟨rfl, plains_ints M⟩, pIn_ints]; rfl
end Ws
namespace Ws
noncomputable def keys (tm : List (Int × Int)) : List Int := tm.map (·.1)
noncomputable def tval : List (Int × Int) → Int → Option Int
  | [], _ => none
  | p :: r, k => if p.1 = k then some p.2 else tval r k
theorem tval_some (tm : List (Int × Int)) (k : Int) : (tval tm k).isSome = decide (k ∈ keys tm) := by
  induction tm with
  | nil => rfl
  | cons p r ih =>
    unfold tval
    by_cases h : p.1 = k
    · simp [h, keys]
    · rw [if_neg h, ih]
      have : k ≠ p.1 := fun z => h z.symm
      refine decide_eq_decide.mpr ⟨fun z => List.mem_cons_of_mem _ z, fun z => ?_⟩
      rcases List.mem_cons.mp z with z | z
      · exact absurd z this
      · exact z
theorem tval_mem {tm : List (Int × Int)} {k : Int} (h : k ∈ keys tm) : ∃ t, tval tm k = some t := by
  have := tval_some tm k
  rw [decide_eq_true h] at this
  exact Option.isSome_iff_exists.mp this
theorem tval_app {tm sm : List (Int × Int)} {k : Int} (h : k ∈ keys tm) : tval (tm ++ sm) k = tval tm k := by
  induction tm with
  | nil => simp [keys] at h
  | cons p r ih =>
    show tval (p :: (r ++ sm)) k = _
    unfold tval
    by_cases e : p.1 = k
    · simp [e]
    · rw [if_neg e, if_neg e]
      refine ih ?_
      rcases List.mem_cons.mp h with z | z
      · exact absurd z.symm e
      · exact z
theorem keys_app (tm sm : List (Int × Int)) : keys (tm ++ sm) = keys tm ++ keys sm := by simp [keys]
noncomputable def iv : PV → Int
  | .int i => i
  | _ => 0
end Ws
namespace Ws
theorem filter_int (p : PV → Bool) (xs : List Int) : (xs.map PV.int).filter p = (xs.filter fun x => p (.int x)).map .int := by
  rw [List.filter_map]; rfl
theorem tval_news {lm : List (Int × Int)} {F : List Int} {h T : Int} (hn : h ∉ keys lm) (hf : h ∈ F) : tval (lm ++ F.map fun h => (h, T)) h = some T := by
  have base : ∀ F : List Int, h ∈ F → tval (F.map fun h => (h, T)) h = some T := by
    intro F
    induction F with
    | nil => intro z; cases z
    | cons a F ih =>
      intro z
      show tval ((a, T) :: F.map fun h => (h, T)) h = _
      unfold tval
      by_cases e : a = h
      · simp [e]
      · rw [if_neg e]
        rcases List.mem_cons.mp z with y | y
        · exact absurd y.symm e
        · exact ih y
  induction lm with
  | nil => exact base F hf
  | cons p r ih =>
    show tval (p :: (r ++ F.map fun h => (h, T))) h = _
    unfold tval
    have h1 : ¬ p.1 = h := fun e => hn (by simp [keys, e])
    rw [if_neg h1]
    exact ih fun z => hn (List.mem_cons_of_mem _ z)
theorem tval_key {tm : List (Int × Int)} {h t : Int} (e : tval tm h = some t) : h ∈ keys tm := by
  have := tval_some tm h
  rw [e] at this
  simpa using this.symm
end Ws
namespace Ws
noncomputable def lastI (w : List Int) : Int := w.getLastD 0
noncomputable def hat (H : List (List Int)) (i : Nat) : List Int := H.getD i []
@[simp] theorem lastI_app (w : List Int) (b : Int) : lastI (w ++ [b]) = b := by simp [lastI]
theorem hat_left {H F : List (List Int)} {i : Nat} (h : i < H.length) : hat (H ++ F) i = hat H i := by
  unfold hat
  rw [List.getD_eq_getElem?_getD, List.getD_eq_getElem?_getD, List.getElem?_append_left h]
theorem hat_right {H F : List (List Int)} {i : Nat} (h : H.length ≤ i) : hat (H ++ F) i = hat F (i - H.length) := by
  unfold hat
  rw [List.getD_eq_getElem?_getD, List.getD_eq_getElem?_getD, List.getElem?_append_right h]
theorem hat_map {F : List Int} {w : List Int} {i : Nat} (h : i < F.length) : hat (F.map fun t => w ++ [t]) i = w ++ [F[i]] := by
  unfold hat
  rw [List.getD_eq_getElem?_getD, List.getElem?_map, List.getElem?_eq_getElem h]; rfl
theorem hat_mem {H : List (List Int)} {i : Nat} (h : i < H.length) : hat H i ∈ H := by
  unfold hat
  rw [List.getD_eq_getElem?_getD, List.getElem?_eq_getElem h]
  exact List.getElem_mem h
theorem hat_of_mem {H : List (List Int)} {b : Int} (h : b ∈ H.map lastI) : ∃ i, i < H.length ∧ lastI (hat H i) = b := by
  obtain ⟨w, hw, rfl⟩ := List.mem_map.mp h
  obtain ⟨i, hi, rfl⟩ := List.mem_iff_getElem.mp hw
  exact ⟨i, hi, by unfold hat; rw [List.getD_eq_getElem?_getD, List.getElem?_eq_getElem hi]; rfl⟩
theorem last_mem {H : List (List Int)} {i : Nat} (h : i < H.length) : lastI (hat H i) ∈ H.map lastI := List.mem_map.mpr ⟨_, hat_mem h, rfl⟩
structure BF (ps : List (Int × Int)) (u : PV) (x j : Int) (H : List (List Int)) (par : Nat → Nat) (p : Nat) : Prop where
  ne : 0 < H.length
  hd : hat H 0 = [x]
  ple : p ≤ H.length
  nd : (H.map lastI).Nodup
  par1 : ∀ i, 0 < i → i < H.length → par i < p ∧ par i < i ∧ hat H i = hat H (par i) ++ [lastI (hat H i)] ∧ (lastI (hat H (par i)), lastI (hat H i)) ∈ ps ∧ PV.int (lastI (hat H i)) ≠ u
  mono : ∀ i i', 0 < i → i < i' → i' < H.length → par i ≤ par i' ∧ (par i = par i' → lastI (hat H i) < lastI (hat H i'))
  full : ∀ k, k < p → ∀ b, (lastI (hat H k), b) ∈ ps → PV.int b ≠ u → ∃ i, i < H.length ∧ lastI (hat H i) = b ∧ (i = 0 ∨ par i ≤ k)
  done : ∀ k, k < p → lastI (hat H k) ≠ j
section
variable {ps : List (Int × Int)} {u : PV} {x j : Int} {H : List (List Int)} {par : Nat → Nat} {p : Nat}
theorem BF.start : BF ps u x j [[x]] (fun _ => 0) 0 :=
  ⟨by simp, rfl, by simp, by simp, fun i h h' => absurd h' (by simp; omega), fun i i' h h' h'' => absurd h'' (by simp; omega), fun k h => absurd h (by omega), fun k h => absurd h (by omega)⟩
theorem BF.next (B : BF ps u x j H par p) (hp : p < H.length) (hj : lastI (hat H p) ≠ j) {F : List Int} (hF : F.Pairwise (· < ·)) (hm : ∀ t, t ∈ F ↔ (lastI (hat H p), t) ∈ ps ∧ PV.int t ≠ u ∧ t ∉ H.map lastI) :
    BF ps u x j (H ++ F.map fun t => hat H p ++ [t]) (fun i => if i < H.length then par i else p) (p + 1) := by
  have hlen : (H ++ F.map fun t => hat H p ++ [t]).length = H.length + F.length := by simp
  have hl : ∀ i, i < H.length → hat (H ++ F.map fun t => hat H p ++ [t]) i = hat H i := fun i h => hat_left h
  have hr : ∀ i, H.length ≤ i → (h : i - H.length < F.length) → hat (H ++ F.map fun t => hat H p ++ [t]) i = hat H p ++ [F[i - H.length]] := fun i h h' => by rw [hat_right h, hat_map h']
  have hmap : (H ++ F.map fun t => hat H p ++ [t]).map lastI = H.map lastI ++ F := by
    rw [List.map_append, List.map_map]
    congr 1
    exact (List.map_congr_left fun t _ => lastI_app _ _).trans (List.map_id' F)
  refine ⟨by rw [hlen]; have := B.ne; omega, by rw [hl 0 B.ne]; exact B.hd, by rw [hlen]; omega, ?_, ?_, ?_, ?_, ?_⟩
  · rw [hmap, List.nodup_append]
    refine ⟨B.nd, hF.imp fun h z => by omega, ?_⟩
    intro a ha b hb
    rintro rfl
    exact ((hm a).mp hb).2.2 ha
  · intro i h0 hi
    rw [hlen] at hi
    by_cases c : i < H.length
    · obtain ⟨h1, h2, h3, h4, h5⟩ := B.par1 i h0 c
      simp only [if_pos c]
      rw [hl i c, hl (par i) (by omega)]
      exact ⟨by omega, h2, h3, h4, h5⟩
    · simp only [if_neg c]
      have hi' : i - H.length < F.length := by omega
      rw [hr i (by omega) hi', hl p hp, lastI_app]
      have hf := (hm _).mp (List.getElem_mem hi')
      exact ⟨by omega, by omega, rfl, hf.1, hf.2.1⟩
  · intro i i' h0 hii hi'
    rw [hlen] at hi'
    by_cases c' : i' < H.length
    · have c : i < H.length := by omega
      simp only [if_pos c, if_pos c']
      rw [hl i c, hl i' c']
      exact B.mono i i' h0 hii c'
    · by_cases c : i < H.length
      · simp only [if_pos c, if_neg c']
        have := (B.par1 i h0 c).1
        exact ⟨by omega, fun z => by omega⟩
      · simp only [if_neg c, if_neg c']
        refine ⟨Nat.le_refl _, fun _ => ?_⟩
        rw [hr i (by omega) (by omega), hr i' (by omega) (by omega), lastI_app, lastI_app]
        exact List.pairwise_iff_getElem.mp hF _ _ (by omega) (by omega) (by omega)
  · intro k hk b hb hu
    by_cases c : k < p
    · rw [hl k (by omega)] at hb
      obtain ⟨i, h1, h2, h3⟩ := B.full k c b hb hu
      refine ⟨i, by rw [hlen]; omega, by rw [hl i h1]; exact h2, ?_⟩
      simp only [if_pos h1]; exact h3
    · obtain rfl : k = p := by omega
      rw [hl k hp] at hb
      by_cases z : b ∈ H.map lastI
      · obtain ⟨i, h1, h2⟩ := hat_of_mem z
        refine ⟨i, by rw [hlen]; omega, by rw [hl i h1]; exact h2, ?_⟩
        simp only [if_pos h1]
        by_cases y : i = 0
        · exact .inl y
        · exact .inr (Nat.le_of_lt (B.par1 i (by omega) h1).1)
      · obtain ⟨i, hi, e⟩ := List.mem_iff_getElem.mp ((hm b).mpr ⟨hb, hu, z⟩)
        refine ⟨H.length + i, by rw [hlen]; omega, ?_, .inr ?_⟩
        · rw [hr _ (by omega) (by omega), lastI_app]
          rw [← e]; congr 1; omega
        · simp only [if_neg (show ¬ H.length + i < H.length by omega)]; exact Nat.le_refl _
  · intro k hk
    by_cases c : k < p
    · rw [hl k (by omega)]; exact B.done k c
    · obtain rfl : k = p := by omega
      rw [hl k hp]; exact hj
theorem BF.elems (B : BF ps u x j H par p) : ∀ (n i : Nat), i < n → i < H.length → ∀ y ∈ hat H i, y ∈ H.map lastI
  | 0, i, h, _, _, _ => absurd h (by omega)
  | n + 1, i, h, hi, y, hy => by
    by_cases c : i = 0
    · subst c
      have := last_mem hi
      rw [B.hd] at hy this
      simp at hy
      subst hy
      exact this
    · obtain ⟨_, h2, h3, _, _⟩ := B.par1 i (by omega) hi
      rw [h3] at hy
      rcases List.mem_append.mp hy with z | z
      · exact BF.elems B n (par i) (by omega) (by omega) y z
      · simp at z; rw [z]; exact last_mem hi
theorem BF.len_mono (B : BF ps u x j H par p) : ∀ (n i i' : Nat), i' < n → i ≤ i' → i' < H.length → (hat H i).length ≤ (hat H i').length
  | 0, _, _, h, _, _ => absurd h (by omega)
  | n + 1, i, i', hn, h, hi' => by
    by_cases c' : i' = i
    · rw [c']; exact Nat.le_refl _
    · obtain ⟨_, h2', h3', _, _⟩ := B.par1 i' (by omega) hi'
      by_cases c : i = 0
      · rw [c, B.hd, h3']; simp
      · obtain ⟨_, h2, h3, _, _⟩ := B.par1 i (by omega) (by omega)
        have hm := (B.mono i i' (by omega) (by omega) hi').1
        have := BF.len_mono B n (par i) (par i') (by omega) hm (by omega)
        rw [h3, h3', List.length_append, List.length_append]
        simp only [List.length_singleton]
        omega
theorem BF.len_pos (B : BF ps u x j H par p) {i : Nat} (hi : i < H.length) : 0 < (hat H i).length := by
  have := B.len_mono (i + 1) 0 i (by omega) (by omega) hi
  rw [B.hd] at this
  simp only [List.length_singleton] at this
  omega
theorem BF.len_le (B : BF ps u x j H par p) : ∀ (n i : Nat), i < n → i < H.length → (hat H i).length ≤ i + 1
  | 0, i, h, _ => absurd h (by omega)
  | n + 1, i, h, hi => by
    by_cases c : i = 0
    · rw [c, B.hd]; simp
    · obtain ⟨_, h2, h3, _, _⟩ := B.par1 i (by omega) hi
      have := BF.len_le B n (par i) (by omega) (by omega)
      rw [h3, List.length_append]
      simp only [List.length_singleton]
      omega
structure NF (ps : List (Int × Int)) (u : PV) (j : Int) (nm : List (Int × Int)) : Prop where
  zero : PV.int j ≠ u → tval nm j = some 0
  good : ∀ g v, tval nm g = some v → PV.int g ≠ u ∧ 0 ≤ v ∧ (v = 0 → g = j) ∧ (0 < v → ∃ t : Int, (g, t) ∈ ps ∧ tval nm t = some (v - 1))
  back : ∀ g t s : Int, (g, t) ∈ ps → tval nm t = some s → PV.int g ≠ u → ∃ v : Int, tval nm g = some v ∧ v ≤ s + 1
variable {nm : List (Int × Int)}
theorem BF.no_sooner (B : BF ps u x j H par p) (M : NF ps u j nm) (hp : p < H.length) : ∀ (v s : Nat), s < H.length → tval nm (lastI (hat H s)) = some (v : Int) → (hat H s).length + v < (hat H p).length → False
  | 0, s, hs, ht, hl => by
    have e := (M.good _ _ ht).2.2.1 rfl
    by_cases c : s < p
    · exact B.done s c e
    · have := B.len_mono (s + 1) p s (by omega) (by omega) hs
      omega
  | v + 1, s, hs, ht, hl => by
    by_cases c : s < p
    · obtain ⟨t, h1, h2⟩ := (M.good _ _ ht).2.2.2 (by omega)
      have h2' : tval nm t = some (v : Int) := by rw [h2]; congr 1; omega
      obtain ⟨i, i1, i2, i3⟩ := B.full s c t h1 (M.good _ _ h2').1
      have hli : (hat H i).length ≤ (hat H s).length + 1 := by
        rcases i3 with rfl | i3
        · rw [B.hd]; have := B.len_pos hs; simp
        · by_cases y : i = 0
          · rw [y, B.hd]; simp
          · obtain ⟨_, g2, g3, _, _⟩ := B.par1 i (by omega) i1
            have := B.len_mono (s + 1) (par i) s (by omega) i3 hs
            rw [g3, List.length_append]
            simp only [List.length_singleton]
            omega
      exact BF.no_sooner B M hp v i i1 (by rw [i2]; exact h2') (by omega)
    · have := B.len_mono (s + 1) p s (by omega) (by omega) hs
      omega
noncomputable def anc (par : Nat → Nat) (p : Nat) : Nat → Nat
  | 0 => p
  | n + 1 => par (anc par p n)
theorem BF.anc_ok (B : BF ps u x j H par p) (hp : p < H.length) : ∀ n, n < (hat H p).length → anc par p n < H.length ∧ anc par p n ≤ p ∧ (0 < n → anc par p n < p) ∧ hat H (anc par p n) = (hat H p).take ((hat H p).length - n)
  | 0, h => ⟨hp, Nat.le_refl _, fun z => absurd z (by omega), by rw [Nat.sub_zero, List.take_length]; rfl⟩
  | n + 1, h => by
    obtain ⟨h1, h2, h3, h4⟩ := BF.anc_ok B hp n (by omega)
    have h0 : 0 < anc par p n := by
      by_cases c : anc par p n = 0
      · rw [c, B.hd] at h4
        have := congrArg List.length h4
        rw [List.length_take] at this
        simp only [List.length_singleton] at this
        omega
      · omega
    obtain ⟨g1, g2, g3, _, _⟩ := B.par1 _ h0 h1
    refine ⟨by show par (anc par p n) < _; omega, by show par (anc par p n) ≤ _; omega, fun _ => g1, ?_⟩
    show hat H (par (anc par p n)) = _
    have e : hat H (par (anc par p n)) = (hat H (anc par p n)).take ((hat H (anc par p n)).length - 1) := by
      conv => rhs; rw [g3]
      simp
    rw [e, h4, List.take_take, List.length_take]
    congr 1
    omega
theorem BF.anc_pos (B : BF ps u x j H par p) (hp : p < H.length) {n : Nat} (h : n + 1 < (hat H p).length) : 0 < anc par p n := by
  obtain ⟨h1, h2, h3, h4⟩ := B.anc_ok hp n (by omega)
  by_cases c : anc par p n = 0
  · rw [c, B.hd] at h4
    have := congrArg List.length h4
    rw [List.length_take] at this
    simp only [List.length_singleton] at this
    omega
  · omega
theorem BF.no_ahead (B : BF ps u x j H par p) (M : NF ps u j nm) (hp : p < H.length) : ∀ (n s : Nat), n < (hat H p).length → s < anc par p n → tval nm (lastI (hat H s)) = some (n : Int) → False
  | 0, s, hn, hs, ht => B.done s hs ((M.good _ _ ht).2.2.1 rfl)
  | n + 1, s, hn, hs, ht => by
    obtain ⟨a1, a2, a3, a4⟩ := B.anc_ok hp (n + 1) hn
    obtain ⟨b1, b2, b3, b4⟩ := B.anc_ok hp n (by omega)
    have b0 := B.anc_pos hp hn
    have hsp : s < p := by have := a3 (by omega); omega
    obtain ⟨t, h1, h2⟩ := (M.good _ _ ht).2.2.2 (by omega)
    have h2' : tval nm t = some (n : Int) := by rw [h2]; congr 1; omega
    obtain ⟨i, i1, i2, i3⟩ := B.full s hsp t h1 (M.good _ _ h2').1
    refine BF.no_ahead B M hp n i (by omega) ?_ (by rw [i2]; exact h2')
    rcases i3 with rfl | i3
    · exact b0
    · have hs' : s < par (anc par p n) := hs
      by_cases c : i < anc par p n
      · exact c
      · exfalso
        by_cases y : i = anc par p n
        · rw [y] at i3; omega
        · have := (B.mono _ i b0 (by omega) i1).1
          omega
theorem BF.near_at (B : BF ps u x j H par p) (M : NF ps u j nm) (hp : p < H.length) (hx : PV.int x ≠ u) (hj : lastI (hat H p) = j) : ∀ n, n < (hat H p).length → tval nm (lastI (hat H (anc par p n))) = some (n : Int) := by
  have notu : ∀ i, i < H.length → PV.int (lastI (hat H i)) ≠ u := by
    intro i hi
    by_cases c : i = 0
    · rw [c, B.hd]; exact hx
    · exact (B.par1 i (by omega) hi).2.2.2.2
  have up : ∀ n, n < (hat H p).length → ∃ v : Nat, tval nm (lastI (hat H (anc par p n))) = some (v : Int) ∧ v ≤ n := by
    intro n
    induction n with
    | zero =>
      intro _
      refine ⟨0, ?_, Nat.le_refl _⟩
      show tval nm (lastI (hat H p)) = _
      rw [hj]
      refine M.zero ?_
      rw [← hj]; exact notu p hp
    | succ n ih =>
      intro hn
      obtain ⟨v, h1, h2⟩ := ih (by omega)
      obtain ⟨a1, a2, a3, a4⟩ := B.anc_ok hp n (by omega)
      have a0 := B.anc_pos hp hn
      obtain ⟨_, _, _, g4, _⟩ := B.par1 _ a0 a1
      obtain ⟨w, w1, w2⟩ := M.back _ _ _ g4 h1 (notu _ (by have := (B.par1 _ a0 a1).2.1; omega))
      have hw := (M.good _ _ w1).2.1
      refine ⟨w.toNat, ?_, by omega⟩
      show tval nm (lastI (hat H (par (anc par p n)))) = _
      rw [w1]; congr 1; omega
  intro n hn
  obtain ⟨v, h1, h2⟩ := up n hn
  by_cases c : v = n
  · rw [h1, c]
  · exfalso
    obtain ⟨a1, a2, a3, a4⟩ := B.anc_ok hp n hn
    refine B.no_sooner M hp v _ a1 h1 ?_
    rw [a4, List.length_take]
    omega
theorem BF.least (B : BF ps u x j H par p) (M : NF ps u j nm) (hp : p < H.length) {n : Nat} (hn : n + 1 < (hat H p).length) {t : Int} (ht : (lastI (hat H (anc par p (n + 1))), t) ∈ ps) (hv : tval nm t = some (n : Int)) : lastI (hat H (anc par p n)) ≤ t := by
  obtain ⟨a1, a2, a3, a4⟩ := B.anc_ok hp (n + 1) hn
  obtain ⟨b1, b2, b3, b4⟩ := B.anc_ok hp n (by omega)
  have b0 := B.anc_pos hp hn
  by_cases c : lastI (hat H (anc par p n)) ≤ t
  · exact c
  · exfalso
    obtain ⟨i, i1, i2, i3⟩ := B.full _ (a3 (by omega)) t ht (M.good _ _ hv).1
    refine B.no_ahead M hp n i (by omega) ?_ (by rw [i2]; exact hv)
    rcases i3 with rfl | i3
    · exact b0
    · have i3' : par i ≤ par (anc par p n) := i3
      by_cases y : i < anc par p n
      · exact y
      · exfalso
        by_cases z : i = anc par p n
        · rw [z] at i2; omega
        · obtain ⟨m1, m2⟩ := B.mono _ i b0 (by omega) i1
          have := m2 (by omega)
          rw [i2] at this
          omega
structure Least (ps : List (Int × Int)) (j x : Int) (nm : List (Int × Int)) (W : List Int) : Prop where
  ne : 0 < W.length
  first : W.getD 0 0 = x
  last : lastI W = j
  far : tval nm x = some ((W.length : Int) - 1)
  step : ∀ k, k + 1 < W.length → (W.getD k 0, W.getD (k + 1) 0) ∈ ps ∧ tval nm (W.getD (k + 1) 0) = some ((W.length : Int) - 1 - k - 1) ∧ ∀ t : Int, (W.getD k 0, t) ∈ ps → tval nm t = some ((W.length : Int) - 1 - k - 1) → W.getD (k + 1) 0 ≤ t
theorem lastI_take {w : List Int} {k : Nat} (h0 : 0 < k) (h : k ≤ w.length) : lastI (w.take k) = w.getD (k - 1) 0 := by
  unfold lastI
  rw [List.getLastD_eq_getLast?, List.getLast?_eq_getElem?, List.length_take, List.getElem?_take, List.getD_eq_getElem?_getD]
  rw [show min k w.length - 1 = k - 1 by omega, if_pos (by omega)]
theorem BF.told (B : BF ps u x j H par p) (M : NF ps u j nm) (hp : p < H.length) (hx : PV.int x ≠ u) (hj : lastI (hat H p) = j) : Least ps j x nm (hat H p) := by
  have hl := B.len_pos hp
  have at_ : ∀ n, n < (hat H p).length → lastI (hat H (anc par p n)) = (hat H p).getD ((hat H p).length - 1 - n) 0 := by
    intro n hn
    rw [(B.anc_ok hp n hn).2.2.2, lastI_take (by omega) (by omega)]
    congr 1; omega
  have hfirst : (hat H p).getD 0 0 = x := by
    have h1 := at_ ((hat H p).length - 1) (by omega)
    obtain ⟨a1, a2, a3, a4⟩ := B.anc_ok hp ((hat H p).length - 1) (by omega)
    have h2 : (hat H (anc par p ((hat H p).length - 1))).length = 1 := by rw [a4, List.length_take]; omega
    have h3 : anc par p ((hat H p).length - 1) = 0 := by
      by_cases c : anc par p ((hat H p).length - 1) = 0
      · exact c
      · exfalso
        obtain ⟨_, g2, g3, _, _⟩ := B.par1 _ (by omega) a1
        have := B.len_pos (show par (anc par p ((hat H p).length - 1)) < H.length by omega)
        rw [g3, List.length_append] at h2
        simp only [List.length_singleton] at h2
        omega
    rw [h3, B.hd] at h1
    rw [show (hat H p).length - 1 - ((hat H p).length - 1) = 0 by omega] at h1
    rw [← h1]; rfl
  refine ⟨hl, hfirst, hj, ?_, fun k hk => ?_⟩
  · have := B.near_at M hp hx hj ((hat H p).length - 1) (by omega)
    rw [at_ _ (by omega), show (hat H p).length - 1 - ((hat H p).length - 1) = 0 by omega, hfirst] at this
    rw [this]; congr 1; omega
  · have e1 := at_ ((hat H p).length - 1 - k - 1 + 1) (by omega)
    have e0 := at_ ((hat H p).length - 1 - k - 1) (by omega)
    rw [show (hat H p).length - 1 - ((hat H p).length - 1 - k - 1 + 1) = k by omega] at e1
    rw [show (hat H p).length - 1 - ((hat H p).length - 1 - k - 1) = k + 1 by omega] at e0
    obtain ⟨b1, _, _, _⟩ := B.anc_ok hp ((hat H p).length - 1 - k - 1) (by omega)
    have b0 := B.anc_pos hp (n := (hat H p).length - 1 - k - 1) (by omega)
    have hv : (((hat H p).length - 1 - k - 1 : Nat) : Int) = ((hat H p).length : Int) - 1 - k - 1 := by omega
    refine ⟨?_, ?_, fun t ht hvt => ?_⟩
    · rw [← e1, ← e0]; exact (B.par1 _ b0 b1).2.2.2.1
    · rw [← e0, ← hv]; exact B.near_at M hp hx hj _ (by omega)
    · rw [← e0]
      refine B.least M hp (by omega) (by rw [e1]; exact ht) ?_
      rw [hvt, ← hv]
theorem BF.none (B : BF ps u x j H par p) (M : NF ps u j nm) (hp : p = H.length) : tval nm x = none := by
  have key : ∀ (v : Nat) (s : Nat), s < H.length → tval nm (lastI (hat H s)) = some (v : Int) → False := by
    intro v
    induction v with
    | zero => intro s hs ht; exact B.done s (by omega) ((M.good _ _ ht).2.2.1 rfl)
    | succ v ih =>
      intro s hs ht
      obtain ⟨t, h1, h2⟩ := (M.good _ _ ht).2.2.2 (by omega)
      have h2' : tval nm t = some (v : Int) := by rw [h2]; congr 1; omega
      obtain ⟨i, i1, i2, _⟩ := B.full s (by omega) t h1 (M.good _ _ h2').1
      exact ih i i1 (by rw [i2]; exact h2')
  cases e : tval nm x with
  | none => rfl
  | some v =>
    exfalso
    have hv := (M.good _ _ e).2.1
    refine key v.toNat 0 B.ne ?_
    rw [B.hd]
    show tval nm x = _
    rw [e]; congr 1; omega
end
end Ws
namespace Ws
structure NI (N : Nat) (ps : List (Int × Int)) (u : PV) (j : Int) (T : Int) (n : List (Int × Int)) : Prop where
  nd : (keys n).Nodup
  hand : ∀ g ∈ keys n, 0 ≤ g ∧ g < N
  zero : PV.int j ≠ u → tval n j = some 0
  good : ∀ g v, tval n g = some v → PV.int g ≠ u ∧ 0 ≤ v ∧ v ≤ T - 1 ∧ (v = 0 → g = j) ∧ (0 < v → ∃ t : Int, (g, t) ∈ ps ∧ tval n t = some (v - 1))
  back : ∀ g t s : Int, (g, t) ∈ ps → tval n t = some s → PV.int g ≠ u → s + 1 ≤ T - 1 → ∃ v : Int, tval n g = some v ∧ v ≤ s + 1
section
variable {N : Nat} {ps : List (Int × Int)} {u : PV} {j T : Int} {n : List (Int × Int)}
theorem NI.next (I : NI N ps u j T n) (hT : 1 ≤ T) {F : List Int} (nd : F.Nodup) (hF : ∀ g ∈ F, g ∉ keys n ∧ PV.int g ≠ u ∧ (0 ≤ g ∧ g < N) ∧ ∃ t, t ∈ keys n ∧ (g, t) ∈ ps) (hC : ∀ g t, (g, t) ∈ ps → t ∈ keys n → PV.int g ≠ u → g ∈ keys n ∨ g ∈ F) : NI N ps u j (T + 1) (n ++ F.map fun g => (g, T)) := by
  have hk : keys (n ++ F.map fun g => (g, T)) = keys n ++ F := by
    rw [keys_app]; congr 1; simp [keys, Function.comp_def]
  have hv : ∀ g, g ∈ F → tval (n ++ F.map fun g => (g, T)) g = some T := fun g hg => tval_news (hF g hg).1 hg
  have ho : ∀ g, g ∈ keys n → tval (n ++ F.map fun g => (g, T)) g = tval n g := fun g hg => tval_app hg
  have hcase : ∀ g v, tval (n ++ F.map fun g => (g, T)) g = some v → (g ∈ keys n ∧ tval n g = some v) ∨ (g ∈ F ∧ v = T) := by
    intro g v h
    have := tval_key h
    rw [hk] at this
    rcases List.mem_append.mp this with z | z
    · exact .inl ⟨z, by rw [← ho g z]; exact h⟩
    · rw [hv g z] at h
      exact .inr ⟨z, (Option.some.inj h).symm⟩
  have hlast : ∀ g t s, g ∉ keys n → PV.int g ≠ u → (g, t) ∈ ps → tval n t = some s → s = T - 1 := by
    intro g t s h1 h2 h3 h4
    have h5 := (I.good t s h4).2.2.1
    by_cases c : s + 1 ≤ T - 1
    · obtain ⟨v, h6, _⟩ := I.back g t s h3 h4 h2 c
      exact absurd (tval_key h6) h1
    · omega
  refine ⟨?_, ?_, ?_, ?_, ?_⟩
  · rw [hk, List.nodup_append]
    refine ⟨I.nd, nd, ?_⟩
    intro a ha b hb
    rintro rfl
    exact (hF a hb).1 ha
  · rw [hk]
    intro g hg
    rcases List.mem_append.mp hg with z | z
    · exact I.hand g z
    · exact (hF g z).2.2.1
  · intro h
    have h1 := I.zero h
    rw [ho j (tval_key h1)]; exact h1
  · intro g v h
    rcases hcase g v h with ⟨z, h1⟩ | ⟨z, rfl⟩
    · obtain ⟨a1, a2, a3, a4, a5⟩ := I.good g v h1
      refine ⟨a1, a2, by omega, a4, fun y => ?_⟩
      obtain ⟨t, t1, t2⟩ := a5 y
      exact ⟨t, t1, by rw [ho t (tval_key t2)]; exact t2⟩
    · obtain ⟨b1, b2, b3, t, t1, t2⟩ := hF g z
      refine ⟨b2, by omega, by omega, fun y => by omega, fun _ => ⟨t, t2, ?_⟩⟩
      obtain ⟨s, hs⟩ := tval_mem t1
      rw [ho t t1, hs, hlast g t s b1 b2 t2 hs]
  · intro g t s hp ht hu hs
    rcases hcase t s ht with ⟨z, h1⟩ | ⟨z, rfl⟩
    · rcases hC g t hp z hu with y | y
      · rw [ho g y]
        by_cases c : s + 1 ≤ T - 1
        · exact I.back g t s hp h1 hu c
        · obtain ⟨v, hv'⟩ := tval_mem y
          have := (I.good g v hv').2.2.1
          exact ⟨v, hv', by omega⟩
      · have := hlast g t s (hF g y).1 hu hp h1
        exact ⟨T, hv g y, by omega⟩
    · omega
theorem NI.chain (I : NI N ps u j T n) : ∀ (v : Nat) (g : Int), tval n g = some (v : Int) → ∃ c : List Int, c.length = v + 1 ∧ c.Nodup ∧ ∀ x ∈ c, x ∈ keys n ∧ ∃ s, tval n x = some s ∧ s ≤ v
  | 0, g, h => ⟨[g], rfl, by simp, fun x hx => by simp at hx; subst hx; exact ⟨tval_key h, _, h, by omega⟩⟩
  | v + 1, g, h => by
    obtain ⟨t, t1, t2⟩ := (I.good g _ h).2.2.2.2 (by omega)
    obtain ⟨c, c1, c2, c3⟩ := NI.chain I v t (by rw [t2]; congr 1; omega)
    refine ⟨g :: c, by simp [c1], List.nodup_cons.mpr ⟨fun z => ?_, c2⟩, fun x hx => ?_⟩
    · obtain ⟨_, s, s1, s2⟩ := c3 g z
      rw [h] at s1
      have := Option.some.inj s1
      omega
    · rcases List.mem_cons.mp hx with z | z
      · rw [z]; exact ⟨tval_key h, _, h, by omega⟩
      · obtain ⟨a, s, s1, s2⟩ := c3 x z
        exact ⟨a, s, s1, by omega⟩
theorem NI.nf (I : NI N ps u j (N + 1) n) : NF ps u j n := by
  refine ⟨I.zero, fun g v h => ?_, fun g t s hp ht hu => ?_⟩
  · obtain ⟨a1, a2, a3, a4, a5⟩ := I.good g v h
    exact ⟨a1, a2, a4, a5⟩
  · obtain ⟨a1, a2, a3, a4, a5⟩ := I.good t s ht
    obtain ⟨c, c1, c2, c3⟩ := I.chain s.toNat t (by rw [ht]; congr 1; omega)
    have := c2.length_le_of_subset (l₂ := hands N) fun x hx => mem_hands.mpr (I.hand x (c3 x hx).1)
    rw [hands_len, c1] at this
    exact I.back g t s hp ht hu (by omega)
end
end Ws
namespace Ws
noncomputable def tupI (w : List Int) : PV := .tup (w.map .int)
theorem all_flat2 (w : List Int) : (w.map PV.int).all flat2 = true := by
  rw [List.all_eq_true]
  intro x hx
  obtain ⟨i, _, rfl⟩ := List.mem_map.mp hx
  rfl
theorem plain_tupI (w : List Int) : plain (tupI w) = true := all_flat2 w
theorem plains_tups (ws : List (List Int)) : plains (ws.map tupI) = true := by
  rw [plains_iff]
  intro x hx
  obtain ⟨w, _, rfl⟩ := List.mem_map.mp hx
  exact plain_tupI w
theorem ne_nilT {q : Nat} {ws : List (List Int)} {A : PHp} {e : ED} {σ : PSt} (he : e σ A = .ok (.ref q) A) (h : A[q]? = some (.lst (ws.map tupI))) : tVal (eBin oNe e (eLst aNil)) σ A = .ok (!ws.isEmpty) (A ++ [.lst []]) := by
  refine tval_ok (bin_ok he (eLst_nil _ _) ?_)
  have e1 : pEq (.ref q) (.ref A.length) (A ++ [.lst []]) = .ok (eqvs (ws.map tupI) []) (A ++ [.lst []]) := by
    show bnd (lstAt q) _ _ = _
    rw [bnd_ok (lstAt_lst (get_app_of h)), bnd_ok lstAt_last, guard_pos ⟨plains_tups ws, rfl⟩]; rfl
  have e2 : eqvs (ws.map tupI) [] = ws.isEmpty := by cases ws <;> rfl
  show bnd (pEq (.ref q) (.ref A.length)) _ _ = _
  rw [bnd_ok e1, e2]; rfl
theorem at_last {w : List Int} (h : 0 < w.length) : atI (w.map PV.int) (-1) = some (.int (lastI w)) := by
  unfold atI ixN
  rw [if_neg (by omega), if_pos (by rw [List.length_map]; omega)]
  have e : ((-1 : Int) + ((w.map PV.int).length : Int)).toNat = w.length - 1 := by rw [List.length_map]; omega
  rw [e]
  show (w.map PV.int)[w.length - 1]? = _
  rw [List.getElem?_map]
  unfold lastI
  rw [List.getLastD_eq_getLast?, List.getLast?_eq_getElem?]
  have : w[w.length - 1]? = some (w[w.length - 1]'(by omega)) := List.getElem?_eq_getElem _
  rw [this]; rfl
theorem ixT_ok {e i : ED} {σ : PSt} {A : PHp} {w : List Int} {k : Int} {v : PV} (he : e σ A = .ok (tupI w) A) (hi : i σ A = .ok (.int k) A) (hk : atI (w.map PV.int) k = some v) : eBin oIx e i σ A = .ok v A := by
  show bnd (e σ) _ A = _
  rw [bnd_ok he, bnd_ok hi]
  show (match atI (w.map PV.int) k with | some v => ret v | none => stuck) A = _
  rw [hk]; rfl
theorem at_getD {w : List Int} {k : Nat} (h : k < w.length) : atI (w.map PV.int) (k : Int) = some (.int (w.getD k 0)) := by
  rw [at_map h]; simp [h]
theorem pop0_ok {e : ED} {σ : PSt} {A : PHp} {n : Nat} {x : PV} {l : List PV} (h : e σ A = .ok (.ref n) A) (hn : A[n]? = some (.lst (x :: l))) : ePop0 e σ A = .ok x (A.set n (.lst l)) := by
  show bnd (e σ) _ A = _
  rw [bnd_ok h]
  show bnd (mutAt n) _ A = _
  rw [bnd_ok (mutAt_lst hn)]; rfl
section
variable {A : PHp} {w r N : Nat} {ps : List (Int × Int)} {u : PV} {x j : Int}
noncomputable def longs (ps : List (Int × Int)) (W : List Int) : List Int := (takers (srt ps) (lastI W)).filter fun t => !decide (t ∈ W)
theorem longer_ok (Wb : WebAt A w r N ps) (P : Passings N ps) {W : List Int} (h0 : 0 < W.length) (hl : W.length ≤ 100) :
    ∃ A', f_longer_walks [.ref w, tupI W] A = .ok (.ref (A.length + 1)) A' ∧ A <+: A' ∧ A'[A.length + 1]? = some (.lst (((longs ps W).map fun t => W ++ [t]).map tupI)) := by
  let σ : PSt := [some (.ref w), some (tupI W)]
  have ix : eBin oIx (eVar 1) (eK (.int (-1))) σ A = .ok (.int (lastI W)) A := ixT_ok (w := W) rfl rfl (at_last h0)
  have g1 : eMeth 0 f_Web_takers_of (eVar 0) (aCons (eBin oIx (eVar 1) (eK (.int (-1)))) aNil) σ A = _ := meth_ok (c := 0) (f := f_Web_takers_of) (a := eVar 0) (A := A) (A1 := A) (A2 := A) (n := w) rfl Wb.ob (args1_ok ix) (takers_of_ok Wb P.len (h := lastI W))
  have htl : (takers (srt ps) (lastI W)).length ≤ 64 := by have := takers_len (srt ps) (lastI W); rw [(srt_perm ps).length_eq] at this; have := P.len; omega
  have ec : f_longer_walks_c1 σ A = .ok (.ref (A.length + 1)) (A ++ [.lst ((takers (srt ps) (lastI W)).map .int)] ++ [.lst (((longs ps W).map fun t => W ++ [t]).map tupI)]) := by
    unfold f_longer_walks_c1
    refine Eq.trans (comp_lst (a := A.length) (l := (takers (srt ps) (lastI W)).map .int) (A1 := A ++ [.lst ((takers (srt ps) (lastI W)).map .int)]) (S := fun σ => ∃ y, σ = [y, some (tupI W)]) (p := fun v => !decide (iv v ∈ W)) (f := fun v => tupI (W ++ [iv v])) (iseq_ok g1 lstAt_last) lstAt_last (lim_le (by rw [List.length_map]; omega)) ⟨_, rfl⟩ ?_) ?_
    · rintro v hv σ ⟨y, rfl⟩
      obtain ⟨t, ht, rfl⟩ := List.mem_map.mp hv
      refine ⟨[some (.int t), some (tupI W)], rfl, ⟨_, rfl⟩, ?_, fun _ => ?_⟩
      · refine tval_ok (bin_ok (x := .int t) (y := tupI W) rfl rfl ?_)
        show guard (plain (.int t) = true ∧ plains (W.map .int) = true) _ _ = _
        rw [guard_pos ⟨rfl, plains_ints W⟩, pIn_ints]; rfl
      · refine bin_ok (x := tupI W) (y := .tup [.int t]) (A1 := A ++ [.lst ((takers (srt ps) (lastI W)).map .int)]) (A2 := A ++ [.lst ((takers (srt ps) (lastI W)).map .int)]) rfl ?_ ?_
        · show bnd (aCons (eVar 0) aNil [some (.int t), some (tupI W)]) _ _ = _
          rw [bnd_ok (args1_ok rfl), guard_pos (by simp)]; rfl
        · show guard (W.map PV.int ≠ [] ∧ (W.map PV.int).length + [PV.int t].length ≤ LIM) _ _ = _
          rw [guard_pos ⟨fun z => by rw [List.map_eq_nil_iff.mp z] at h0; simp at h0, lim_le (by simp; omega)⟩]
          show R.ok (PV.tup (W.map PV.int ++ [PV.int t])) _ = R.ok (PV.tup ((W ++ [t]).map PV.int)) _
          rw [List.map_append]; rfl
    · rw [filter_int, List.map_map, longs, List.map_map, List.length_append]; rfl
  refine ⟨A ++ [.lst ((takers (srt ps) (lastI W)).map .int)] ++ [.lst (((longs ps W).map fun t => W ++ [t]).map tupI)], ?_, pre_app (pre_app (List.prefix_refl _)), ?_⟩
  · unfold f_longer_walks
    exact fn_rt rfl (ret_ok ec)
  · have := get_app (A := A ++ [PO.lst ((takers (srt ps) (lastI W)).map .int)]) (o := .lst (((longs ps W).map fun t => W ++ [t]).map tupI))
    rwa [List.length_append] at this
theorem takers_lt (ps : List (Int × Int)) (nd : ps.Nodup) (h : Int) : (takers (srt ps) h).Pairwise (· < ·) := by
  unfold takers
  rw [List.pairwise_map]
  have hnd : (srt ps).Nodup := (srt_perm ps).nodup_iff.mpr nd
  have both : (srt ps).Pairwise (fun p q => ltP q p = false ∧ p ≠ q) := (srt_sorted ps).and hnd
  refine List.Pairwise.imp_of_mem ?_ (both.filter _)
  rintro ⟨a, b⟩ ⟨c, d⟩ hp hq ⟨hl, hne⟩
  have h1 := (List.mem_filter.mp hp).2
  have h2 := (List.mem_filter.mp hq).2
  simp at h1 h2
  rw [ltP_false] at hl
  simp only at hl ⊢
  subst h1; subst h2
  have : b ≠ d := fun z => hne (by rw [z])
  omega
noncomputable def cst (w d q : Nat) (x j : Int) (u : PV) (x6 x7 : Option PV) : PSt := [some (.ref w), some (.int x), some (.int j), some u, some (.ref d), some (.ref q), x6, x7]
structure CS (A B : PHp) (d q : Nat) (M : List Int) (Q : List (List Int)) : Prop where
  pre : A <+: B
  ad : A.length ≤ d
  aq : A.length ≤ q
  ne : d ≠ q
  sd : B[d]? = some (.dI (marks M))
  sq : B[q]? = some (.lst (Q.map tupI))
theorem CS.app {B : PHp} {d q : Nat} {M : List Int} {Q : List (List Int)} (S : CS A B d q M Q) (o : PO) : CS A (B ++ [o]) d q M Q := ⟨pre_app S.pre, S.ad, S.aq, S.ne, get_app_of S.sd, get_app_of S.sq⟩
theorem CS.mono {B B' : PHp} {d q : Nat} {M : List Int} {Q : List (List Int)} (S : CS A B d q M Q) (h : B <+: B') : CS A B' d q M Q := ⟨S.pre.trans h, S.ad, S.aq, S.ne, pre_get h S.sd, pre_get h S.sq⟩
theorem CS.setq {B : PHp} {d q : Nat} {M : List Int} {Q : List (List Int)} (S : CS A B d q M Q) (V : List (List Int)) : CS A (B.set q (.lst (V.map tupI))) d q M V := ⟨pre_set S.pre S.aq, S.ad, S.aq, S.ne, by rw [get_set_ne S.ne]; exact S.sd, get_set S.sq⟩
theorem CS.setd {B : PHp} {d q : Nat} {M : List Int} {Q : List (List Int)} (S : CS A B d q M Q) (V : List Int) : CS A (B.set d (.dI (marks V))) d q V Q := ⟨pre_set S.pre S.ad, S.ad, S.aq, S.ne, get_set S.sd, by rw [get_set_ne S.ne.symm]; exact S.sq⟩
open Classical in
theorem chain_b2 (hu : plain u = true) {B : PHp} {d q : Nat} {M : List Int} {Q : List (List Int)} {W : List Int} {t : Int} (S : CS A B d q M Q) (hM : M.length ≤ 100) (hQ : Q.length ≤ 1000) (x6 : Option PV) :
    f_least_chain_b2 (cst w d q x j u x6 (some (tupI (W ++ [t])))) B = if PV.int t ≠ u ∧ t ∉ M then R.ok (Fl.nx (cst w d q x j u x6 (some (tupI (W ++ [t]))))) ((B.set d (.dI (marks (M ++ [t])))).set q (.lst ((Q ++ [W ++ [t]]).map tupI))) else R.ok (Fl.nx (cst w d q x j u x6 (some (tupI (W ++ [t]))))) B := by
  let σ : PSt := cst w d q x j u x6 (some (tupI (W ++ [t])))
  have ixB : ∀ B : PHp, eBin oIx (eVar 7) (eK (.int (-1))) σ B = .ok (.int t) B := fun B => by
    have := at_last (w := W ++ [t]) (by simp)
    rw [lastI_app] at this
    exact ixT_ok (w := W ++ [t]) rfl rfl this
  have t1 : tVal (eBin oNe (eBin oIx (eVar 7) (eK (.int (-1)))) (eVar 3)) σ B = .ok (!eqv (.int t) u) B := tval_ok (bin_ok (ixB B) rfl (ne_ok rfl hu))
  have t2 : tVal (eDNotIn (eBin oIx (eVar 7) (eK (.int (-1)))) (eVar 4)) σ B = .ok (!decide (t ∈ M)) B := by
    rw [← valI_marks]; exact tval_ok (dnotin_ok (ixB B) rfl S.sd)
  have ee := eqv_iff (.int t) u rfl
  have tt : tAnd (tVal (eBin oNe (eBin oIx (eVar 7) (eK (.int (-1)))) (eVar 3))) (tVal (eDNotIn (eBin oIx (eVar 7) (eK (.int (-1)))) (eVar 4))) σ B = .ok (!eqv (.int t) u && !decide (t ∈ M)) B :=
    tand_ok t1 (fun e => by rw [e]; exact t2) (fun e => by rw [e]; exact ⟨rfl, rfl⟩)
  unfold f_least_chain_b2
  by_cases c : PV.int t ≠ u ∧ t ∉ M
  · rw [if_pos c]
    have e1 : eqv (.int t) u = false := by
      cases z : eqv (.int t) u with
      | false => rfl
      | true => exact absurd (ee.mp z) c.1
    rw [if_t (A' := B) (by rw [tt, e1]; simp [c.2])]
    have p := dput_ok (d := eVar 4) (y := eBin oIx (eVar 7) (eK (.int (-1)))) (e := eK (.bl true)) (σ := σ) (A := B) (k := t) (n := d) (v := .bl true) rfl rfl (ixB B) S.sd (lim_lt (by rw [marks_len]; omega))
    rw [putI_marks c.2] at p
    rw [seq_nx p]
    have ap := append_ok (e := eVar 5) (v := eVar 7) (σ := σ) (f := q) (u := tupI (W ++ [t])) rfl (S.setd (M ++ [t])).sq rfl (lim_lt (by rw [List.length_map]; omega))
    rw [expr_ok ap, List.map_append]; rfl
  · rw [if_neg c]
    rw [if_f (A' := B) (by
      rw [tt]
      by_cases c1 : PV.int t = u
      · rw [ee.mpr c1]; rfl
      · have : t ∈ M := by
          by_cases z : t ∈ M
          · exact z
          · exact absurd ⟨c1, z⟩ c
        simp [this])]
    rfl
open Classical in
noncomputable def frs (u : PV) (M l : List Int) : List Int := l.filter fun t => decide (PV.int t ≠ u ∧ t ∉ M)
@[simp] theorem frs_nil (u : PV) (M : List Int) : frs u M [] = [] := rfl
open Classical in
theorem mem_frs {u : PV} {M l : List Int} {t : Int} : t ∈ frs u M l ↔ t ∈ l ∧ PV.int t ≠ u ∧ t ∉ M := by
  unfold frs
  rw [List.mem_filter, decide_eq_true_eq]
theorem frs_len (u : PV) (M l : List Int) : (frs u M l).length ≤ l.length := List.length_filter_le _ _
theorem frs_app (u : PV) (M l m : List Int) : frs u M (l ++ m) = frs u M l ++ frs u M m := List.filter_append _ _
open Classical in
theorem frs_pos {u : PV} {M : List Int} {t : Int} (h : PV.int t ≠ u ∧ t ∉ M) : frs u M [t] = [t] := by
  unfold frs
  rw [List.filter_cons_of_pos (by simpa using h)]; rfl
open Classical in
theorem frs_neg {u : PV} {M : List Int} {t : Int} (h : ¬ (PV.int t ≠ u ∧ t ∉ M)) : frs u M [t] = [] := by
  unfold frs
  rw [List.filter_cons_of_neg (by rw [decide_eq_true_eq]; exact h)]; rfl
noncomputable def fresh (ps : List (Int × Int)) (u : PV) (M : List Int) (W : List Int) : List Int := frs u M (longs ps W)
theorem drop_hat {H : List (List Int)} {p : Nat} (h : p < H.length) : H.drop p = hat H p :: H.drop (p + 1) := by
  rw [List.drop_eq_getElem_cons h]
  congr 1
  unfold hat
  rw [List.getD_eq_getElem?_getD, List.getElem?_eq_getElem h]; rfl
theorem chain_l2 (Wb : WebAt A w r N ps) (P : Passings N ps) (hu : plain u = true) {B : PHp} {d q : Nat} {M : List Int} {Q : List (List Int)} {W : List Int} (S : CS A B d q M Q) (hM : M.length ≤ 6) (hQ : Q.length ≤ 6) (h0 : 0 < W.length) (hl : W.length ≤ 100) (x7 : Option PV) :
    ∃ B' y7, f_least_chain_l2 (cst w d q x j u (some (tupI W)) x7) B = .ok (.nx (cst w d q x j u (some (tupI W)) y7)) B' ∧ CS A B' d q (M ++ fresh ps u M W) (Q ++ (fresh ps u M W).map fun t => W ++ [t]) := by
  obtain ⟨B1, e1, p1, hl1⟩ := longer_ok (Wb.mono S.pre) P h0 hl
  have ei : iSeq (eCall f_longer_walks (aCons (eVar 0) (aCons (eVar 6) aNil))) (cst w d q x j u (some (tupI W)) x7) B = .ok (.lst (B.length + 1)) B1 := iseq_ok (call_ok (args2_ok rfl rfl) e1) (lstAt_lst hl1)
  have hlo : (longs ps W).Pairwise (· < ·) := (takers_lt ps P.nd _).filter _
  have hll : (longs ps W).length ≤ 64 := by
    have h1 := List.length_filter_le (fun t => !decide (t ∈ W)) (takers (srt ps) (lastI W))
    have := takers_len (srt ps) (lastI W); rw [(srt_perm ps).length_eq] at this; have := P.len
    unfold longs; omega
  have LL : Comes (f_least_chain_l2 (cst w d q x j u (some (tupI W)) x7) B) (fun σ B' => ∃ y7, σ = cst w d q x j u (some (tupI W)) y7 ∧ CS A B' d q (M ++ fresh ps u M W) (Q ++ (fresh ps u M W).map fun t => W ++ [t])) (fun _ _ => False) := by
    unfold f_least_chain_l2
    refine for_lst' (a := B.length + 1) (l := ((longs ps W).map fun t => W ++ [t]).map tupI) (A1 := B1) ei
      (fun i σ B' => ∃ y7, σ = cst w d q x j u (some (tupI W)) y7 ∧ B'[B.length + 1]? = some (.lst (((longs ps W).map fun t => W ++ [t]).map tupI)) ∧ CS A B' d q (M ++ frs u M ((longs ps W).take i)) (Q ++ (frs u M ((longs ps W).take i)).map fun t => W ++ [t]))
      ⟨x7, rfl, hl1, by simpa using S.mono p1⟩ ?_ ?_ ?_
    · rintro i σ B' ⟨y7, rfl, h1, _⟩
      exact lstAt_lst h1
    · rintro i v σ B' hv ⟨y7, rfl, hL, S1⟩
      obtain ⟨t, ht, rfl⟩ : ∃ t, (longs ps W)[i]? = some t ∧ v = tupI (W ++ [t]) := by
        rw [List.getElem?_map, List.getElem?_map] at hv
        cases e : (longs ps W)[i]? with
        | none => rw [e] at hv; cases hv
        | some b => rw [e] at hv; exact ⟨b, rfl, (Option.some.inj hv).symm⟩
      have hil := (List.getElem?_eq_some_iff.mp ht).1
      have hflt : (frs u M ((longs ps W).take i)).length ≤ 64 := by
        have h1 := frs_len u M ((longs ps W).take i)
        have h2 := List.length_take_le i (longs ps W)
        rw [List.length_take] at h1
        omega
      have hnt : t ∉ (longs ps W).take i := by
        intro hm
        obtain ⟨k, hk, e⟩ := List.mem_iff_getElem.mp hm
        rw [List.length_take] at hk
        rw [List.getElem_take] at e
        have := List.pairwise_iff_getElem.mp hlo k i (by omega) hil (by omega)
        rw [e, (List.getElem?_eq_some_iff.mp ht).2] at this
        omega
      have eb := chain_b2 (w := w) (x := x) (j := j) (W := W) (t := t) hu S1 (by simp; omega) (by simp; omega) (some (tupI W))
      have e' : bnd (gName 7 (tupI (W ++ [t])) (cst w d q x j u (some (tupI W)) y7)) f_least_chain_b2 B' = f_least_chain_b2 (cst w d q x j u (some (tupI W)) (some (tupI (W ++ [t])))) B' := rfl
      rw [e']
      have etk : (longs ps W).take (i + 1) = (longs ps W).take i ++ [t] := by rw [List.take_succ, ht]; rfl
      by_cases c : PV.int t ≠ u ∧ t ∉ M
      · have c' : PV.int t ≠ u ∧ t ∉ M ++ frs u M ((longs ps W).take i) := by
          refine ⟨c.1, fun z => ?_⟩
          rcases List.mem_append.mp z with z | z
          · exact c.2 z
          · exact hnt (mem_frs.mp z).1
        rw [if_pos c'] at eb
        have ef : frs u M ((longs ps W).take (i + 1)) = frs u M ((longs ps W).take i) ++ [t] := by rw [etk, frs_app, frs_pos c]
        refine Turns.nx eb ⟨_, rfl, ?_, ?_⟩
        · have n1 : B.length + 1 ≠ d := by rintro e; rw [e, S1.sd] at hL; cases hL
          have n2 : B.length + 1 ≠ q := by rintro e; have := pre_lt S.sq; omega
          rw [get_set_ne n2, get_set_ne n1]; exact hL
        · have e1 : M ++ (frs u M ((longs ps W).take i) ++ [t]) = M ++ frs u M ((longs ps W).take i) ++ [t] := (List.append_assoc _ _ _).symm
          have e2 : Q ++ (frs u M ((longs ps W).take i) ++ [t]).map (fun t => W ++ [t]) = Q ++ (frs u M ((longs ps W).take i)).map (fun t => W ++ [t]) ++ [W ++ [t]] := by
            rw [List.map_append, ← List.append_assoc]; rfl
          rw [ef, e1, e2]
          exact (S1.setd _).setq _
      · have c' : ¬ (PV.int t ≠ u ∧ t ∉ M ++ frs u M ((longs ps W).take i)) := fun z => c ⟨z.1, fun y => z.2 (List.mem_append_left _ y)⟩
        rw [if_neg c'] at eb
        have ef : frs u M ((longs ps W).take (i + 1)) = frs u M ((longs ps W).take i) := by rw [etk, frs_app, frs_neg c, List.append_nil]
        refine Turns.nx eb ⟨_, rfl, hL, ?_⟩
        rw [ef]; exact S1
    · rintro σ B' ⟨y7, rfl, _, S1⟩
      rw [List.length_map, List.length_map, List.take_length] at S1
      exact ⟨y7, rfl, S1⟩
  obtain ⟨σ, B', e, y7, rfl, h1⟩ := LL.end
  exact ⟨B', y7, e, h1⟩
theorem BF.hands (Bf : BF ps u x j H par p) (hx : 0 ≤ x ∧ x < N) (hg : ∀ p ∈ ps, good N p) : H.length ≤ N := by
  have : ∀ y ∈ H.map lastI, y ∈ Ws.hands N := by
    intro y hy
    obtain ⟨i, hi, rfl⟩ := hat_of_mem hy
    by_cases c : i = 0
    · rw [c, Bf.hd]; exact mem_hands.mpr hx
    · exact mem_hands.mpr (hg _ (Bf.par1 i (by omega) hi).2.2.2.1).2.1
  have := Bf.nd.length_le_of_subset this
  rw [hands_len, List.length_map] at this; exact this
theorem least_ok (Wb : WebAt A w r N ps) (P : Passings N ps) (hu : plain u = true) (hx : 0 ≤ x ∧ x < N) :
    ∃ A' v, f_least_chain [.ref w, .int x, .int j, u] A = .ok v A' ∧ A <+: A' ∧ ((v = .non ∧ ∃ H par, BF ps u x j H par H.length) ∨ ∃ H par p, p < H.length ∧ BF ps u x j H par p ∧ lastI (hat H p) = j ∧ H.length ≤ N ∧ v = tupI (hat H p)) := by
  have hN : N ≤ 6 := by have := P.hi; omega
  let d := A.length
  let q := A.length + 1
  have S0 : CS A (A ++ [.dI (marks [x])] ++ [.lst ([[x]].map tupI)]) A.length (A.length + 1) [x] [[x]] := by
    refine ⟨pre_app (pre_app (List.prefix_refl _)), Nat.le_refl _, by omega, by omega, get_app_of get_app, ?_⟩
    have := get_app (A := A ++ [.dI (marks [x])]) (o := .lst ([[x]].map tupI))
    rwa [List.length_append] at this
  have LL : Comes (f_least_chain_l1 (cst w A.length (A.length + 1) x j u none none) (A ++ [.dI (marks [x])] ++ [.lst ([[x]].map tupI)]))
      (fun σ B' => A <+: B' ∧ ∃ H par, BF ps u x j H par H.length) (fun v B' => A <+: B' ∧ ∃ H par p, p < H.length ∧ BF ps u x j H par p ∧ lastI (hat H p) = j ∧ H.length ≤ N ∧ v = tupI (hat H p)) := by
    unfold f_least_chain_l1
    refine while_ok (fun m σ B' => ∃ H par p y6 y7, σ = cst w A.length (A.length + 1) x j u y6 y7 ∧ BF ps u x j H par p ∧ CS A B' A.length (A.length + 1) (H.map lastI) (H.drop p) ∧ m = 20 - p) (m := 20) (by decide)
      ⟨[[x]], fun _ => 0, 0, none, none, rfl, BF.start, by simpa [lastI] using S0, rfl⟩ ?_
    rintro m σ B' ⟨H, par, p, y6, y7, rfl, Bf, S1, hm⟩
    have hHN := Bf.hands hx P.good
    have ht := ne_nilT (e := eVar 5) (σ := cst w A.length (A.length + 1) x j u y6 y7) (A := B') rfl S1.sq
    by_cases c : p < H.length
    · right
      have hdr := drop_hat c
      refine ⟨_, by rw [ht, hdr]; rfl, ?_⟩
      have S2 := S1.app (.lst [])
      rw [hdr] at S2
      have S3 := S2.setq (H.drop (p + 1))
      have h0 := Bf.len_pos c
      have hl := Bf.len_le (p + 1) p (by omega) c
      have pop := pop0_ok (e := eVar 5) (σ := cst w A.length (A.length + 1) x j u y6 y7) rfl S2.sq
      have s1 : sAsg (ePop0 (eVar 5)) (gName 6) (cst w A.length (A.length + 1) x j u y6 y7) (B' ++ [PO.lst []]) = .ok (.nx (cst w A.length (A.length + 1) x j u (some (tupI (hat H p))) y7)) ((B' ++ [PO.lst []]).set (A.length + 1) (.lst ((H.drop (p + 1)).map tupI))) := asg_ok (v := tupI (hat H p)) pop rfl
      generalize hB2 : (B' ++ [PO.lst []]).set (A.length + 1) (.lst ((H.drop (p + 1)).map tupI)) = B2 at s1 S3
      have tt : tVal (eBin oEq (eBin oIx (eVar 6) (eK (.int (-1)))) (eVar 2)) (cst w A.length (A.length + 1) x j u (some (tupI (hat H p))) y7) B2 = .ok (decide (lastI (hat H p) = j)) B2 := by
        refine tval_ok (bin_ok (ixT_ok (w := hat H p) rfl rfl (at_last h0)) rfl ?_)
        rw [eq_ok rfl rfl]; rfl
      by_cases cj : lastI (hat H p) = j
      · right
        refine ⟨tupI (hat H p), B2, ?_, S3.pre, H, par, p, c, Bf, cj, hHN, rfl⟩
        unfold f_least_chain_b1
        rw [seq_nx s1]
        refine seq_rt ?_
        rw [if_t (A' := B2) (by rw [tt, decide_eq_true cj])]; rfl
      · obtain ⟨B3, z7, e3, S4⟩ := chain_l2 (x := x) (j := j) Wb P hu S3 (by rw [List.length_map]; omega) (by rw [List.length_drop]; omega) h0 (by omega) y7
        have hfm : ∀ t, t ∈ fresh ps u (H.map lastI) (hat H p) ↔ (lastI (hat H p), t) ∈ ps ∧ PV.int t ≠ u ∧ t ∉ H.map lastI := by
          intro t
          unfold fresh longs
          rw [mem_frs, List.mem_filter, mem_takers]
          simp only [Bool.not_eq_true', decide_eq_false_iff_not]
          constructor
          · rintro ⟨⟨h1, _⟩, h2⟩; exact ⟨h1, h2⟩
          · rintro ⟨h1, h2, h3⟩
            exact ⟨⟨h1, fun z => h3 (Bf.elems (p + 1) p (by omega) c t z)⟩, h2, h3⟩
        have hfl : (fresh ps u (H.map lastI) (hat H p)).Pairwise (· < ·) := by unfold fresh frs longs; exact ((takers_lt ps P.nd _).filter _).filter _
        have Bf' := Bf.next c cj hfl hfm
        refine Turns.nx (σ := cst w A.length (A.length + 1) x j u (some (tupI (hat H p))) z7) (A := B3) ?_ ⟨20 - (p + 1), by omega, _, _, p + 1, _, _, rfl, Bf', ?_, rfl⟩
        · unfold f_least_chain_b1
          rw [seq_nx s1, seq_nx (σ' := cst w A.length (A.length + 1) x j u (some (tupI (hat H p))) y7) (A' := B2) (by rw [if_f (A' := B2) (by rw [tt, decide_eq_false cj])]; rfl)]
          exact e3
        · have em : (H ++ (fresh ps u (H.map lastI) (hat H p)).map fun t => hat H p ++ [t]).map lastI = H.map lastI ++ fresh ps u (H.map lastI) (hat H p) := by
            rw [List.map_append, List.map_map]
            congr 1
            exact (List.map_congr_left fun t _ => lastI_app _ _).trans (List.map_id' _)
          rw [em, List.drop_append_of_le_length (by omega)]
          exact S4
    · left
      have hpe : p = H.length := by have := Bf.ple; omega
      refine ⟨_, by rw [ht, List.drop_of_length_le (by omega)]; rfl, pre_app S1.pre, H, par, by rw [hpe] at Bf; exact Bf⟩
  have e1 : sAsg (eDisp1 (eVar 1) (eK (.bl true))) (gName 4) (start 8 [.ref w, .int x, .int j, u]) A = .ok (.nx [some (.ref w), some (.int x), some (.int j), some u, some (.ref A.length), none, none, none]) (A ++ [.dI (marks [x])]) := by
    refine asg_ok (v := .ref A.length) (A' := A ++ [.dI (marks [x])]) ?_ rfl
    simp [marks]
  have e2 : sAsg (eLst (aCons (eTup (aCons (eVar 1) aNil)) aNil)) (gName 5) [some (.ref w), some (.int x), some (.int j), some u, some (.ref A.length), none, none, none] (A ++ [.dI (marks [x])]) = .ok (.nx (cst w A.length (A.length + 1) x j u none none)) (A ++ [.dI (marks [x])] ++ [.lst ([[x]].map tupI)]) := by
    refine asg_ok (v := .ref (A.length + 1)) (A' := A ++ [.dI (marks [x])] ++ [.lst ([[x]].map tupI)]) ?_ rfl
    simp [tupI]
  rcases LL with ⟨σ, B', e, p1, h⟩ | ⟨v, B', e, p1, h⟩
  · refine ⟨B', .non, ?_, p1, .inl ⟨rfl, h⟩⟩
    unfold f_least_chain
    refine fn_rt rfl ?_
    rw [seq_nx e1, seq_nx e2, seq_nx e]; rfl
  · refine ⟨B', v, ?_, p1, .inr h⟩
    unfold f_least_chain
    refine fn_rt rfl ?_
    rw [seq_nx e1, seq_nx e2]
    exact seq_rt e
end
end Ws
namespace Ws
noncomputable def Lx (w v : List Int) : Prop := ∃ k, k < w.length ∧ k < v.length ∧ (∀ i, i < k → w.getD i 0 = v.getD i 0) ∧ w.getD k 0 < v.getD k 0
noncomputable def RL (w v : List Int) : Prop := w.length < v.length ∨ (w.length = v.length ∧ Lx w v)
theorem Lx.asym {w v : List Int} (a : Lx w v) (b : Lx v w) : False := by
  obtain ⟨k, h1, h2, h3, h4⟩ := a
  obtain ⟨l, g1, g2, g3, g4⟩ := b
  rcases Nat.lt_trichotomy k l with z | z | z
  · have := g3 k z; omega
  · subst z; omega
  · have := h3 l z; omega
noncomputable def lng (ps : List (Int × Int)) (W : List Int) : List (List Int) := (longs ps W).map fun t => W ++ [t]
theorem getD_app {w : List Int} {t : Int} {i : Nat} (h : i < w.length) : (w ++ [t]).getD i 0 = w.getD i 0 := by
  rw [List.getD_eq_getElem?_getD, List.getD_eq_getElem?_getD, List.getElem?_append_left h]
theorem getD_end (w : List Int) (t : Int) : (w ++ [t]).getD w.length 0 = t := by
  rw [List.getD_eq_getElem?_getD, List.getElem?_append_right (Nat.le_refl _)]; simp
theorem rl_app {w v : List Int} (h : RL w v) (s t : Int) : RL (w ++ [s]) (v ++ [t]) := by
  rcases h with h | ⟨h, k, h1, h2, h3, h4⟩
  · exact .inl (by simp; omega)
  · refine .inr ⟨by simp [h], k, by simp; omega, by simp; omega, fun i hi => ?_, ?_⟩
    · rw [getD_app (by omega), getD_app (by omega)]; exact h3 i hi
    · rw [getD_app h1, getD_app h2]; exact h4
theorem rl_end {w : List Int} {s t : Int} (h : s < t) : RL (w ++ [s]) (w ++ [t]) := by
  refine .inr ⟨by simp, w.length, by simp, by simp, fun i hi => ?_, ?_⟩
  · rw [getD_app hi, getD_app hi]
  · rw [getD_end, getD_end]; exact h
structure AW (ps : List (Int × Int)) (x : Int) (H : List (List Int)) (p : Nat) : Prop where
  ple : p ≤ H.length
  eq : H = [x] :: (H.take p).flatMap (lng ps)
  ord : H.Pairwise RL
  pos : ∀ w ∈ H, 0 < w.length
section
variable {ps : List (Int × Int)} {x : Int} {H : List (List Int)} {p : Nat}
theorem AW.start : AW ps x [[x]] 0 := ⟨by simp, by simp, by simp, by simp⟩
theorem longs_lt (nd : ps.Nodup) (W : List Int) : (longs ps W).Pairwise (· < ·) := (takers_lt ps nd _).filter _
theorem AW.next (nd : ps.Nodup) (h : AW ps x H p) (hp : p < H.length) : AW ps x (H ++ lng ps H[p]) (p + 1) := by
  have ht : (H ++ lng ps H[p]).take (p + 1) = H.take p ++ [H[p]] := by
    rw [List.take_append_of_le_length (by omega), List.take_succ, List.getElem?_eq_getElem hp]; rfl
  refine ⟨by simp; omega, ?_, ?_, ?_⟩
  · rw [ht, List.flatMap_append, List.flatMap_cons, List.flatMap_nil, List.append_nil, ← List.cons_append, ← h.eq]
  · rw [List.pairwise_append]
    refine ⟨h.ord, ?_, fun a ha b hb => ?_⟩
    · unfold lng
      rw [List.pairwise_map]
      exact (longs_lt nd _).imp fun z => rl_end z
    · obtain ⟨t, _, rfl⟩ := List.mem_map.mp hb
      rw [h.eq] at ha
      rcases List.mem_cons.mp ha with rfl | ha
      · have := h.pos H[p] (List.getElem_mem hp)
        exact .inl (by simp; omega)
      · obtain ⟨w, hw, hs⟩ := List.mem_flatMap.mp ha
        obtain ⟨s, _, rfl⟩ := List.mem_map.mp hs
        obtain ⟨q, hq, rfl⟩ := List.mem_iff_getElem.mp hw
        rw [List.length_take] at hq
        rw [List.getElem_take]
        exact rl_app (List.pairwise_iff_getElem.mp h.ord q p (by omega) hp (by omega)) s t
  · intro w hw
    rcases List.mem_append.mp hw with hw | hw
    · exact h.pos w hw
    · obtain ⟨t, _, rfl⟩ := List.mem_map.mp hw; simp
structure Wk (ps : List (Int × Int)) (x : Int) (w : List Int) : Prop where
  ne : 0 < w.length
  hd : w.getD 0 0 = x
  nd : w.Nodup
  st : ∀ i, i + 1 < w.length → (w.getD i 0, w.getD (i + 1) 0) ∈ ps
theorem last_getD {w : List Int} (h : 0 < w.length) : lastI w = w.getD (w.length - 1) 0 := by
  unfold lastI
  rw [List.getLastD_eq_getLast?, List.getLast?_eq_getElem?, List.getD_eq_getElem?_getD]
theorem mem_longs {W : List Int} {t : Int} : t ∈ longs ps W ↔ (lastI W, t) ∈ ps ∧ t ∉ W := by
  unfold longs
  rw [List.mem_filter, mem_takers]; simp
theorem Wk.app {w : List Int} {t : Int} (h : Wk ps x w) (ht : t ∈ longs ps w) : Wk ps x (w ++ [t]) := by
  obtain ⟨h1, h2⟩ := mem_longs.mp ht
  have := h.ne
  refine ⟨by simp, by rw [getD_app h.ne]; exact h.hd, ?_, fun i hi => ?_⟩
  · rw [List.nodup_append]
    exact ⟨h.nd, by simp, fun a ha b hb e => by simp at hb; subst hb; subst e; exact h2 ha⟩
  · rw [List.length_append, List.length_singleton] at hi
    by_cases e : i + 1 < w.length
    · rw [getD_app (by omega), getD_app e]; exact h.st i e
    · have e1 : i + 1 = w.length := by omega
      rw [getD_app (by omega), e1, getD_end]
      rw [last_getD h.ne, ← e1] at h1
      exact h1
theorem AW.sound (h : AW ps x H H.length) : ∀ (n : Nat) (w : List Int), w.length ≤ n → w ∈ H → Wk ps x w
  | 0, w, hn, hw => absurd (h.pos w hw) (by omega)
  | n + 1, w, hn, hw => by
    have e := h.eq
    rw [List.take_length] at e
    rw [e] at hw
    rcases List.mem_cons.mp hw with rfl | hw
    · exact ⟨by simp, rfl, by simp, fun i hi => absurd hi (by simp)⟩
    · obtain ⟨v, hv, hs⟩ := List.mem_flatMap.mp hw
      obtain ⟨t, ht, rfl⟩ := List.mem_map.mp hs
      exact (AW.sound h n v (by simp at hn; omega) hv).app ht
theorem AW.all (h : AW ps x H H.length) : ∀ (n : Nat) (w : List Int), w.length ≤ n → Wk ps x w → w ∈ H
  | 0, w, hn, hw => absurd hw.ne (by omega)
  | n + 1, w, hn, hw => by
    have e := h.eq
    rw [List.take_length] at e
    rw [e]
    by_cases h1 : w.length = 1
    · obtain ⟨y, rfl⟩ := List.length_eq_one_iff.mp h1
      have := hw.hd
      simp at this
      subst this
      exact List.mem_cons_self
    · have hne : w ≠ [] := List.length_pos_iff.mp hw.ne
      have hsp := List.dropLast_concat_getLast hne
      generalize hv : w.dropLast = v at hsp
      generalize w.getLast hne = t at hsp
      subst hsp
      have hvl : 0 < v.length := by rw [List.length_append, List.length_singleton] at h1; omega
      have nd := hw.nd
      rw [List.nodup_append] at nd
      have hvw : Wk ps x v := ⟨hvl, by have := hw.hd; rwa [getD_app hvl] at this, nd.1, fun i hi => by
        have := hw.st i (by simp; omega)
        rwa [getD_app (by omega), getD_app hi] at this⟩
      have ht : t ∈ longs ps v := by
        refine mem_longs.mpr ⟨?_, fun z => nd.2.2 t z t (by simp) rfl⟩
        have := hw.st (v.length - 1) (by simp; omega)
        rw [getD_app (by omega), show v.length - 1 + 1 = v.length by omega, getD_end] at this
        rw [last_getD hvl]; exact this
      refine List.mem_cons_of_mem _ (List.mem_flatMap.mpr ⟨v, AW.all h n v (by simp at hn; omega) hvw, List.mem_map.mpr ⟨t, ht, rfl⟩⟩)
end
end Ws
namespace Ws
section
variable {ps : List (Int × Int)} {u : PV} {x j : Int} {nm : List (Int × Int)} {N : Nat}
open Classical in
theorem near_ex (hj : 0 ≤ j ∧ j < N) (hg : ∀ p ∈ ps, good N p) : ∃ nm, NF ps u j nm := by
  have key : ∀ T : Nat, ∃ n, NI N ps u j ((T : Int) + 1) n := by
    intro T
    induction T with
    | zero =>
      by_cases h : PV.int j = u
      · exact ⟨[], by simp [keys], fun g h => by simp [keys] at h, fun z => absurd h z, fun g v h => by simp [tval] at h, fun g t s _ h => by simp [tval] at h⟩
      · refine ⟨[(j, 0)], by simp [keys], fun g hg => ?_, fun _ => by simp [tval], fun g v hv => ?_, fun g t s h1 h2 h3 h4 => ?_⟩
        · simp [keys] at hg; subst hg; exact hj
        · by_cases e : j = g
          · subst e
            simp [tval] at hv
            subst hv
            exact ⟨h, by omega, by omega, fun _ => rfl, fun z => absurd z (by omega)⟩
          · simp [tval, e] at hv
        · exfalso
          by_cases e : j = t
          · subst e
            simp [tval] at h2
            omega
          · simp [tval, e] at h2
    | succ T ih =>
      obtain ⟨n, I⟩ := ih
      have := I.next (by omega) (F := (hands N).filter fun g => decide (g ∉ keys n ∧ PV.int g ≠ u ∧ ∃ t, t ∈ keys n ∧ (g, t) ∈ ps)) ((hands_nd N).filter _) (fun g hg => by
        rw [List.mem_filter, mem_hands] at hg
        have h2 := of_decide_eq_true hg.2
        exact ⟨h2.1, h2.2.1, hg.1, h2.2.2⟩) (fun g t h1 h2 h3 => by
        by_cases e : g ∈ keys n
        · exact .inl e
        · refine .inr ?_
          rw [List.mem_filter, mem_hands]
          exact ⟨(hg _ h1).1, decide_eq_true ⟨e, h3, t, h2, h1⟩⟩)
      have e : ((T + 1 : Nat) : Int) + 1 = (T : Int) + 1 + 1 := by omega
      rw [e]
      exact ⟨_, this⟩
  obtain ⟨n, I⟩ := key N
  exact ⟨n, I.nf⟩
theorem NF.path (M : NF ps u j nm) {c : List Int} (hl : lastI c = j) (hu : ∀ i, i < c.length → PV.int (c.getD i 0) ≠ u) (hs : ∀ i, i + 1 < c.length → (c.getD i 0, c.getD (i + 1) 0) ∈ ps) :
    ∀ d i, i + d + 1 = c.length → ∃ v : Int, tval nm (c.getD i 0) = some v ∧ v ≤ d
  | 0, i, h => by
    have e : c.getD i 0 = j := by rw [← hl, last_getD (by omega)]; congr 1; omega
    rw [e]
    have := hu i (by omega)
    rw [e] at this
    exact ⟨0, M.zero this, by omega⟩
  | d + 1, i, h => by
    obtain ⟨v, h1, h2⟩ := NF.path M hl hu hs d (i + 1) (by omega)
    obtain ⟨v', h3, h4⟩ := M.back _ _ v (hs i (by omega)) h1 (hu i (by omega))
    exact ⟨v', h3, by omega⟩
theorem Least.val {W : List Int} (L : Least ps j x nm W) : ∀ k, k < W.length → tval nm (W.getD k 0) = some ((W.length : Int) - 1 - k)
  | 0, _ => by rw [L.first, L.far]; simp
  | k + 1, h => by rw [(L.step k h).2.1]; congr 1; omega
theorem Least.wk {W : List Int} (L : Least ps j x nm W) : Wk ps x W := by
  refine ⟨L.ne, L.first, ?_, fun i hi => (L.step i hi).1⟩
  rw [List.nodup_iff_pairwise_ne]
  refine List.pairwise_iff_getElem.mpr fun i k hi hk hik e => ?_
  have h1 := L.val i hi
  have h2 := L.val k hk
  rw [List.getD_eq_getElem?_getD, List.getElem?_eq_getElem hi] at h1
  rw [List.getD_eq_getElem?_getD, List.getElem?_eq_getElem hk] at h2
  simp only [Option.getD_some] at h1 h2
  rw [e, h2] at h1
  have := Option.some.inj h1
  omega
theorem Least.free {W : List Int} (L : Least ps j x nm W) (M : NF ps u j nm) : ∀ i, i < W.length → PV.int (W.getD i 0) ≠ u := fun i hi => (M.good _ _ (L.val i hi)).1
theorem Least.first_of {W c : List Int} (L : Least ps j x nm W) (M : NF ps u j nm) (w : Wk ps x c) (hl : lastI c = j) (hu : ∀ i, i < c.length → PV.int (c.getD i 0) ≠ u) : RL W c ∨ W = c := by
  have hp := M.path hl hu w.st
  have hne := w.ne
  obtain ⟨v, h1, h2⟩ := hp (c.length - 1) 0 (by omega)
  rw [w.hd, L.far] at h1
  have h1 := Option.some.inj h1
  have hL := L.ne
  rcases Nat.lt_or_ge W.length c.length with z | z
  · exact .inl (.inl z)
  have hlen : W.length = c.length := by omega
  by_cases hall : ∀ i, i < W.length → W.getD i 0 = c.getD i 0
  · refine .inr (List.ext_getElem hlen fun i h3 h4 => ?_)
    have := hall i h3
    rw [List.getD_eq_getElem?_getD, List.getElem?_eq_getElem h3, List.getD_eq_getElem?_getD, List.getElem?_eq_getElem h4] at this
    simpa using this
  · have : ∃ k, k < W.length ∧ W.getD k 0 ≠ c.getD k 0 := by
      by_cases h : ∃ k, k < W.length ∧ W.getD k 0 ≠ c.getD k 0
      · exact h
      · exact absurd (fun i hi => by
          by_cases e : W.getD i 0 = c.getD i 0
          · exact e
          · exact absurd ⟨i, hi, e⟩ h) hall
    have least : ∀ n, (∃ k, k < n ∧ k < W.length ∧ W.getD k 0 ≠ c.getD k 0) → ∃ k, k < W.length ∧ W.getD k 0 ≠ c.getD k 0 ∧ ∀ i, i < k → W.getD i 0 = c.getD i 0 := by
      intro n
      induction n with
      | zero => rintro ⟨k, h, _⟩; omega
      | succ n ih =>
        rintro ⟨k, h3, h4, h5⟩
        by_cases h : ∃ k, k < n ∧ k < W.length ∧ W.getD k 0 ≠ c.getD k 0
        · exact ih h
        · refine ⟨k, h4, h5, fun i hi => ?_⟩
          by_cases e : W.getD i 0 = c.getD i 0
          · exact e
          · exact absurd ⟨i, by omega, by omega, e⟩ h
    obtain ⟨k0, h3, h4⟩ := this
    obtain ⟨k, hk, hne', heq⟩ := least W.length ⟨k0, h3, h3, h4⟩
    have hk0 : 0 < k := by
      rcases Nat.eq_zero_or_pos k with e | e
      · subst e; rw [L.first, w.hd] at hne'; exact absurd rfl hne'
      · exact e
    obtain ⟨v', g1, g2⟩ := hp (c.length - 1 - k) k (by omega)
    have hst := w.st (k - 1) (by omega)
    rw [show k - 1 + 1 = k by omega, ← heq (k - 1) (by omega)] at hst
    obtain ⟨v2, g3, g4⟩ := M.back _ _ v' hst g1 (L.free M (k - 1) (by omega))
    rw [L.val (k - 1) (by omega)] at g3
    have g3 := Option.some.inj g3
    have hv : v' = (W.length : Int) - 1 - ((k - 1 : Nat) : Int) - 1 := by omega
    have hs := (L.step (k - 1) (by omega)).2.2 (c.getD k 0) hst (by rw [g1, hv])
    rw [show k - 1 + 1 = k by omega] at hs
    exact .inl (.inr ⟨hlen, k, hk, by omega, heq, by omega⟩)
end
theorem find_first {l : List (List Int)} {P : List Int → Bool} {W : List Int} (hp : l.Pairwise RL) (hm : W ∈ l) (hW : P W = true) (hf : ∀ c ∈ l, P c = true → RL W c ∨ W = c) : l.find? P = some W := by
  induction l with
  | nil => cases hm
  | cons a r ih =>
    rw [List.pairwise_cons] at hp
    rw [List.find?_cons]
    cases h : P a with
    | true =>
      rcases hf a List.mem_cons_self h with z | z
      · rcases List.mem_cons.mp hm with e | e
        · rw [e]
        · exfalso
          rcases hp.1 W e with y | ⟨y1, y2⟩ <;> rcases z with z | ⟨z1, z2⟩
          · omega
          · omega
          · omega
          · exact y2.asym z2
      · rw [z]
    | false =>
      rcases List.mem_cons.mp hm with e | e
      · rw [e, h] at hW; cases hW
      · exact ih hp.2 e fun c hc => hf c (List.mem_cons_of_mem _ hc)
end Ws
namespace Ws
noncomputable def wt : Nat → Nat
  | 0 => 1
  | r + 1 => 1 + (r + 1) * wt r
noncomputable def wts (N : Nat) (Q : List (List Int)) : Nat := (Q.map fun w => wt (N - w.length)).sum
theorem wts_app (N : Nat) (Q R : List (List Int)) : wts N (Q ++ R) = wts N Q + wts N R := by simp [wts]
theorem wt_pos : ∀ r, 1 ≤ wt r
  | 0 => Nat.le_refl _
  | r + 1 => by unfold wt; omega
theorem wts_len (N : Nat) (Q : List (List Int)) : Q.length ≤ wts N Q := by
  induction Q with
  | nil => simp
  | cons w r ih =>
    have := wt_pos (N - w.length)
    simp [wts] at ih ⊢
    omega
section
variable {ps : List (Int × Int)} {N : Nat} {x : Int}
theorem wk_hands (hg : ∀ p ∈ ps, good N p) (hx : 0 ≤ x ∧ x < N) {w : List Int} (k : Wk ps x w) : ∀ y ∈ w, 0 ≤ y ∧ y < N := by
  intro y hy
  obtain ⟨i, hi, rfl⟩ := List.mem_iff_getElem.mp hy
  cases i with
  | zero =>
    have := k.hd
    rw [List.getD_eq_getElem?_getD, List.getElem?_eq_getElem hi] at this
    simp at this
    rw [this]; exact hx
  | succ i =>
    have := k.st i hi
    rw [List.getD_eq_getElem?_getD, List.getD_eq_getElem?_getD, List.getElem?_eq_getElem hi] at this
    exact (hg _ this).2.1
theorem wk_len (hg : ∀ p ∈ ps, good N p) (hx : 0 ≤ x ∧ x < N) {w : List Int} (k : Wk ps x w) : w.length ≤ N := by
  have := k.nd.length_le_of_subset (l₂ := hands N) fun y hy => mem_hands.mpr (wk_hands hg hx k y hy)
  rwa [hands_len] at this
theorem longs_len (nd : ps.Nodup) (hg : ∀ p ∈ ps, good N p) (hx : 0 ≤ x ∧ x < N) {w : List Int} (k : Wk ps x w) : w.length + (longs ps w).length ≤ N := by
  have h1 : (w ++ longs ps w).Nodup := by
    rw [List.nodup_append]
    exact ⟨k.nd, (longs_lt nd w).imp (fun z => Int.ne_of_lt z), fun a ha b hb e => (mem_longs.mp hb).2 (e ▸ ha)⟩
  have := h1.length_le_of_subset (l₂ := hands N) fun y hy => mem_hands.mpr (by
    rcases List.mem_append.mp hy with z | z
    · exact wk_hands hg hx k y z
    · exact (hg _ (mem_longs.mp z).1).2.1)
  rwa [hands_len, List.length_append] at this
theorem wts_lng (nd : ps.Nodup) (hg : ∀ p ∈ ps, good N p) (hx : 0 ≤ x ∧ x < N) {w : List Int} (k : Wk ps x w) : wts N (lng ps w) + 1 ≤ wt (N - w.length) := by
  have h := longs_len nd hg hx k
  have e : wts N (lng ps w) = (longs ps w).length * wt (N - (w.length + 1)) := by
    unfold wts lng
    rw [List.map_map]
    generalize longs ps w = l
    induction l with
    | nil => simp
    | cons t r ih => simp [List.map_cons, Nat.succ_mul] at ih ⊢; omega
  rw [e]
  rcases Nat.eq_zero_or_pos (longs ps w).length with z | z
  · rw [z]; have := wt_pos (N - w.length); omega
  · obtain ⟨r, hr⟩ : ∃ r, N - w.length = r + 1 := ⟨N - w.length - 1, by omega⟩
    rw [hr, show N - (w.length + 1) = r by omega]
    show _ ≤ 1 + (r + 1) * wt r
    have : (longs ps w).length * wt r ≤ (r + 1) * wt r := Nat.mul_le_mul_right _ (by omega)
    omega
end
section
variable {A : PHp} {w r q : Nat} {N : Nat} {ps : List (Int × Int)} {x : Int} {ld : List Int}
noncomputable def isL (ld : List Int) (c : List Int) : Bool := decide (lastI c ∈ ld)
structure FS (A B : PHp) (ps : List (Int × Int)) (x : Int) (ld : List Int) (N : Nat) (H : List (List Int)) (p m : Nat) : Prop where
  pre : A <+: B
  aw : AW ps x H p
  wk : ∀ c ∈ H, Wk ps x c
  sk : B[A.length]? = some (.lst (((H.take p).filter (isL ld)).map tupI))
  sq : B[A.length + 1]? = some (.lst ((H.drop p).map tupI))
  mm : wts N (H.drop p) = m
  sum : p + m ≤ 326
theorem take_s {H : List (List Int)} {p : Nat} (h : p < H.length) : H.take (p + 1) = H.take p ++ [H[p]] := by rw [List.take_succ, List.getElem?_eq_getElem h]; rfl
theorem chains_ok (Wb : WebAt A w r N ps) (P : Passings N ps) (hx : 0 ≤ x ∧ x < N) (hq : A[q]? = some (.lst (ld.map .int))) :
    Wp (f_chains_from [.ref w, .ref q, .int x]) A (fun v A' => A <+: A' ∧ ∃ (k : Nat) (H : List (List Int)), v = .ref k ∧ AW ps x H H.length ∧ H.length ≤ 400 ∧ A'[k]? = some (.lst ((H.filter (isL ld)).map tupI))) NoX := by
  have hN : N ≤ 6 := by have := P.hi; omega
  have hwt : wt (N - 1) ≤ 326 := by
    have : N = 0 ∨ N = 1 ∨ N = 2 ∨ N = 3 ∨ N = 4 ∨ N = 5 ∨ N = 6 := by omega
    rcases this with h | h | h | h | h | h | h <;> subst h <;> decide
  unfold f_chains_from
  walk_at "fn"
  walk_at "go"
  have F0 : FS A (A ++ [PO.lst []] ++ [PO.lst [PV.tup [PV.int x]]]) ps x ld N [[x]] 0 (wt (N - 1)) := by
    refine ⟨pre_app (pre_app (List.prefix_refl _)), AW.start, fun c hc => ?_, by simp, by simp [tupI], by simp [wts], by omega⟩
    rw [List.mem_singleton] at hc
    subst hc
    exact ⟨by simp, rfl, by simp, fun i hi => absurd hi (by simp)⟩
  have L : Wp (f_chains_from_l1 [some (PV.ref w), some (PV.ref q), some (PV.int x), some (PV.ref (List.length A)), some (PV.ref (List.length (A ++ [PO.lst []]))), none]) (A ++ [PO.lst []] ++ [PO.lst [PV.tup [PV.int x]]])
      (fun o B => ∃ H z, o = .nx [some (PV.ref w), some (PV.ref q), some (PV.int x), some (PV.ref (List.length A)), some (PV.ref (List.length A + 1)), z] ∧ FS A B ps x ld N H H.length 0) NoX := by
    unfold f_chains_from_l1
    refine w_while (fun m σ B => ∃ H p z, σ = [some (PV.ref w), some (PV.ref q), some (PV.int x), some (PV.ref (List.length A)), some (PV.ref (List.length A + 1)), z] ∧ FS A B ps x ld N H p m) (m := wt (N - 1)) (by omega) ⟨[[x]], 0, none, by simp, F0⟩ ?_
    rintro m σ B ⟨H, p, z, rfl, F⟩
    refine w_eq (ne_nilT (q := A.length + 1) (ws := H.drop p) rfl F.sq) ⟨fun hb => ?_, fun hb => ?_⟩
    · have hp : p < H.length := by
        rcases Nat.lt_or_ge p H.length with h | h
        · exact h
        · rw [List.drop_eq_nil_of_le h] at hb; simp at hb
      have hdr : H.drop p = H[p] :: H.drop (p + 1) := by rw [List.drop_eq_getElem_cons hp]
      have kW := F.wk H[p] (List.getElem_mem hp)
      have hWN := wk_len P.good hx kW
      generalize hW : H[p] = W at *
      have sq1 : (B ++ [PO.lst []])[A.length + 1]? = some (.lst (tupI W :: (H.drop (p + 1)).map tupI)) := by
        have := get_app_of (o := PO.lst []) F.sq
        rw [hdr] at this; exact this
      have sk1 := get_app_of (o := PO.lst []) F.sk
      have pre1 : A <+: B ++ [PO.lst []] := pre_app F.pre
      generalize B ++ [PO.lst []] = B1 at sq1 sk1 pre1
      have nkq : A.length ≠ A.length + 1 := by omega
      unfold f_chains_from_b1
      refine w_seq (w_asg (w_eq (pop0_ok rfl sq1) (w_gname ?_)))
      have sq2 : (B1.set (A.length + 1) (.lst ((H.drop (p + 1)).map tupI)))[A.length + 1]? = some (.lst ((H.drop (p + 1)).map tupI)) := get_set sq1
      have sk2 : (B1.set (A.length + 1) (.lst ((H.drop (p + 1)).map tupI)))[A.length]? = some (.lst (((H.take p).filter (isL ld)).map tupI)) := by rw [get_set_ne nkq]; exact sk1
      have pre2 : A <+: B1.set (A.length + 1) (.lst ((H.drop (p + 1)).map tupI)) := pre_set pre1 (by omega)
      generalize B1.set (A.length + 1) (PO.lst ((H.drop (p + 1)).map tupI)) = B2 at sq2 sk2 pre2
      have hfl : ((H.take p).filter (isL ld)).length ≤ 326 := by
        have := List.length_filter_le (isL ld) (H.take p)
        rw [List.length_take] at this
        have := F.sum
        omega
      refine w_seq (w_mono (Q := fun o D => o = .nx [some (PV.ref w), some (PV.ref q), some (PV.int x), some (PV.ref (List.length A)), some (PV.ref (List.length A + 1)), some (tupI W)] ∧ A <+: D ∧ D[A.length]? = some (.lst (((H.take (p + 1)).filter (isL ld)).map tupI)) ∧ D[A.length + 1]? = some (.lst ((H.drop (p + 1)).map tupI))) ?_ fun o D ⟨ho, hD1, hD2, hD3⟩ => ?_)
      · have hin : tVal (eBin oIn (eBin oIx (eVar 5) (eK (.int (-1)))) (eVar 1)) [some (PV.ref w), some (PV.ref q), some (PV.int x), some (PV.ref (List.length A)), some (PV.ref (List.length A + 1)), some (tupI W)] B2 = .ok (isL ld W) B2 := tval_ok (in_ok (ixT_ok (w := W) rfl rfl (at_last kW.ne)) rfl (pre_get pre2 hq))
        refine w_if (w_eq hin ⟨fun h => ?_, fun h => ?_⟩)
        · walk_at "go"
          refine ⟨rfl, pre_set pre2 (Nat.le_refl _), ?_, by rw [get_set_ne nkq.symm]; exact sq2⟩
          rw [get_set sk2, take_s hp, hW, List.filter_append, List.filter_cons, h]
          simp
        · refine w_pass ⟨rfl, pre2, ?_, sq2⟩
          rw [sk2, take_s hp, hW, List.filter_append, List.filter_cons, h]
          simp
      subst ho
      obtain ⟨D', e, hD4, hD5⟩ := longer_ok (Wb.mono hD1) P kW.ne (by omega)
      have hD6 := pre_get hD4 hD3
      have hD7 := pre_get hD4 hD2
      have hll := wts_len N (H.drop (p + 1))
      have hl2 := longs_len P.nd P.good hx kW
      have hmm := F.mm
      rw [hdr] at hmm
      have hmm2 : wts N (H.drop (p + 1)) + wt (N - W.length) = m := by
        rw [← hmm]; simp [wts]; omega
      have hlg := wts_lng P.nd P.good hx kW
      have hsum := F.sum
      have hext : sExpr (eExtend (eVar 4) (eCall f_longer_walks (aCons (eVar 0) (aCons (eVar 5) aNil)))) [some (PV.ref w), some (PV.ref q), some (PV.int x), some (PV.ref (List.length A)), some (PV.ref (List.length A + 1)), some (tupI W)] D = .ok (.nx [some (PV.ref w), some (PV.ref q), some (PV.int x), some (PV.ref (List.length A)), some (PV.ref (List.length A + 1)), some (tupI W)]) (D'.set (A.length + 1) (.lst ((H.drop (p + 1)).map tupI ++ (lng ps W).map tupI))) := by
        have hlim : ((H.drop (p + 1)).map tupI).length + ((lng ps W).map tupI).length ≤ LIM := lim_le (by unfold lng; simp only [List.length_map]; omega)
        have hlim2 : (H.length - (p + 1)) + (longs ps W).length ≤ LIM := by simpa [lng] using hlim
        simp [hD3, e, hD6, hD5, lng, hlim2, List.map_map]
      refine w_eq hext ?_
      have aw' := F.aw.next P.nd hp
      rw [hW] at aw'
      have hdrop : (H ++ lng ps W).drop (p + 1) = H.drop (p + 1) ++ lng ps W := List.drop_append_of_le_length (by omega)
      have htake : (H ++ lng ps W).take (p + 1) = H.take (p + 1) := List.take_append_of_le_length (by omega)
      refine ⟨wts N (H.drop (p + 1)) + wts N (lng ps W), by omega, H ++ lng ps W, p + 1, _, rfl, pre_set (hD1.trans hD4) (by omega), aw', fun c hc => ?_, ?_, ?_, ?_, by omega⟩
      · rcases List.mem_append.mp hc with hc | hc
        · exact F.wk c hc
        · obtain ⟨t, ht, rfl⟩ := List.mem_map.mp hc
          exact kW.app ht
      · rw [get_set_ne nkq, htake]; exact hD7
      · rw [get_set hD6, hdrop, List.map_append]
      · rw [hdrop, wts_app]
    · have hp : p = H.length := by
        have : H.drop p = [] := by
          cases h : H.drop p with
          | nil => rfl
          | cons a b => rw [h] at hb; simp at hb
        have h1 := List.drop_eq_nil_iff.mp this
        have := F.aw.ple
        omega
      subst hp
      have hm : m = 0 := by have := F.mm; rw [List.drop_length] at this; simpa [wts] using this.symm
      subst hm
      exact ⟨H, z, rfl, pre_app F.pre, F.aw, F.wk, get_app_of F.sk, get_app_of F.sq, F.mm, F.sum⟩
  refine w_mono L fun o B ⟨H, z, ho, F⟩ => ?_
  subst ho
  walk_at "go"
  have hs := F.sum
  have hk := F.sk
  rw [List.take_length] at hk
  exact ⟨F.pre, _, H, rfl, F.aw, by omega, hk⟩
end
end Ws
namespace Ws
noncomputable def rst (w d q : Nat) (h : Int) (u : PV) (x5 x6 : Option PV) : PSt := [some (.ref w), some (.int h), some u, some (.ref d), some (.ref q), x5, x6]
structure RS (A B : PHp) (d q : Nat) (M U : List Int) : Prop where
  pre : A <+: B
  ad : A.length ≤ d
  aq : A.length ≤ q
  ne : d ≠ q
  sd : B[d]? = some (.dI (marks M))
  sq : B[q]? = some (.lst (U.map .int))
theorem RS.app {A B : PHp} {d q : Nat} {M U : List Int} (R : RS A B d q M U) (o : PO) : RS A (B ++ [o]) d q M U := ⟨pre_app R.pre, R.ad, R.aq, R.ne, get_app_of R.sd, get_app_of R.sq⟩
theorem RS.setq {A B : PHp} {d q : Nat} {M U : List Int} (R : RS A B d q M U) (V : List Int) : RS A (B.set q (.lst (V.map .int))) d q M V := ⟨pre_set R.pre R.aq, R.ad, R.aq, R.ne, by rw [get_set_ne R.ne]; exact R.sd, get_set R.sq⟩
theorem RS.setd {A B : PHp} {d q : Nat} {M U : List Int} (R : RS A B d q M U) (V : List Int) : RS A (B.set d (.dI (marks V))) d q V U := ⟨pre_set R.pre R.ad, R.ad, R.aq, R.ne, get_set R.sd, by rw [get_set_ne R.ne.symm]; exact R.sq⟩
section
variable {A : PHp} {w r d q : Nat} {N : Nat} {ps : List (Int × Int)} {h : Int} {u : PV}
open Classical in
theorem reach_b2 (hu : plain u = true) {B : PHp} {M U : List Int} {a b : Int} (S : RS A B d q M U) (hM : M.length ≤ 6) (hU : U.length < 1000) :
    f_Web_reach_b2 (rst w d q h u (some (.int a)) (some (.int b))) B = if PV.int b ≠ u ∧ b ∉ M then R.ok (Fl.nx (rst w d q h u (some (.int a)) (some (.int b)))) ((B.set d (.dI (marks (M ++ [b])))).set q (.lst ((U ++ [b]).map .int))) else R.ok (Fl.nx (rst w d q h u (some (.int a)) (some (.int b)))) B := by
  have t1 : tVal (eBin oNe (eVar 6) (eVar 2)) (rst w d q h u (some (.int a)) (some (.int b))) B = .ok (!eqv (.int b) u) B := tval_ok (bin_ok rfl rfl (ne_ok rfl hu))
  have t2 : tVal (eDNotIn (eVar 6) (eVar 3)) (rst w d q h u (some (.int a)) (some (.int b))) B = .ok (!decide (b ∈ M)) B := by
    rw [← valI_marks]; exact tval_ok (dnotin_ok rfl rfl S.sd)
  have ee := eqv_iff (.int b) u rfl
  have t : tAnd (tVal (eBin oNe (eVar 6) (eVar 2))) (tVal (eDNotIn (eVar 6) (eVar 3))) (rst w d q h u (some (.int a)) (some (.int b))) B = .ok (!eqv (.int b) u && !decide (b ∈ M)) B :=
    tand_ok t1 (fun e => by rw [e]; exact t2) (fun e => by rw [e]; exact ⟨rfl, rfl⟩)
  unfold f_Web_reach_b2
  by_cases c : PV.int b ≠ u ∧ b ∉ M
  · rw [if_pos c]
    have e1 : eqv (.int b) u = false := by
      cases z : eqv (.int b) u with
      | false => rfl
      | true => exact absurd (ee.mp z) c.1
    rw [if_t (A' := B) (by rw [t, e1]; simp [c.2])]
    have p := dput_ok (d := eVar 3) (y := eVar 6) (e := eK (.bl true)) (σ := rst w d q h u (some (.int a)) (some (.int b))) (A := B) (k := b) (n := d) (v := .bl true) rfl rfl rfl S.sd (lim_lt (by rw [marks_len]; omega))
    rw [putI_marks c.2] at p
    rw [seq_nx p]
    have ap := append_ok (e := eVar 4) (v := eVar 6) (σ := rst w d q h u (some (.int a)) (some (.int b))) (f := q) (u := .int b) rfl (S.setd (M ++ [b])).sq rfl (lim_lt (by rw [List.length_map]; omega))
    rw [expr_ok ap]; simp
  · rw [if_neg c]
    rw [if_f (A' := B) (by
      rw [t]
      by_cases c1 : PV.int b = u
      · rw [ee.mpr c1]; rfl
      · have : b ∈ M := by
          by_cases z : b ∈ M
          · exact z
          · exact absurd ⟨c1, z⟩ c
        simp [this])]
    rfl
theorem reach_b1 (W : WebAt A w r N ps) (P : Passings N ps) (hh : 0 ≤ h ∧ h < N) (hu : plain u = true) {B : PHp} {M U : List Int} {a : Int} {x5 x6 : Option PV} (R : RS A B d q M (U ++ [a])) (m : Met ps u h M) (hs : ∀ x ∈ U ++ [a], x ∈ M)
    (hUl0 : U.length ≤ 500) (hc : ∀ x b, x ∈ M → x ∉ U ++ [a] → (x, b) ∈ ps → PV.int b ≠ u → b ∈ M) :
    ∃ B' M' U' y5 y6, f_Web_reach_b1 (rst w d q h u x5 x6) B = .ok (.nx (rst w d q h u y5 y6)) B' ∧ RS A B' d q M' U' ∧ Met ps u h M' ∧ (∀ x ∈ U', x ∈ M') ∧ (∀ x b, x ∈ M' → x ∉ U' → (x, b) ∈ ps → PV.int b ≠ u → b ∈ M') ∧ 2 * (6 - M'.length) + U'.length ≤ 2 * (6 - M.length) + U.length := by
  have hN : N ≤ 6 := by have := P.hi; omega
  have hM6 : M.length ≤ 6 := Nat.le_trans (m.len P.good hh) hN
  have R' : RS A (B.set q (.lst (U.map .int))) d q M U := R.setq U
  generalize hB1 : B.set q (.lst (U.map .int)) = B1 at R'
  have e1 : sAsg (ePop (eVar 4)) (gName 5) (rst w d q h u x5 x6) B = .ok (.nx (rst w d q h u (some (.int a)) x6)) B1 := by
    refine asg_ok (v := .int a) (A' := B1) ?_ rfl
    rw [← hB1]
    exact pop_ok (l := U.map .int) rfl (by have := R.sq; simpa using this)
  unfold f_Web_reach_b1
  rw [seq_nx e1]
  have W1 := W.mono R'.pre
  have g1 := meth_ok (c := 0) (f := f_Web_takers_of) (a := eVar 0) (es := aCons (eVar 5) aNil) (σ := rst w d q h u (some (.int a)) x6) (A := B1) (A1 := B1) (A2 := B1) (n := w) rfl W1.ob (args1_ok rfl) (takers_of_ok W1 P.len (h := a))
  have L : Comes (f_Web_reach_l2 (rst w d q h u (some (.int a)) x6) B1) (fun σ B' => ∃ M' U' y6, σ = rst w d q h u (some (.int a)) y6 ∧ RS A B' d q M' U' ∧ Met ps u h M' ∧ (∀ x ∈ U', x ∈ M') ∧ (∀ x b, x ∈ M' → x ∉ U' → (x, b) ∈ ps → PV.int b ≠ u → b ∈ M') ∧ 2 * (6 - M'.length) + U'.length ≤ 2 * (6 - M.length) + U.length) (fun _ _ => False) := by
    unfold f_Web_reach_l2
    refine for_lst' (a := B1.length) (l := (takers (srt ps) a).map .int) (A1 := B1 ++ [.lst ((takers (srt ps) a).map .int)]) (iseq_ok g1 lstAt_last)
      (fun i σ B' => ∃ M' U' y6, σ = rst w d q h u (some (.int a)) y6 ∧ RS A B' d q M' U' ∧ B'[B1.length]? = some (.lst ((takers (srt ps) a).map .int)) ∧ Met ps u h M' ∧ (∀ x ∈ U', x ∈ M') ∧ (∀ x ∈ M, x ∈ M') ∧ (∀ x b, x ∈ M' → x ∉ U' → x ≠ a → (x, b) ∈ ps → PV.int b ≠ u → b ∈ M') ∧ (∀ b ∈ (takers (srt ps) a).take i, PV.int b ≠ u → b ∈ M') ∧ 2 * (6 - M'.length) + U'.length ≤ 2 * (6 - M.length) + U.length ∧ U'.length ≤ U.length + i)
      ⟨M, U, x6, rfl, R'.app _, get_app, m, fun x hx => hs x (List.mem_append_left _ hx), fun x hx => hx, fun x b hx hnu hna hp hb => hc x b hx (by simp [hnu, hna]) hp hb, by simp, Nat.le_refl _, Nat.le_refl _⟩ ?_ ?_ ?_
    · rintro i σ B' ⟨M', U', y6, rfl, _, hl, _⟩
      exact lstAt_lst hl
    · rintro i v σ B' hv ⟨M', U', y6, rfl, R2, hl, m2, hs2, hM2, hc2, ht2, hn2, hn3⟩
      obtain ⟨b, hb1, rfl⟩ : ∃ b, (takers (srt ps) a)[i]? = some b ∧ v = .int b := by
        rw [List.getElem?_map] at hv
        cases e : (takers (srt ps) a)[i]? with
        | none => rw [e] at hv; cases hv
        | some b => rw [e] at hv; exact ⟨b, rfl, (Option.some.inj hv).symm⟩
      have hbm : (a, b) ∈ ps := mem_takers.mp (List.mem_of_getElem? hb1)
      have hi : i < (takers (srt ps) a).length := (List.getElem?_eq_some_iff.mp hb1).1
      have htl : (takers (srt ps) a).length < 64 := by have := takers_len (srt ps) a; rw [(srt_perm ps).length_eq] at this; have := P.len; omega
      have hM26 : M'.length ≤ 6 := Nat.le_trans (m2.len P.good hh) hN
      have hUl := hUl0
      have ht : ∀ M3 : List Int, (∀ x ∈ M', x ∈ M3) → (PV.int b ≠ u → b ∈ M3) → ∀ c ∈ (takers (srt ps) a).take (i + 1), PV.int c ≠ u → c ∈ M3 := by
        intro M3 h1 h2 c hcm hcu
        rw [List.take_succ, hb1] at hcm
        rcases List.mem_append.mp hcm with z | z
        · exact h1 c (ht2 c z hcu)
        · simp at z; subst z; exact h2 hcu
      have eb := reach_b2 (w := w) (h := h) (a := a) (b := b) hu R2 hM26 (by omega)
      have e' : bnd (gName 6 (PV.int b) (rst w d q h u (some (.int a)) y6)) f_Web_reach_b2 B' = f_Web_reach_b2 (rst w d q h u (some (.int a)) (some (.int b))) B' := rfl
      rw [e']
      by_cases c : PV.int b ≠ u ∧ b ∉ M'
      · rw [if_pos c] at eb
        have m3 : Met ps u h (M' ++ [b]) := m2.put (hM2 a (hs a (by simp))) hbm c.1 c.2
        have hl3 : M'.length + 1 ≤ 6 := by have := Nat.le_trans (m3.len P.good hh) hN; simpa using this
        have R3 := (R2.setd (M' ++ [b])).setq (U' ++ [b])
        have nd : B1.length ≠ d := by
          rintro rfl; rw [R2.sd] at hl; cases hl
        have nq : B1.length ≠ q := by
          rintro e; have := pre_lt R'.sq; omega
        refine Turns.nx eb ⟨M' ++ [b], U' ++ [b], _, rfl, R3, ?_, m3, ?_, fun x hx => List.mem_append_left _ (hM2 x hx), ?_, ht _ (fun x hx => List.mem_append_left _ hx) (fun _ => by simp), ?_, by simp; omega⟩
        · rw [get_set_ne nq, get_set_ne nd]; exact hl
        · intro x hx
          rcases List.mem_append.mp hx with z | z
          · exact List.mem_append_left _ (hs2 x z)
          · exact List.mem_append_right _ z
        · intro x c' hx hnu hna hp hc'
          rcases List.mem_append.mp hx with z | z
          · exact List.mem_append_left _ (hc2 x c' z (fun y => hnu (List.mem_append_left _ y)) hna hp hc')
          · exact absurd (List.mem_append_right _ z) hnu
        · simp; omega
      · rw [if_neg c] at eb
        refine Turns.nx eb ⟨M', U', _, rfl, R2, hl, m2, hs2, hM2, hc2, ht _ (fun x hx => hx) (fun z => ?_), hn2, by omega⟩
        by_cases y : b ∈ M'
        · exact y
        · exact absurd ⟨z, y⟩ c
    · rintro σ B' ⟨M', U', y6, rfl, R2, hl, m2, hs2, hM2, hc2, ht2, hn2, hn3⟩
      refine ⟨M', U', y6, rfl, R2, m2, hs2, fun x b hx hnu hp hb => ?_, hn2⟩
      by_cases e : x = a
      · subst e
        refine ht2 b ?_ hb
        rw [List.length_map, List.take_length]; exact mem_takers.mpr hp
      · exact hc2 x b hx hnu e hp hb
  obtain ⟨σ, B', e, M', U', y6, rfl, h1, h2, h3, h4, h5⟩ := L.end
  exact ⟨B', M', U', _, _, e, h1, h2, h3, h4, h5⟩
theorem reach_l1 (W : WebAt A w r N ps) (P : Passings N ps) (hh : 0 ≤ h ∧ h < N) (hu : plain u = true) {B : PHp} {x5 x6 : Option PV} (S : RS A B d q [h] [h]) :
    ∃ B' M y5 y6, f_Web_reach_l1 (rst w d q h u x5 x6) B = .ok (.nx (rst w d q h u y5 y6)) B' ∧ RS A B' d q M [] ∧ Met ps u h M ∧ (∀ x b, x ∈ M → (x, b) ∈ ps → PV.int b ≠ u → b ∈ M) := by
  have hN : N ≤ 6 := by have := P.hi; omega
  have L : Comes (f_Web_reach_l1 (rst w d q h u x5 x6) B) (fun σ B' => ∃ M y5 y6, σ = rst w d q h u y5 y6 ∧ RS A B' d q M [] ∧ Met ps u h M ∧ (∀ x b, x ∈ M → (x, b) ∈ ps → PV.int b ≠ u → b ∈ M)) (fun _ _ => False) := by
    unfold f_Web_reach_l1
    refine while_ok (fun m σ B' => ∃ M U y5 y6, σ = rst w d q h u y5 y6 ∧ RS A B' d q M U ∧ Met ps u h M ∧ (∀ x ∈ U, x ∈ M) ∧ (∀ x b, x ∈ M → x ∉ U → (x, b) ∈ ps → PV.int b ≠ u → b ∈ M) ∧ 2 * (6 - M.length) + U.length = m ∧ m ≤ 100) (m := 11) (by decide)
      ⟨[h], [h], x5, x6, rfl, S, ⟨by simp, fun x hx => by simp at hx; subst hx; exact .here, by simp⟩, fun x hx => hx, fun x b hx hn => absurd hx hn, rfl, by decide⟩ ?_
    rintro m σ B' ⟨M, U, y5, y6, rfl, S1, m1, hs, hc, hm, hm1⟩
    have ht := ne_nil_ok (e := eVar 4) (σ := rst w d q h u y5 y6) (A := B') rfl S1.sq
    rcases List.eq_nil_or_concat U with rfl | ⟨V, a, rfl⟩
    · left
      exact ⟨_, ht, M, y5, y6, rfl, S1.app _, m1, fun x b hx => hc x b hx (by simp)⟩
    · right
      rw [List.concat_eq_append] at *
      refine ⟨_, by rw [ht]; simp; rfl, ?_⟩
      obtain ⟨B2, M', U', z5, z6, e, S2, m2, hs2, hc2, hn⟩ := reach_b1 W P hh hu (x5 := y5) (x6 := y6) (S1.app (.lst [])) m1 hs (by simp at hm; omega) hc
      refine Turns.nx e ⟨2 * (6 - M'.length) + U'.length, ?_, M', U', z5, z6, rfl, S2, m2, hs2, hc2, rfl, ?_⟩
      · simp at hm; omega
      · simp at hm; omega
  obtain ⟨σ, B', e, M, y5, y6, rfl, h1, h2, h3⟩ := L.end
  exact ⟨B', M, y5, y6, e, h1, h2, h3⟩
theorem reach_ok (W : WebAt A w r N ps) (P : Passings N ps) (hh : 0 ≤ h ∧ h < N) (hu : plain u = true) :
    ∃ A' p, f_Web_reach [.ref w, .int h, u] A = .ok (.ref p) A' ∧ A <+: A' ∧ A'[p]? = some (.lst ((reachL N ps u h).map .int)) ∧ A.length ≤ p := by
  have hN : N ≤ 6 := by have := P.hi; omega
  have S : RS A (A ++ [.dI (marks [h])] ++ [.lst ([h].map .int)]) A.length (A.length + 1) [h] [h] := by
    refine ⟨pre_app (pre_app (List.prefix_refl _)), Nat.le_refl _, by omega, by omega, get_app_of get_app, ?_⟩
    have := get_app (A := A ++ [.dI (marks [h])]) (o := .lst ([h].map .int))
    rwa [List.length_append] at this
  obtain ⟨B', M, y5, y6, e, S1, m1, hc⟩ := reach_l1 (x5 := none) (x6 := none) W P hh hu S
  have hl := m1.len P.good hh
  refine ⟨B' ++ [.lst ((reachL N ps u h).map .int)], B'.length, ?_, pre_app S1.pre, get_app, pre_len S1.pre⟩
  unfold f_Web_reach
  refine fn_rt rfl ?_
  have e1 : sAsg (eDisp1 (eVar 1) (eK (.bl true))) (gName 3) (start 7 [.ref w, .int h, u]) A = .ok (.nx [some (.ref w), some (.int h), some u, some (.ref A.length), none, none, none]) (A ++ [.dI (marks [h])]) := by
    refine asg_ok (v := .ref A.length) (A' := A ++ [.dI (marks [h])]) ?_ rfl
    simp [marks]
  rw [seq_nx e1]
  have e2 : sAsg (eLst (aCons (eVar 1) aNil)) (gName 4) [some (.ref w), some (.int h), some u, some (.ref A.length), none, none, none] (A ++ [.dI (marks [h])]) = .ok (.nx (rst w A.length (A.length + 1) h u none none)) (A ++ [.dI (marks [h])] ++ [.lst ([h].map .int)]) := by
    refine asg_ok (v := .ref (A.length + 1)) (A' := A ++ [.dI (marks [h])] ++ [.lst ([h].map .int)]) ?_ rfl
    simp
  rw [seq_nx e2, seq_nx e]
  have e3 := sortedD_ok (e := eVar 3) (σ := rst w A.length (A.length + 1) h u y5 y6) (A := B') rfl S1.sd (by rw [marks_len]; omega)
  rw [marks_keys, m1.sort P.good hh hc] at e3
  exact ret_ok e3
end
end Ws
namespace Ws
theorem pIn_u {u : PV} {c : List Int} : pIn u (c.map PV.int) = true ↔ ∃ y ∈ c, PV.int y = u := by
  unfold pIn
  rw [List.any_eq_true]
  constructor
  · rintro ⟨v, hv, e⟩
    obtain ⟨y, hy, rfl⟩ := List.mem_map.mp hv
    exact ⟨y, hy, (eqv_iff _ _ rfl).mp e⟩
  · rintro ⟨y, hy, e⟩
    exact ⟨.int y, List.mem_map.mpr ⟨y, hy, rfl⟩, (eqv_iff _ _ rfl).mpr e⟩
noncomputable def goodC (j : Int) (u : PV) (c : List Int) : Bool := decide (lastI c = j) && !pIn u (c.map PV.int)
noncomputable def ovT : Option (List Int) → PV
  | none => .non
  | some w => tupI w
theorem plain_ovT (o : Option (List Int)) : plain (ovT o) = true := by
  cases o with
  | none => rfl
  | some w => exact plain_tupI w
section
variable {A : PHp} {k : Nat} {C : List (List Int)} {j : Int} {u : PV}
theorem first_ok (hu : plain u = true) (hk : A[k]? = some (.lst (C.map tupI))) (hp : ∀ c ∈ C, 0 < c.length) :
    Wp (f_law_first [.ref k, .int j, u]) A (fun v A' => A' = A ∧ v = ovT (C.find? (goodC j u))) NoX := by
  unfold f_law_first
  walk_at "fn"
  have L : Wp (f_law_first_l1 [some (.ref k), some (.int j), some u, none]) A (fun o A' => A' = A ∧ ((o = .rt (ovT (C.find? (goodC j u)))) ∨ (∃ σ, o = .nx σ) ∧ C.find? (goodC j u) = none)) NoX := by
    unfold f_law_first_l1
    refine w_forL (fun i σ B => B = A ∧ (∃ z, σ = [some (.ref k), some (.int j), some u, z]) ∧ C.find? (goodC j u) = (C.drop i).find? (goodC j u)) ?_
    walk_at "go"
    refine ⟨_, C.map tupI, rfl, ⟨rfl, ⟨_, rfl⟩, by simp⟩, ?_, ?_, ?_⟩
    · rintro i σ B ⟨rfl, _⟩
      exact lstAt_lst hk
    · rintro i v σ B hv ⟨rfl, ⟨z, rfl⟩, hf⟩
      rw [List.getElem?_map] at hv
      rcases hc : C[i]? with _ | c
      · rw [hc] at hv; cases hv
      rw [hc] at hv
      obtain rfl : tupI c = v := Option.some.inj hv
      have hi := (List.getElem?_eq_some_iff.mp hc)
      have hd : C.drop i = c :: C.drop (i + 1) := by rw [List.drop_eq_getElem_cons hi.1, hi.2]
      have hpos := hp c (List.mem_of_getElem? hc)
      rw [hd, List.find?_cons] at hf
      have hl := at_last hpos
      walk_at "go"
      unfold f_law_first_b1
      have e1 : tVal (eBin oEq (eBin oIx (eVar 3) (eK (.int (-1)))) (eVar 1)) [some (.ref k), some (.int j), some u, some (tupI c)] B = .ok (decide (lastI c = j)) B := by
        refine tval_ok (bin_ok (ixT_ok (w := c) rfl rfl hl) rfl (eq_ok rfl rfl |>.trans ?_))
        simp [eqv]
      have e2 : tVal (eBin oNotIn (eVar 2) (eVar 3)) [some (.ref k), some (.int j), some u, some (tupI c)] B = .ok (!pIn u (c.map PV.int)) B := by
        have hpl : plains (c.map PV.int) = true := plains_ints c
        simp [tupI, hu, hpl]
      refine w_if (w_tand (w_eq e1 ⟨fun h1 => w_eq e2 ⟨fun h2 => ?_, fun h2 => ?_⟩, fun h1 => ⟨fun z => (nomatch z), fun _ => ?_⟩⟩))
      · have hg : goodC j u c = true := by unfold goodC; rw [h1, h2]; rfl
        rw [hg] at hf
        walk_at "go"
        exact ⟨rfl, .inl (by rw [hf]; rfl)⟩
      · have hg : goodC j u c = false := by unfold goodC; rw [h1, h2]; rfl
        rw [hg] at hf
        exact w_pass ⟨rfl, ⟨_, rfl⟩, hf⟩
      · have hg : goodC j u c = false := by unfold goodC; rw [h1]; rfl
        rw [hg] at hf
        exact w_pass ⟨rfl, ⟨_, rfl⟩, hf⟩
    · rintro σ B ⟨rfl, ⟨z, rfl⟩, hf⟩
      rw [List.length_map, List.drop_length] at hf
      exact ⟨rfl, .inr ⟨⟨_, rfl⟩, by rw [hf]; rfl⟩⟩
  walk_at "go"
  refine w_mono L fun o A1 ⟨e, h⟩ => ?_
  subst e
  rcases h with rfl | ⟨⟨σ, rfl⟩, h⟩
  · exact ⟨rfl, rfl⟩
  · walk_at "go"
    rw [h]
    exact ⟨rfl, rfl⟩
end
section
variable {ps : List (Int × Int)} {u : PV} {x j : Int} {nm : List (Int × Int)} {N : Nat} {H : List (List Int)} {ld : List Int}
theorem way_ne (hx : PV.int x ≠ u) {b : Int} (h : Way ps u x b) : PV.int b ≠ u := by
  cases h with
  | here => exact hx
  | step _ _ h => exact h
theorem way_near (M : NF ps u j nm) (hx : PV.int x ≠ u) {b : Int} (h : Way ps u x b) : ∀ s, tval nm b = some s → ∃ v, tval nm x = some v := by
  induction h with
  | here => exact fun s h => ⟨s, h⟩
  | step hw hp hb ih =>
    intro s hs
    obtain ⟨v, h1, _⟩ := M.back _ _ s hp hs (way_ne hx hw)
    exact ih v h1
theorem way_walk {c : List Int} (w : Wk ps x c) (hu : ∀ i, i < c.length → PV.int (c.getD i 0) ≠ u) : ∀ i, i < c.length → Way ps u x (c.getD i 0)
  | 0, h => by rw [w.hd]; exact .here
  | i + 1, h => .step (way_walk w hu i (by omega)) (w.st i h) (hu (i + 1) h)
theorem free_of {c : List Int} (h : pIn u (c.map PV.int) = false) : ∀ i, i < c.length → PV.int (c.getD i 0) ≠ u := fun i hi e => by
  have : pIn u (c.map PV.int) = true := pIn_u.mpr ⟨c.getD i 0, by rw [List.getD_eq_getElem?_getD, List.getElem?_eq_getElem hi]; exact List.getElem_mem hi, e⟩
  rw [h] at this; cases this
theorem of_free {c : List Int} (h : ∀ i, i < c.length → PV.int (c.getD i 0) ≠ u) : pIn u (c.map PV.int) = false := by
  cases e : pIn u (c.map PV.int) with
  | false => rfl
  | true =>
    obtain ⟨y, hy, z⟩ := pIn_u.mp e
    obtain ⟨i, hi, rfl⟩ := List.mem_iff_getElem.mp hy
    have := h i hi
    rw [List.getD_eq_getElem?_getD, List.getElem?_eq_getElem hi] at this
    exact absurd z this
theorem due_first (Aw : AW ps x H H.length) (hx : PV.int x ≠ u) (hj : j ∈ ld) (M : NF ps u j nm) {W : List Int} (L : Least ps j x nm W) : (H.filter (isL ld)).find? (goodC j u) = some W ∧ Way ps u x j := by
  have hf := L.free M
  have hw := L.wk
  refine ⟨find_first (Aw.ord.filter _) ?_ ?_ fun c hc hg => ?_, ?_⟩
  · rw [List.mem_filter]
    exact ⟨Aw.all _ W (Nat.le_refl _) hw, decide_eq_true (by rw [L.last]; exact hj)⟩
  · unfold goodC; rw [L.last, of_free hf]; simp
  · have hc := (List.mem_filter.mp hc).1
    unfold goodC at hg
    rw [Bool.and_eq_true] at hg
    exact L.first_of M (Aw.sound _ c (Nat.le_refl _) hc) (of_decide_eq_true hg.1) (free_of (by simpa using hg.2))
  · have := way_walk hw hf (W.length - 1) (by have := L.ne; omega)
    rwa [← last_getD L.ne, L.last] at this
theorem due_none (Aw : AW ps x H H.length) (hx : PV.int x ≠ u) (M : NF ps u j nm) (hn : tval nm x = none) : (H.filter (isL ld)).find? (goodC j u) = none ∧ ¬ Way ps u x j := by
  constructor
  · rw [List.find?_eq_none]
    intro c hc hg
    have hc := (List.mem_filter.mp hc).1
    unfold goodC at hg
    rw [Bool.and_eq_true] at hg
    have w := Aw.sound _ c (Nat.le_refl _) hc
    obtain ⟨v, h1, _⟩ := M.path (of_decide_eq_true hg.1) (free_of (by simpa using hg.2)) w.st (c.length - 1) 0 (by have := w.ne; omega)
    rw [w.hd, hn] at h1; cases h1
  · intro h
    obtain ⟨v, h1⟩ := way_near M hx h 0 (M.zero (way_ne hx h))
    rw [hn] at h1; cases h1
end
end Ws
namespace Ws
theorem pre_last {A : PHp} (o : PO) : A <+: A ++ [o] := List.prefix_append _ _
theorem at_lastC {c : List Int} (h : c ≠ []) : atI (c.map PV.int) (-1) = some (.int (c.getLast h)) := by
  have hl : 0 < c.length := List.length_pos_iff.mpr h
  unfold atI ixN
  rw [if_neg (by omega), List.length_map, if_pos (by omega)]
  show (c.map PV.int)[((-1 : Int) + c.length).toNat]? = _
  rw [show ((-1 : Int) + c.length).toNat = c.length - 1 by omega, List.getElem?_map, ← List.getLast?_eq_getElem?, List.getLast?_eq_getLast h]; rfl
section
variable {A : PHp} {a q : Nat} {xs : List Int} {N : Nat} {ps : List (Int × Int)}
noncomputable def Chain (N : Nat) (ps : List (Int × Int)) (ld c : List Int) : Prop := (∃ h : c ≠ [], c.getLast h ∈ ld) ∧ c.Nodup ∧ (∀ x ∈ c, 0 ≤ x ∧ x < N) ∧ ∀ (i : Nat) a b, c[i]? = some a → c[i + 1]? = some b → (a, b) ∈ ps
theorem lt_cut {c : List Int} (h : c ≠ []) : ¬ (cutIx (c.map PV.int).length 0 (some 1) = 0 ∧ cutIx (c.map PV.int).length (c.map PV.int).length none = (c.map PV.int).length) := by
  have : 0 < c.length := List.length_pos_iff.mpr h
  unfold cutIx
  rw [List.length_map]
  intro z
  have := z.1
  simp at this
  omega
theorem cut_1 (c : List PV) : cut c (some 1) none = c.drop 1 := by
  have := cut_from c 1
  exact this
theorem all_map {α : Type} (f : α → Bool) (l : List α) : ((l.map f).all id = true) ↔ ∀ x ∈ l, f x = true := by simp
theorem zip_steps : ∀ (c : List Int), zipP (c.map PV.int) ((c.map PV.int).drop 1) = (c.zip (c.drop 1)).map pv
  | [] => rfl
  | [a] => rfl
  | a :: b :: r => by
    have ih := zip_steps (b :: r)
    simp only [List.map_cons, List.drop_succ_cons, List.drop_zero, zipP, List.zip_cons_cons, List.map_cons] at ih ⊢
    exact congrArg _ ih
theorem mem_steps {c : List Int} {a b : Int} : (a, b) ∈ c.zip (c.drop 1) ↔ ∃ i : Nat, c[i]? = some a ∧ c[i + 1]? = some b := by
  rw [List.mem_iff_getElem?]
  constructor
  · rintro ⟨i, h⟩
    rw [List.getElem?_zip_eq_some] at h
    exact ⟨i, h.1, by rw [← h.2, List.getElem?_drop, Nat.add_comm]⟩
  · rintro ⟨i, h1, h2⟩
    refine ⟨i, ?_⟩
    rw [List.getElem?_zip_eq_some]
    exact ⟨h1, by rw [List.getElem?_drop, Nat.add_comm]; exact h2⟩
theorem chain_ok {w r : Nat} {ld c : List Int} (W : WebAt A w r N ps) (hq : A[q]? = some (.lst (ld.map .int))) (hc : c.length < 100) :
    Wp (f_is_chain [.ref w, .ref q, .tup (c.map .int)]) A (fun v A' => A <+: A' ∧ ∃ b, v = .bl b ∧ (b = true ↔ Chain N ps ld c)) NoX := by
  unfold f_is_chain
  have hw := W.ob
  have hr := W.ls
  walk_at "fn"
  walk_at "go"
  refine ⟨fun hb => ?_, fun hb => ?_⟩
  · walk_at "go"
    refine ⟨List.prefix_refl _, false, rfl, fun z => (nomatch z), fun z => ?_⟩
    obtain ⟨⟨h, _⟩, _⟩ := z
    exact absurd (of_decide_eq_true hb) h
  have hne : c ≠ [] := of_decide_eq_false hb
  have hlast := at_lastC hne
  walk_at "go"
  refine ⟨fun hb2 => ?_, fun hb2 => ?_⟩
  · walk_at "go"
    refine ⟨List.prefix_refl _, false, rfl, fun z => (nomatch z), fun z => ?_⟩
    obtain ⟨⟨h, h1⟩, _⟩ := z
    simp [h1] at hb2
  have hin : c.getLast hne ∈ ld := by simpa using hb2
  walk_at "go"
  refine ⟨fun hb3 => ?_, fun hb3 => ?_⟩
  · walk_at "go"
    refine ⟨List.prefix_refl _, false, rfl, fun z => (nomatch z), fun z => ?_⟩
    have := (cnt_lt c).mp (by have := of_decide_eq_true hb3; omega)
    exact absurd z.2.1 this
  have hnd : c.Nodup := by
    by_cases z : c.Nodup
    · exact z
    · have := (cnt_lt c).mpr z
      have := of_decide_eq_false hb3
      omega
  walk_at "go"
  unfold f_is_chain_c1
  refine w_compP (l := c.map .int) (fun σ => ∃ x, σ = [x, some (.ref w)]) (fun _ => true) (fun v => .bl (match v with | .int x => decide (0 ≤ x ∧ x < N) | _ => false)) ?_
  walk_at "go"
  refine ⟨⟨_, rfl⟩, fun i => rfl, ?_, ?_⟩
  · rintro v σ hv ⟨x, rfl⟩
    obtain ⟨y, hy, rfl⟩ := List.mem_map.mp hv
    walk_at "go"
    refine ⟨rfl, ⟨_, rfl⟩, ?_⟩
    walk_at "go"
    refine ⟨rfl, rfl, fun _ => ?_⟩
    walk_at "go"
    exact w_eq (is_hand_eq N y A) ⟨rfl, rfl⟩
  have e1 : ((c.map PV.int).filter fun _ => true).map (fun v => PV.bl (match v with | .int x => decide (0 ≤ x ∧ x < N) | _ => false)) = (c.map fun x => decide (0 ≤ x ∧ x < (N : Int))).map PV.bl := by
    rw [List.filter_eq_self.mpr (by simp), List.map_map, List.map_map]; rfl
  refine ⟨_, _, rfl, by rw [get_app, e1], ?_⟩
  walk_at "go"
  refine ⟨fun hb4 => ?_, fun hb4 => ?_⟩
  · walk_at "go"
    refine ⟨pre_last _, false, rfl, fun z => (nomatch z), fun z => ?_⟩
    have : ((c.map fun x => decide (0 ≤ x ∧ x < (N : Int))).all id) = true := (all_map _ _).mpr fun x hx => decide_eq_true (z.2.2.1 x hx)
    rw [this] at hb4; cases hb4
  have hr4 : ∀ x ∈ c, 0 ≤ x ∧ x < (N : Int) := by
    have : ((c.map fun x => decide (0 ≤ x ∧ x < (N : Int))).all id) = true := by
      cases z : ((c.map fun x => decide (0 ≤ x ∧ x < (N : Int))).all id) with
      | true => rfl
      | false => rw [z] at hb4; cases hb4
    exact fun x hx => of_decide_eq_true ((all_map _ _).mp this x hx)
  rw [e1]
  generalize hA1 : A ++ [PO.lst ((c.map fun x => decide (0 ≤ x ∧ x < (N : Int))).map PV.bl)] = A1
  have p1 : A <+: A1 := by rw [← hA1]; exact pre_last _
  have hwB := pre_get p1 hw
  have hrB := pre_get p1 hr
  walk_at "go"
  unfold f_is_chain_c2
  refine w_compP (l := (c.zip (c.drop 1)).map pv) (fun σ => ∃ x, σ = [x, some (.ref w)]) (fun _ => true) (fun v => .bl (decide ((fst1 v, snd1 v) ∈ srt ps))) ?_
  walk_at "go"
  refine ⟨lt_cut hne, ?_⟩
  walk_at "go"
  refine ⟨by simp, lim_le (by simp; omega), ⟨_, rfl⟩, fun i => by rw [item_zipT, cut_1, zip_steps], ?_, ?_⟩
  · rintro v σ hv ⟨x, rfl⟩
    obtain ⟨y, hy, rfl⟩ := List.mem_map.mp hv
    walk_at "go"
    refine ⟨rfl, ⟨_, rfl⟩, ?_⟩
    walk_at "go"
    refine ⟨rfl, rfl, fun _ => ?_⟩
    unfold pv
    walk_at "go"
    exact ⟨rfl, rfl⟩
  have e2 : (((c.zip (c.drop 1)).map pv).filter fun _ => true).map (fun v => PV.bl (decide ((fst1 v, snd1 v) ∈ srt ps))) = ((c.zip (c.drop 1)).map fun p => decide (p ∈ srt ps)).map PV.bl := by
    rw [List.filter_eq_self.mpr (by simp), List.map_map, List.map_map]; rfl
  refine ⟨_, _, rfl, by rw [get_app, e2], ?_⟩
  refine ⟨p1.trans (pre_last _), _, rfl, ?_⟩
  rw [all_map]
  constructor
  · intro h
    refine ⟨⟨hne, hin⟩, hnd, hr4, fun i a b ha hb => ?_⟩
    exact (srt_perm ps).mem_iff.mp (of_decide_eq_true (h (a, b) (mem_steps.mpr ⟨i, ha, hb⟩)))
  · rintro ⟨_, _, _, h⟩ ⟨a, b⟩ hab
    obtain ⟨i, h1, h2⟩ := mem_steps.mp hab
    exact decide_eq_true ((srt_perm ps).mem_iff.mpr (h i a b h1 h2))
end
end Ws
namespace Ws
structure CL (A : PHp) (cs N : Nat) (ps : List (Int × Int)) (ld : List Int) : Prop where
  ex : ∃ refs : List PV, A[cs]? = some (.lst refs) ∧ refs.length = N ∧ ∀ y : Nat, y < N → ∃ k H, refs[y]? = some (.ref k) ∧ AW ps (y : Int) H H.length ∧ H.length ≤ 400 ∧ A[k]? = some (.lst ((H.filter (isL ld)).map tupI))
theorem CL.mono {A B : PHp} {cs N : Nat} {ps : List (Int × Int)} {ld : List Int} (h : CL A cs N ps ld) (p : A <+: B) : CL B cs N ps ld := by
  obtain ⟨refs, h1, h2, h3⟩ := h.ex
  exact ⟨refs, pre_get p h1, h2, fun y hy => let ⟨k, H, a, b, c, d⟩ := h3 y hy; ⟨k, H, a, b, c, pre_get p d⟩⟩
theorem CL.get {A : PHp} {cs N : Nat} {ps : List (Int × Int)} {ld : List Int} (h : CL A cs N ps ld) {x : Int} (hx : 0 ≤ x ∧ x < N) : ∃ refs k H, A[cs]? = some (.lst refs) ∧ atI refs x = some (.ref k) ∧ AW ps x H H.length ∧ H.length ≤ 400 ∧ A[k]? = some (.lst ((H.filter (isL ld)).map tupI)) := by
  obtain ⟨refs, h1, h2, h3⟩ := h.ex
  obtain ⟨n, rfl⟩ : ∃ n : Nat, x = n := ⟨x.toNat, by omega⟩
  obtain ⟨k, H, a, b, c, d⟩ := h3 n (by omega)
  refine ⟨refs, k, H, h1, ?_, b, c, d⟩
  rw [at_nat (by omega)]
  rw [List.getElem?_eq_getElem (by omega)] at a
  exact a
section
variable {A : PHp} {w r cs q : Nat} {N : Nat} {ps : List (Int × Int)} {x j : Int} {ld : List Int} {u : PV}
theorem told_due {H : List (List Int)} {v : PV} (P : Passings N ps) (hj : j ∈ ld) (hjr : 0 ≤ j ∧ j < N) (hx : PV.int x ≠ u) (Aw : AW ps x H H.length)
    (h : (v = .non ∧ ∃ H par, BF ps u x j H par H.length) ∨ ∃ H par p, p < H.length ∧ BF ps u x j H par p ∧ lastI (hat H p) = j ∧ H.length ≤ N ∧ v = tupI (hat H p)) :
    v = ovT ((H.filter (isL ld)).find? (goodC j u)) ∧ decide (j ∈ reachL N ps u x) = ((H.filter (isL ld)).find? (goodC j u)).isSome := by
  obtain ⟨nm, M⟩ := near_ex (u := u) hjr P.good
  rcases h with ⟨rfl, H', par, B⟩ | ⟨H', par, p, hp, B, hl, _, rfl⟩
  · obtain ⟨h1, h2⟩ := due_none (ld := ld) Aw hx M (B.none M rfl)
    rw [h1]
    exact ⟨rfl, decide_eq_false fun z => h2 (mem_reachL.mp z).2⟩
  · obtain ⟨h1, h2⟩ := due_first Aw hx hj M (B.told M hp hx hl)
    rw [h1]
    exact ⟨rfl, decide_eq_true (mem_reachL.mpr ⟨hjr, h2⟩)⟩
theorem isNon_ovT (o : Option (List Int)) : (!isNon (ovT o)) = o.isSome := by cases o <;> rfl
theorem least_law (Wb : WebAt A w r N ps) (P : Passings N ps) (hxr : 0 ≤ x ∧ x < N) (hj : j ∈ ld) (hjr : 0 ≤ j ∧ j < N) (hu : u = .non ∨ ∃ i, u = .int i) (hx : PV.int x ≠ u) (hc : CL A cs N ps ld) :
    Wp (f_law_least [.ref w, .ref cs, .int x, .int j, u]) A (fun v A' => A <+: A' ∧ v = .bl true) NoX := by
  have hpl : plain u = true := by rcases hu with rfl | ⟨i, rfl⟩ <;> rfl
  obtain ⟨refs, k, H, h1, h2, Aw, h4, h5⟩ := hc.get hxr
  have hpos : ∀ c ∈ H.filter (isL ld), 0 < c.length := fun c hc => Aw.pos c (List.mem_filter.mp hc).1
  obtain ⟨A1, v1, e1, p1, t1⟩ := least_ok (j := j) Wb P hpl hxr
  obtain ⟨A2, p, e2, p2, s2, _⟩ := reach_ok (Wb.mono p1) P hxr hpl
  obtain ⟨d1, d2⟩ := told_due P hj hjr hx Aw t1
  have pv1 : plain v1 = true := by rw [d1]; exact plain_ovT _
  have hob := (Wb.mono p1).ob
  unfold f_law_least
  walk_at "fn"
  walk_at "go"
  refine w_mono (first_ok hpl h5 hpos) fun v B ⟨eB, ev⟩ => ?_
  subst eB; subst ev
  generalize (H.filter (isL ld)).find? (goodC j u) = due at d1 d2
  have hself : ∀ o, eqv (ovT o) (ovT o) = true := fun o => (eqv_iff _ _ (plain_ovT o)).mpr rfl
  rcases hu with rfl | ⟨i, rfl⟩
  · walk_at "go"
    refine ⟨fun _ => ?_, fun z => (by cases z)⟩
    walk_at "go"
    refine w_eq (show dflt f_least_chain [.non] [.ref w, .int x, .int j] B = _ from e1) ?_
    walk_at "go"
    refine w_eqP pv1 (plain_ovT _) ⟨_, rfl, fun _ => ?_, fun z => ?_⟩
    · walk_at "go"
      refine w_eq (show dflt f_Web_reach [.non] [.ref w, .int x] A1 = _ from e2) ?_
      walk_at "go"
      exact ⟨p1.trans p2, by rw [d2, isNon_ovT]; simp⟩
    · rw [d1, hself due] at z; cases z
  · walk_at "go"
    refine ⟨fun z => (by cases z), fun _ => ?_⟩
    walk_at "go"
    refine w_eq e1 ?_
    walk_at "go"
    refine w_neP pv1 (plain_ovT _) ⟨_, rfl, fun z => ?_, fun _ => ?_⟩
    · rw [d1, hself due] at z; cases z
    · walk_at "go"
      refine w_eq e2 ?_
      walk_at "go"
      exact ⟨p1.trans p2, by rw [d2, isNon_ovT]; simp⟩
theorem getD_some {c : List Int} {i : Nat} {a : Int} (h : c[i]? = some a) : c.getD i 0 = a := by rw [List.getD_eq_getElem?_getD, h]; rfl
theorem chain_of {c : List Int} (P : Passings N ps) (hx : 0 ≤ x ∧ x < N) (k : Wk ps x c) (h : isL ld c = true) : Chain N ps ld c := by
  have hne : c ≠ [] := List.length_pos_iff.mp k.ne
  refine ⟨⟨hne, ?_⟩, k.nd, wk_hands P.good hx k, fun i a b h1 h2 => ?_⟩
  · have := of_decide_eq_true h
    unfold lastI at this
    rwa [List.getLastD_eq_getLast?, List.getLast?_eq_getLast hne] at this
  · have := k.st i (List.getElem?_eq_some_iff.mp h2).1
    rwa [getD_some h1, getD_some h2] at this
theorem getD_drop {c : List Int} {i : Nat} : (c.drop 1).getD i 0 = c.getD (i + 1) 0 := by
  rw [List.getD_eq_getElem?_getD, List.getD_eq_getElem?_getD, List.getElem?_drop, Nat.add_comm]
theorem wk_tail {c : List Int} (k : Wk ps x c) (h : 1 < c.length) : Wk ps (c.getD 1 0) (c.drop 1) :=
  ⟨by rw [List.length_drop]; omega, getD_drop, k.nd.sublist (List.drop_sublist _ _), fun i hi => by
    rw [List.length_drop] at hi
    rw [getD_drop, getD_drop]; exact k.st (i + 1) (by omega)⟩
theorem last_tail {c : List Int} (h : 1 < c.length) : lastI (c.drop 1) = lastI c := by
  rw [last_getD (by rw [List.length_drop]; omega), last_getD (by omega), getD_drop, List.length_drop]
  congr 1; omega
theorem rests_law (Wb : WebAt A w r N ps) (P : Passings N ps) (hxr : 0 ≤ x ∧ x < N) (hq : A[q]? = some (.lst (ld.map .int))) (hc : CL A cs N ps ld) :
    Wp (f_law_rests [.ref w, .ref q, .ref cs, .int x]) A (fun v A' => A <+: A' ∧ v = .bl true) NoX := by
  obtain ⟨refs, k, H, h1, h2, Aw, h4, h5⟩ := hc.get hxr
  unfold f_law_rests
  walk_at "fn"
  have L : Wp (f_law_rests_l1 [some (.ref w), some (.ref q), some (.ref cs), some (.int x), none, none]) A (fun o B => A <+: B ∧ ∃ σ, o = .nx σ) NoX := by
    unfold f_law_rests_l1
    refine w_forL (fun i σ B => A <+: B ∧ ∃ y z, σ = [some (.ref w), some (.ref q), some (.ref cs), some (.int x), y, z]) ?_
    walk_at "go"
    refine ⟨_, (H.filter (isL ld)).map tupI, rfl, ⟨List.prefix_refl _, _, _, rfl⟩, fun i σ B h => lstAt_lst (pre_get h.1 h5), ?_, fun σ B h => ⟨h.1, σ, rfl⟩⟩
    rintro i v σ B hv ⟨pB, y, z, rfl⟩
    rw [List.getElem?_map] at hv
    rcases hcc : (H.filter (isL ld))[i]? with _ | c
    · rw [hcc] at hv; cases hv
    rw [hcc] at hv
    obtain rfl : tupI c = v := Option.some.inj hv
    obtain ⟨hcH, hcL⟩ := List.mem_filter.mp (List.mem_of_getElem? hcc)
    have kc := Aw.sound _ c (Nat.le_refl _) hcH
    have hlen := wk_len P.good hxr kc
    have hN : N ≤ 6 := by have := P.hi; omega
    have hne : c ≠ [] := List.length_pos_iff.mp kc.ne
    have WB := Wb.mono pB
    have hqB := pre_get pB hq
    walk_at "go"
    unfold f_law_rests_b1
    unfold tupI
    walk_at "go"
    refine w_mono (chain_ok WB hqB (by omega)) fun v B1 ⟨pB1, b, hv1, hb⟩ => ?_
    subst hv1
    obtain rfl : b = true := hb.mpr (chain_of P hxr kc hcL)
    walk_at "go"
    refine ⟨lt_cut hne, ?_⟩
    rw [cut_1, ← List.map_drop]
    have WB1 := WB.mono pB1
    have hq1 := pre_get pB1 hqB
    have fin0 : ∀ (D : PHp) (y z : Option PV), A <+: D → TurnQ (fun σ B => A <+: B ∧ ∃ y z, σ = [some (PV.ref w), some (PV.ref q), some (PV.ref cs), some (PV.int x), y, z]) (fun o B => A <+: B ∧ ∃ σ, o = Fl.nx σ) (.nx [some (PV.ref w), some (PV.ref q), some (PV.ref cs), some (PV.int x), y, z]) D := fun D y z h => ⟨h, y, z, rfl⟩
    by_cases h1c : 1 < c.length
    · have kt := wk_tail kc h1c
      have hmem : c.getD 1 0 ∈ c := by rw [List.getD_eq_getElem?_getD, List.getElem?_eq_getElem h1c]; exact List.getElem_mem h1c
      have hyr := wk_hands P.good hxr kc _ hmem
      have hLt : isL ld (c.drop 1) = true := by unfold isL; rw [last_tail h1c]; exact hcL
      have hdl : (c.drop 1).length < 100 := by rw [List.length_drop]; omega
      have hd0 : atI ((c.drop 1).map PV.int) 0 = some (.int (c.getD 1 0)) := by
        have := at_getD (w := c.drop 1) (k := 0) kt.ne
        rw [getD_drop] at this
        exact this
      have hnee : c.drop 1 ≠ [] := List.length_pos_iff.mp kt.ne
      generalize hd : c.drop 1 = d at *
      have hdd : (!decide (d = [])) = true := by simp [hnee]
      walk_at "go"
      refine ⟨fun _ => ?_, fun z => (by rw [hdd] at z; cases z)⟩
      walk_at "go"
      refine w_mono (chain_ok WB1 hq1 hdl) fun v B2 ⟨pB2, b, hv2, hb2⟩ => ?_
      subst hv2
      obtain rfl : b = true := hb2.mpr (chain_of P hyr kt hLt)
      obtain ⟨refs', k', H', g1, g2, Aw', g4, g5⟩ := (hc.mono ((pB.trans pB1).trans pB2)).get hyr
      have hin : tupI d ∈ (H'.filter (isL ld)).map tupI := List.mem_map.mpr ⟨d, List.mem_filter.mpr ⟨Aw'.all _ d (Nat.le_refl _) kt, hLt⟩, rfl⟩
      have hpin : pIn (tupI d) ((H'.filter (isL ld)).map tupI) = true := by
        unfold pIn
        rw [List.any_eq_true]
        exact ⟨_, hin, (eqv_iff _ _ (plain_tupI d)).mpr rfl⟩
      walk_at "go"
      refine ⟨fun _ => ?_, fun z => (by rw [hdd] at z; cases z)⟩
      walk_at "go"
      refine w_notInL g5 ⟨plain_tupI d, plains_tups _⟩ ?_
      rw [show PV.tup (d.map PV.int) = tupI d from rfl, hpin]
      refine ⟨_, rfl, fun z => (by cases z), fun _ => ?_⟩
      walk_at "go"
      exact ⟨(pB.trans pB1).trans pB2, _, _, rfl⟩
    · have hd : c.drop 1 = [] := List.drop_eq_nil_of_le (by omega)
      rw [hd]
      walk_at "go"
      refine ⟨fun z => (by simp at z), fun _ => ?_⟩
      walk_at "go"
      refine ⟨fun z => (by simp at z), fun _ => ?_⟩
      walk_at "go"
      exact ⟨pB.trans pB1, _, _, rfl⟩
  walk_at "go"
  refine w_mono L fun o B ⟨pB, σ, ho⟩ => ?_
  subst ho
  walk_at "go"
end
end Ws
namespace Ws
theorem ldr14 {A : PHp} {N : Nat} (hN : N ≤ 6) (c : Int) : Wp (f_law_leaders [.int c, .int N]) A (fun v A' => A <+: A' ∧ ∃ (p : Nat) (L : List Int), v = .ref p ∧ A'[p]? = some (.lst (L.map .int)) ∧ (∀ h ∈ L, 0 ≤ h ∧ h < (N : Int)) ∧ L.length ≤ 6) NoX := by
  obtain ⟨xs, hx, _, es⟩ := stream_ok c 7 (by decide) A
  unfold f_law_leaders
  walk_at "fn"
  walk_at "go"
  refine w_eq es ?_
  walk_at "go"
  unfold f_law_leaders_c1
  refine w_compP (l := (List.range N).map fun (k : Nat) => PV.int (k : Int)) (fun σ => ∃ x, σ = [x, some (.ref A.length)]) (fun v => match v with | .int x => decide (xs.getD x.toNat 0 % 4 < 1 + xs.getD 6 0 % 3) | _ => false) (fun v => v) ?_
  walk_at "go"
  refine ⟨by simp, lim_le (by simp; omega), ⟨_, rfl⟩, fun i => item_rng N i, ?_, ?_⟩
  · rintro v σ hv ⟨x, rfl⟩
    obtain ⟨y, hy, rfl⟩ := List.mem_map.mp hv
    have hy := List.mem_range.mp hy
    walk_at "go"
    refine ⟨rfl, ⟨_, rfl⟩, ?_⟩
    walk_at "go"
    exact ⟨rfl, rfl, fun _ => w_var rfl ⟨rfl, rfl⟩⟩
  · refine ⟨(pre_last _).trans (pre_last _), _, ((List.range N).filter fun (k : Nat) => decide (xs.getD (k : Int).toNat 0 % 4 < 1 + xs.getD 6 0 % 3)).map fun (k : Nat) => (k : Int), rfl, ?_, fun h hh => ?_, ?_⟩
    · rw [get_app, List.map_id', List.filter_map, List.map_map]; rfl
    · obtain ⟨k, hk, rfl⟩ := List.mem_map.mp hh
      have := List.mem_range.mp (List.mem_filter.mp hk).1
      omega
    · rw [List.length_map]
      have := List.length_filter_le (fun (k : Nat) => decide (xs.getD (k : Int).toNat 0 % 4 < 1 + xs.getD 6 0 % 3)) (List.range N)
      rw [List.length_range] at this
      omega
theorem cut4 {n : Int} {ps : List (Int × Int)} (P : Passings n ps) : Passings 4 (ps.filter fun p => decide (maxI p.1 [p.2] < 4)) := by
  refine ⟨by omega, by omega, fun p hp => ?_, P.nd.sublist List.filter_sublist, Nat.lt_of_le_of_lt (List.length_filter_le _ _) P.len⟩
  obtain ⟨h1, h2⟩ := List.mem_filter.mp hp
  have h2 := of_decide_eq_true h2
  obtain ⟨a, b, c⟩ := P.good p h1
  unfold maxI maxI at h2
  refine ⟨⟨a.1, ?_⟩, ⟨b.1, ?_⟩, c⟩ <;> split at h2 <;> omega
section
variable {A : PHp} {w r p : Nat} {N : Nat} {ps : List (Int × Int)} {ld : List Int}
theorem chains_c2 (Wb : WebAt A w r N ps) (P : Passings N ps) (hp : A[p]? = some (.lst (ld.map .int))) (y0 y2 : PV) (s5 s6 s7 s8 : Option PV) :
    Wp (f_law_c2 [some y0, some (.int N), some y2, some (.ref p), some (.ref w), s5, s6, s7, s8]) A (fun v A' => A <+: A' ∧ ∃ cs, v = .ref cs ∧ CL A' cs N ps ld) NoX := by
  have hN : N ≤ 6 := by have := P.hi; omega
  unfold f_law_c2
  refine w_comp ?_
  walk_at "go"
  refine ⟨(List.range N).map (fun (k : Nat) => PV.int (k : Int)), _, fun i acc σ B => A <+: B ∧ (∃ z, σ = [z, some (.ref w), some (.ref p)]) ∧ acc.length = i ∧ ∀ y : Nat, y < i → ∃ k H, acc[y]? = some (.ref k) ∧ AW ps (y : Int) H H.length ∧ H.length ≤ 400 ∧ B[k]? = some (.lst ((H.filter (isL ld)).map tupI)), rfl, by simp, ⟨List.prefix_refl _, ⟨_, rfl⟩, rfl, fun y h => absurd h (by omega)⟩, fun i acc σ B _ => item_rng N i, ?_, ?_⟩
  · rintro i v acc σ B hv ⟨pB, ⟨z, rfl⟩, hl, hall⟩
    rw [List.getElem?_map] at hv
    rcases hr : (List.range N)[i]? with _ | i'
    · rw [hr] at hv; cases hv
    rw [hr] at hv
    have hi := List.getElem?_eq_some_iff.mp hr
    obtain ⟨hi1, hi2⟩ := hi
    rw [List.length_range] at hi1
    rw [List.getElem_range] at hi2
    subst hi2
    obtain rfl : PV.int ((i : Nat) : Int) = v := Option.some.inj hv
    walk_at "go"
    refine w_mono (chains_ok (Wb.mono pB) P (by omega) (pre_get pB hp)) fun v B1 ⟨pB1, k, H, hv1, Aw, hH, hk⟩ => ?_
    subst hv1
    refine ⟨pB.trans pB1, ⟨_, rfl⟩, by simp [hl], fun y hy => ?_⟩
    by_cases e : y = i
    · subst e
      exact ⟨k, H, by rw [List.getElem?_append_right (by omega)]; simp [hl], Aw, hH, hk⟩
    · obtain ⟨k', H', a, b, c, d⟩ := hall y (by omega)
      exact ⟨k', H', by rw [List.getElem?_append_left (by omega)]; exact a, b, c, pre_get pB1 d⟩
  · rintro acc σ B ⟨pB, _, hl, hall⟩
    rw [List.length_map, List.length_range] at hl hall
    refine ⟨lim_le (by omega), pre_app pB, _, rfl, acc, get_app, hl, fun y hy => ?_⟩
    obtain ⟨k', H', a, b, c, d⟩ := hall y hy
    exact ⟨k', H', a, b, c, get_app_of d⟩
end
theorem us_c3 {B : PHp} {N : Nat} {x0 : Int} (hN : N ≤ 6) (y0 y2 y3 y4 y5 : PV) (s7 s8 : Option PV) :
    Wp (f_law_c3 [some y0, some (.int N), some y2, some y3, some y4, some y5, some (.int x0), s7, s8]) B (fun v B' => ∃ vs, v = .ref B.length ∧ B' = B ++ [.lst vs] ∧ vs.length ≤ 6 ∧ ∀ u ∈ vs, ∃ i, u = .int i ∧ i ≠ x0) NoX := by
  unfold f_law_c3
  refine w_compP (l := (List.range N).map fun (k : Nat) => PV.int (k : Int)) (fun σ => ∃ x, σ = [x, some (.int x0)]) (fun v => match v with | .int x => !decide (x = x0) | _ => false) (fun v => v) ?_
  walk_at "go"
  refine ⟨by simp, lim_le (by simp; omega), ⟨_, rfl⟩, fun i => item_rng N i, ?_, ?_⟩
  · rintro v σ hv ⟨x, rfl⟩
    obtain ⟨y, hy, rfl⟩ := List.mem_map.mp hv
    walk_at "go"
    refine ⟨rfl, ⟨_, rfl⟩, ?_⟩
    walk_at "go"
    exact ⟨rfl, rfl, fun _ => w_var rfl ⟨rfl, rfl⟩⟩
  · refine ⟨_, rfl, rfl, ?_, fun u hu => ?_⟩
    · rw [List.length_map]
      refine Nat.le_trans (List.length_filter_le _ _) ?_
      simp; omega
    · rw [List.map_id'] at hu
      obtain ⟨h1, h2⟩ := List.mem_filter.mp hu
      obtain ⟨y, hy, rfl⟩ := List.mem_map.mp h1
      exact ⟨_, rfl, by simpa using h2⟩
theorem law_rest {A : PHp} {N q c1 : Nat} {ps : List (Int × Int)} {cc : Int} (P : Passings N ps) (hN5 : N ≤ 6) (hq : A[q]? = some (.lst (pvs ps))) (h0 : ∀ B : PHp, A <+: B → True) (ec1 : f_law_cell_at [.ref 0, .int 1] A = .ok (.int cc) A) :
    Wp (sSeq (sAsg (eCall f_law_leaders (aCons (eCall f_law_cell_at (aCons (eVar 0) (aCons (eK (.int 1)) aNil))) (aCons (eVar 1) aNil))) (gName 3))
 (sSeq (sAsg (eMake 0 f_Web_init (aCons (eVar 1) (aCons (eVar 2) aNil))) (gName 4))
 (sSeq (sAsg f_law_c2 (gName 5))
 (sSeq f_law_l1
 (sRet (eK (.bl true)))))) [some (.ref 0), some (.int N), some (.ref q), none, none, none, none, none, none]) A (fun o _ => o = .rt (.bl true)) NoX := by
  walk_at "go"
  refine w_eq ec1 ?_
  walk_at "go"
  refine w_mono (ldr14 hN5 cc) fun v A2 ⟨p2, p, ld, hv, hp, hld, hll⟩ => ?_
  subst hv
  have hq2 := pre_get p2 hq
  walk_at "go"
  obtain ⟨A3, r, em, p3, W, hwr⟩ := web_make P hq2
  refine w_eq em ?_
  have hp3 := pre_get p3 hp
  generalize A2.length = w at W
  walk_at "go"
  refine w_mono (chains_c2 W P hp3 _ _ _ _ _ _) fun v A4 ⟨p4, cs, hv, hcl⟩ => ?_
  subst hv
  have W4 := W.mono p4
  have hp4 := pre_get p4 hp3
  walk_at "go"
  have L : Wp (f_law_l1 [some (.ref 0), some (.int N), some (.ref q), some (.ref p), some (.ref w), some (.ref cs), none, none, none]) A4 (fun o B => A4 <+: B ∧ ∃ σ, o = .nx σ) NoX := by
    unfold f_law_l1
    refine w_forR (fun i σ B => A4 <+: B ∧ ∃ x y z, σ = [some (.ref 0), some (.int N), some (.ref q), some (.ref p), some (.ref w), some (.ref cs), x, y, z]) ?_
    walk_at "go"
    refine ⟨0, N, rfl, ⟨List.prefix_refl _, _, _, _, rfl⟩, ?_, fun σ B h => ⟨h.1, σ, rfl⟩⟩
    rintro i σ B hi ⟨pB, x, y, z, rfl⟩
    have hir : (0 : Int) ≤ 0 + (i : Int) ∧ 0 + (i : Int) < N := by omega
    generalize (0 : Int) + (i : Int) = x0 at hir
    unfold f_law_b1
    walk_at "go"
    refine w_mono (rests_law (W4.mono pB) P hir (pre_get pB hp4) (hcl.mono pB)) fun v B1 ⟨pB1, hv⟩ => ?_
    subst hv
    walk_at "go"
    unfold f_law_l2
    have pA1 := pB.trans pB1
    refine w_forL (fun i σ B => A4 <+: B ∧ ∃ y z, σ = [some (.ref 0), some (.int N), some (.ref q), some (.ref p), some (.ref w), some (.ref cs), some (.int x0), y, z]) ?_
    walk_at "go"
    refine ⟨_, ld.map .int, rfl, ⟨pA1, _, _, rfl⟩, fun i σ B h => lstAt_lst (pre_get h.1 hp4), ?_, fun σ B h => ?_⟩
    · rintro i v σ B2 hv ⟨pB2, y, z, rfl⟩
      rw [List.getElem?_map] at hv
      rcases hj : ld[i]? with _ | j
      · rw [hj] at hv; cases hv
      rw [hj] at hv
      obtain rfl : PV.int j = v := Option.some.inj hv
      have hjl := List.mem_of_getElem? hj
      have hjr := hld j hjl
      walk_at "go"
      unfold f_law_b2 f_law_l3
      obtain ⟨v3, B3, e3, vs, hv3, hB3, hvl, hvs⟩ := w_inv (us_c3 (B := B2 ++ [.lst [.non]]) (x0 := x0) hN5 (.ref 0) (.ref q) (.ref p) (.ref w) (.ref cs) (some (.int j)) z)
      subst hv3; subst hB3
      refine w_forL (fun i σ B => A4 <+: B ∧ B[B2.length + 2]? = some (.lst (PV.non :: vs)) ∧ ∃ z, σ = [some (.ref 0), some (.int N), some (.ref q), some (.ref p), some (.ref w), some (.ref cs), some (.int x0), some (.int j), z]) ?_
      walk_at "go"
      refine w_eq e3 ?_
      walk_at "go"
      have g1 : (B2 ++ [PO.lst [PV.non]] ++ [PO.lst vs])[B2.length]? = some (.lst [PV.non]) := get_app_of get_app
      have g2 : (B2 ++ [PO.lst [PV.non]] ++ [PO.lst vs])[(B2 ++ [PO.lst [PV.non]]).length]? = some (.lst vs) := get_app
      refine w_addL g1 g2 (lim_le (by simp; omega)) (.inl ⟨_, _, rfl, lstAt_lst get_app, ?_⟩)
      have hlen2 : (B2 ++ [PO.lst [PV.non]] ++ [PO.lst vs]).length = B2.length + 2 := by simp
      refine ⟨_, PV.non :: vs, rfl, ⟨pre_app (pre_app (pre_app pB2)), by rw [← hlen2]; exact get_app, _, rfl⟩, fun i σ B h => lstAt_lst (by rw [hlen2]; exact h.2.1), ?_, fun σ B h => ?_⟩
      · rintro i v σ B4 hv ⟨pB4, hB4, z4, rfl⟩
        have hmem := List.mem_of_getElem? hv
        have hu : (v = .non ∨ ∃ i, v = .int i) ∧ PV.int x0 ≠ v := by
          rcases List.mem_cons.mp hmem with rfl | h
          · exact ⟨.inl rfl, fun z => nomatch z⟩
          · obtain ⟨k, rfl, hk⟩ := hvs v h
            exact ⟨.inr ⟨k, rfl⟩, fun z => hk (PV.int.inj z).symm⟩
        unfold f_law_b3
        walk_at "go"
        refine w_mono (least_law (W4.mono pB4) P hir hjl hjr hu.1 hu.2 (hcl.mono pB4)) fun v B5 ⟨pB5, hv5⟩ => ?_
        subst hv5
        walk_at "go"
        exact ⟨pB4.trans pB5, pre_get pB5 hB4, _, rfl⟩
      · obtain ⟨h1, h2, z5, rfl⟩ := h
        exact ⟨h1, _, _, rfl⟩
    · obtain ⟨h1, y, z, rfl⟩ := h
      exact ⟨h1, _, _, _, rfl⟩
  refine w_mono L fun o B ⟨pB, σ, ho⟩ => ?_
  subst ho
  walk_at "go"
theorem cut_c1 {B : PHp} {q : Nat} {ps : List (Int × Int)} (hl : ps.length < 64) (hq : B[q]? = some (.lst (pvs ps))) (y0 y1 : PV) (s3 s4 s5 s6 s7 s8 : Option PV) :
    Wp (f_law_c1 [some y0, some y1, some (.ref q), s3, s4, s5, s6, s7, s8]) B (fun v B' => v = .ref B.length ∧ B' = B ++ [.lst (pvs (ps.filter fun p => decide (maxI p.1 [p.2] < 4)))]) NoX := by
  unfold f_law_c1
  refine w_compP (l := pvs ps) (fun σ => ∃ x, σ = [x]) (fun v => decide (maxI (fst1 v) [snd1 v] < 4)) (fun v => v) ?_
  walk_at "go"
  refine ⟨_, by simp [hq], Nat.le_refl _, lim_le (by rw [pvs, List.length_map]; omega), ⟨_, rfl⟩, fun i => by simp [hq], ?_, ?_⟩
  · rintro v σ hv ⟨x, rfl⟩
    obtain ⟨y, hy, rfl⟩ := mem_pvs hv
    walk_at "go"
    refine ⟨rfl, ⟨_, rfl⟩, ?_⟩
    refine w_eq (a := decide (maxI y.1 [y.2] < 4)) (A' := B) (by simp [eMaxT, pv, intsOf]) ⟨rfl, rfl, fun _ => w_var rfl ⟨rfl, rfl⟩⟩
  · refine ⟨rfl, ?_⟩
    rw [List.map_id']
    congr 3
    unfold pvs
    rw [List.filter_map]; rfl
theorem law_pure (ns : List Int) : ∃ A', f_law [.ref 0] [.ro (ns.map .int)] = .ok (.bl true) A' := by
  have h : Wp (f_law [.ref 0]) [.ro (ns.map .int)] (fun v _ => v = .bl true) NoX := by
    obtain ⟨c0, ec0⟩ := cell_ok (A := [.ro (ns.map .int)]) (a := 0) rfl 0
    obtain ⟨n, ps, A1, q, ew, p1, hq, P, hql⟩ := web_ok c0 [.ro (ns.map .int)]
    obtain ⟨N, rfl⟩ : ∃ N : Nat, n = (N : Int) := ⟨n.toNat, by have := P.lo; omega⟩
    have h01 : A1[0]? = some (.ro (ns.map .int)) := pre_get p1 rfl
    have hN6 : N ≤ 6 := by have := P.hi; omega
    unfold f_law
    walk_at "fn"
    walk_at "go"
    refine w_eq ec0 ?_
    walk_at "go"
    refine w_eq ew ?_
    walk_at "go"
    refine ⟨fun hb => ?_, fun hb => ?_⟩
    · refine w_mono (Q := fun o A2 => A2 = A1 ++ [.lst (pvs (ps.filter fun p => decide (maxI p.1 [p.2] < 4)))] ∧ o = .nx [some (.ref 0), some (.int ((4 : Nat) : Int)), some (.ref A1.length), none, none, none, none, none, none]) ?_ fun o A2 ⟨e1, e2⟩ => ?_
      · walk_at "go"
        refine w_mono (cut_c1 P.len hq _ _ _ _ _ _ _ _) fun v B ⟨hv, hB⟩ => ?_
        subst hv; subst hB
        walk_at "go"
        exact ⟨rfl, rfl⟩
      · subst e1; subst e2
        obtain ⟨c1, ec1⟩ := cell_ok (a := 0) (get_app_of (o := PO.lst (pvs (ps.filter fun p => decide (maxI p.1 [p.2] < 4)))) h01) 1
        exact w_mono (law_rest (N := 4) (c1 := 0) (cut4 P) (by omega) get_app (fun _ _ => trivial) ec1) fun o _ e => by subst e; rfl
    · refine w_pass ?_
      obtain ⟨c1, ec1⟩ := cell_ok (A := A1) (a := 0) h01 1
      exact w_mono (law_rest (c1 := 0) P hN6 hq (fun _ _ => trivial) ec1) fun o _ e => by subst e; rfl
  obtain ⟨v, A', e, hv⟩ := w_inv h
  exact ⟨A', by rw [e, hv]⟩
end Ws
namespace Ws
open PySem
structure Glob (mg : Str → Option Value) : Prop where
  g_FEWEST_HANDS : ∃ t, mg "FEWEST_HANDS" = some (.int 2 t)
  g_MOST_HANDS : ∃ t, mg "MOST_HANDS" = some (.int 6 t)
section
variable {P : Program} {w : World} {K : PySem.W.Frag} {mg : Str → Option Value} {base : Heap} {cm : Nat → Addr}
noncomputable def top (i : Nat) : Stmt := PySem.Challenge.pw_wordswap_k14_whole_chains_and_ways.main.body.getD i (.Pass ⟨0, 0, 0, 0⟩)
theorem sc_is_whole : L2.FnScope ["value"] ["value"] (L2.defScope (top 7)) := ⟨rfl, rfl, rfl, by decide +kernel, rfl, by decide +kernel, by decide +kernel⟩
set_option maxHeartbeats 4000000 in
theorem ok_is_whole {fa : Addr} {fd : FuncData} (B : Base K mg cm) (F : L2.Fun K "is_whole" "is_whole" (top 7) fa fd) : L2.FnOk P w K mg base L2.CX0 1 fa fd ["value"] (SpF K cm f_is_whole 1) :=
  fn_ok F sc_is_whole fun cdv A outer s0 H E hr => by
    have hu := hr.units
    have hu1 := Nat.lt_of_le_of_lt (Nat.add_le_add_left (show 1 ≤ 64 by decide) _) hu
    exact (ss_one (s_ret (r_and (r_isA (t := .int) B.kit (r_var (L2.pv 0)) rfl B.b_isinstance rfl B.b_int PyProof.Rows.boot_int) (r_and1 (r_not (r_isA (t := .bool) B.kit (r_var (L2.pv 0)) rfl B.b_isinstance rfl B.b_bool PyProof.Rows.boot_bool))))))
theorem sc_is_hand : L2.FnScope ["number", "value"] ["number", "value"] (L2.defScope (top 8)) := ⟨rfl, rfl, rfl, by decide +kernel, rfl, by decide +kernel, by decide +kernel⟩
set_option maxHeartbeats 4000000 in
theorem ok_is_hand {fa : Addr} {fd : FuncData} (B : Base K mg cm) (D_is_whole : Def P w K mg base cm "is_whole" 1 ["value"] f_is_whole 1) (F : L2.Fun K "is_hand" "is_hand" (top 8) fa fd) : L2.FnOk P w K mg base L2.CX0 2 fa fd ["number", "value"] (SpF K cm f_is_hand 2) :=
  fn_ok F sc_is_hand fun cdv A outer s0 H E hr => by
    have hu := hr.units
    have hu1 := Nat.lt_of_le_of_lt (Nat.add_le_add_left (show 1 ≤ 64 by decide) _) hu
    exact (ss_one (s_ret (r_and (r_callD D_is_whole (by decide) hr rfl (r_cons (r_var (L2.pv 1)) r_nil)) (r_and1 (r_chain L2.op_le ok_le L2.op_lt ok_lt r_int (r_var (L2.pv 1)) (r_var (L2.pv 0)))))))
theorem sc_is_number_of_hands : L2.FnScope ["value"] ["value"] (L2.defScope (top 9)) := ⟨rfl, rfl, rfl, by decide +kernel, rfl, by decide +kernel, by decide +kernel⟩
set_option maxHeartbeats 4000000 in
theorem ok_is_number_of_hands {fa : Addr} {fd : FuncData} (B : Base K mg cm) (GL : Glob mg) (D_is_whole : Def P w K mg base cm "is_whole" 1 ["value"] f_is_whole 1) (F : L2.Fun K "is_number_of_hands" "is_number_of_hands" (top 9) fa fd) : L2.FnOk P w K mg base L2.CX0 2 fa fd ["value"] (SpF K cm f_is_number_of_hands 1) :=
  fn_ok F sc_is_number_of_hands fun cdv A outer s0 H E hr => by
    have hu := hr.units
    have hu1 := Nat.lt_of_le_of_lt (Nat.add_le_add_left (show 1 ≤ 64 by decide) _) hu
    exact (ss_one (s_ret (r_and (r_callD D_is_whole (by decide) hr rfl (r_cons (r_var (L2.pv 0)) r_nil)) (r_and1 (r_chain L2.op_le ok_le L2.op_le ok_le (r_glob rfl GL.g_FEWEST_HANDS) (r_var (L2.pv 0)) (r_glob rfl GL.g_MOST_HANDS))))))
theorem sc_is_passing : L2.FnScope ["number", "value"] ["number", "value"] (L2.defScope (top 10)) := ⟨rfl, rfl, rfl, by decide +kernel, rfl, by decide +kernel, by decide +kernel⟩
set_option maxHeartbeats 4000000 in
theorem ok_is_passing {fa : Addr} {fd : FuncData} (B : Base K mg cm) (D_is_hand : Def P w K mg base cm "is_hand" 2 ["number", "value"] f_is_hand 2) (F : L2.Fun K "is_passing" "is_passing" (top 10) fa fd) : L2.FnOk P w K mg base L2.CX0 3 fa fd ["number", "value"] (SpF K cm f_is_passing 2) :=
  fn_ok F sc_is_passing fun cdv A outer s0 H E hr => by
    have hu := hr.units
    have hu1 := Nat.lt_of_le_of_lt (Nat.add_le_add_left (show 1 ≤ 64 by decide) _) hu
    exact (ss_cons (s_if (L2.PW.pt (r_tor (r_tnot (r_tval (r_isA (t := .tuple) B.kit (r_var (L2.pv 1)) rfl B.b_isinstance rfl B.b_tuple PyProof.Rows.boot_tuple))) (r_tor1 (r_tcmp (op_neP hu) ok_ne (r_len (r_var (L2.pv 1)) rfl B.b_len) r_int (L2.nomark _)))))
 (ss_one (s_ret r_bl))
 ss_nil)
 (ss_one (s_ret (r_and (r_callD D_is_hand (by decide) hr rfl (r_cons (r_var (L2.pv 0)) (r_cons (r_ix (r_var (L2.pv 1)) r_int (fun _ _ => rfl)) r_nil))) (r_and (r_callD D_is_hand (by decide) hr rfl (r_cons (r_var (L2.pv 0)) (r_cons (r_ix (r_var (L2.pv 1)) r_int (fun _ _ => rfl)) r_nil))) (r_and1 (r_cmp (op_neP hu) ok_ne (r_ix (r_var (L2.pv 1)) r_int (fun _ _ => rfl)) (r_ix (r_var (L2.pv 1)) r_int (fun _ _ => rfl)) (L2.nomark _))))))))
theorem sc_first_wrong_passing : L2.FnScope ["number", "passings", "at", "passing"] ["number", "passings"] (L2.defScope (top 11)) := ⟨rfl, rfl, rfl, by decide +kernel, rfl, by decide +kernel, by decide +kernel⟩
set_option maxHeartbeats 4000000 in
theorem ok_first_wrong_passing {fa : Addr} {fd : FuncData} (B : Base K mg cm) (D_is_passing : Def P w K mg base cm "is_passing" 3 ["number", "value"] f_is_passing 2) (F : L2.Fun K "first_wrong_passing" "first_wrong_passing" (top 11) fa fd) : L2.FnOk P w K mg base L2.CX0 4 fa fd ["number", "passings"] (SpF K cm f_first_wrong_passing 2) :=
  fn_ok F sc_first_wrong_passing fun cdv A outer s0 H E hr => by
    have hu := hr.units
    have hu1 := Nat.lt_of_le_of_lt (Nat.add_le_add_left (show 1 ≤ 64 by decide) _) hu
    exact (ss_cons (s_for PassesOwn.never rfl (i_enm rfl B.b_enumerate (r_var (L2.pv 1))) (g_tup rfl (g_cons (g_name (L2.pg_name (i := 2) sc_first_wrong_passing.nd rfl (by first | exact Or.inl rfl | exact Or.inr rfl))) (g_cons (g_name (L2.pg_name (i := 3) sc_first_wrong_passing.nd rfl (by first | exact Or.inl rfl | exact Or.inr rfl))) g_nil)))
 (ss_one (s_if (L2.PW.pt (r_tor (r_tnot (r_tval (r_callD D_is_passing (by decide) hr rfl (r_cons (r_var (L2.pv 0)) (r_cons (r_var (L2.pv 3)) r_nil))))) (r_tor1 (r_tcmp (op_inP hu) ok_in (r_var (L2.pv 3)) (r_cut (r_var (L2.pv 1)) r_lno (r_lat (r_var (L2.pv 2)))) (by rfl)))))
 (ss_one (s_ret (r_var (L2.pv 2))))
 ss_nil)))
 (ss_one (s_ret r_non)))
theorem sc_Web_init : L2.FnScope ["self", "number", "passings", "wrong"] ["self", "number", "passings"] (L2.defScope (L2.inClass (top 12) 0)) := ⟨rfl, rfl, rfl, by decide +kernel, rfl, by decide +kernel, by decide +kernel⟩
set_option maxHeartbeats 4000000 in
theorem ok_Web_init {fa : Addr} {fd : FuncData} (B : Base K mg cm) (D_is_number_of_hands : Def P w K mg base cm "is_number_of_hands" 2 ["value"] f_is_number_of_hands 1) (D_first_wrong_passing : Def P w K mg base cm "first_wrong_passing" 4 ["number", "passings"] f_first_wrong_passing 2) (F : L2.Fun K "__init__" "Web.__init__" (L2.inClass (top 12) 0) fa fd) : L2.FnOk P w K mg base L2.CX0 5 fa fd ["self", "number", "passings"] (SpF K cm f_Web_init 3) :=
  fn_ok F sc_Web_init fun cdv A outer s0 H E hr => by
    have hu := hr.units
    have hu1 := Nat.lt_of_le_of_lt (Nat.add_le_add_left (show 1 ≤ 64 by decide) _) hu
    exact (ss_cons (s_if (r_tnot (r_tval (r_callD D_is_number_of_hands (by decide) hr rfl (r_cons (r_var (L2.pv 1)) r_nil))))
 (ss_one s_never)
 ss_nil)
 (ss_cons (s_set (i := 3) sc_Web_init.nd rfl (by first | exact Or.inl rfl | exact Or.inr rfl) (r_callD D_first_wrong_passing (by decide) hr rfl (r_cons (r_var (L2.pv 1)) (r_cons (r_var (L2.pv 2)) r_nil))))
 (ss_cons (s_if (r_tnotN (r_var (L2.pv 3)))
 (ss_one s_never)
 ss_nil)
 (ss_cons (s_fld (r_var (L2.pv 0)) (r_var (L2.pv 1)) (i := 0) rfl (by decide) B.cls (fun c => B.na c 0 (by decide)))
 (ss_one (s_fld (r_var (L2.pv 0)) (r_sorted hu (r_var (L2.pv 2)) rfl B.b_sorted) (i := 1) rfl (by decide) B.cls (fun c => B.na c 1 (by decide))))))))
theorem sc_Web_takers_of : L2.FnScope ["self", "h"] ["self", "h"] (L2.defScope (L2.inClass (top 12) 2)) := ⟨rfl, rfl, rfl, by decide +kernel, rfl, by decide +kernel, by decide +kernel⟩
set_option maxHeartbeats 4000000 in
theorem ok_Web_takers_of {fa : Addr} {fd : FuncData} (B : Base K mg cm) (F : L2.Fun K "takers_of" "Web.takers_of" (L2.inClass (top 12) 2) fa fd) : L2.FnOk P w K mg base L2.CX0 1 fa fd ["self", "h"] (SpF K cm f_Web_takers_of 2) :=
  fn_ok F sc_Web_takers_of fun cdv A outer s0 H E hr => by
    have hu := hr.units
    have hu1 := Nat.lt_of_le_of_lt (Nat.add_le_add_left (show 1 ≤ 64 by decide) _) hu
    exact (ss_one (s_ret (r_comp (N := ["giver", "taker", "h"]) [none, none, some 1] rfl (⟨rfl, rfl, by decide +kernel, by decide +kernel, (fa_cons rfl fa_nil), (fa_cons (fun h => nomatch h) (fa_cons (fun h => nomatch h) (fa_cons (fun h => nomatch h) (fa_cons (fun _ => rfl) fa_nil))))⟩) (.own (.own (.free rfl (by first | exact Or.inl rfl | exact Or.inr rfl) (by first | exact Or.inl rfl | exact Or.inr (Or.inl rfl) | exact Or.inr (Or.inr rfl)) rfl (by first | exact Or.inl rfl | exact Or.inr rfl) .nil))) (i_seq (r_fld (r_var (L2.pv 0)) (i := 1) rfl (by decide) B.cls (fun c => B.na c 1 (by decide)))) (fun _ _ _ _ => (g_tup rfl (g_cons (g_name (L2.pg_name (i := 0) (show List.Nodup (["giver", "taker", "h"] : List Str) from by decide +kernel) rfl (by first | exact Or.inl rfl | exact Or.inr rfl))) (g_cons (g_name (L2.pg_name (i := 1) (show List.Nodup (["giver", "taker", "h"] : List Str) from by decide +kernel) rfl (by first | exact Or.inl rfl | exact Or.inr rfl))) g_nil)))) (fun _ _ _ _ => (ts_one (r_tcmp (op_eqP hu) ok_eq (r_var (L2.pv 0)) (r_var (L2.pv 2)) (L2.nomark _)))) (fun _ _ _ _ => (r_var (L2.pv 1))))))
theorem sc_Web_reach : L2.FnScope ["self", "h", "without", "met", "unwalked", "walked", "taker"] ["self", "h", "without"] (L2.defScope (L2.inClass (top 12) 3)) := ⟨rfl, rfl, rfl, by decide +kernel, rfl, by decide +kernel, by decide +kernel⟩
set_option maxHeartbeats 4000000 in
theorem ok_Web_reach {fa : Addr} {fd : FuncData} (B : Base K mg cm) (D_Web_takers_of : MDef P w K mg base cm 0 "takers_of" 1 ["self", "h"] f_Web_takers_of 2) (F : FunD K "reach" "Web.reach" (L2.inClass (top 12) 3) fa fd #[.none]) : L2.FnOk P w K mg base L2.CX0 2 fa fd ["self", "h", "without"] (SpF K cm f_Web_reach 3) :=
  fn_okD F sc_Web_reach fun cdv A outer s0 H E hr => by
    have hu := hr.units
    have hu1 := Nat.lt_of_le_of_lt (Nat.add_le_add_left (show 1 ≤ 64 by decide) _) hu
    exact (ss_cons (s_set (i := 3) sc_Web_reach.nd rfl (by first | exact Or.inl rfl | exact Or.inr rfl) (r_disp1 (r_var (L2.pv 1)) r_bl))
 (ss_cons (s_set (i := 4) sc_Web_reach.nd rfl (by first | exact Or.inl rfl | exact Or.inr rfl) (r_lst (r_cons (r_var (L2.pv 1)) r_nil)))
 (ss_cons (s_while PassesOwn.never (r_tcmp (op_neP hu) ok_ne (r_var (L2.pv 4)) (r_lst r_nil) (L2.nomark _))
 (ss_cons (s_set (i := 5) sc_Web_reach.nd rfl (by first | exact Or.inl rfl | exact Or.inr rfl) (r_pop (r_var (L2.pv 4))))
 (ss_one (s_for PassesOwn.never rfl (i_seq (r_methD D_Web_takers_of (by decide) hr (B.cls _ (by decide)) (r_var (L2.pv 0)) (r_cons (r_var (L2.pv 5)) r_nil) (by decide +kernel))) (g_name (L2.pg_name (i := 6) sc_Web_reach.nd rfl (by first | exact Or.inl rfl | exact Or.inr rfl)))
 (ss_one (s_if (L2.PW.pt (r_tand (r_tcmp (op_neP hu) ok_ne (r_var (L2.pv 6)) (r_var (L2.pv 2)) (L2.nomark _)) (r_tand1 (r_tdnotin hu1 (r_var (L2.pv 6)) (r_var (L2.pv 3))))))
 (ss_cons (s_dput hu1 (r_var (L2.pv 3)) (r_var (L2.pv 6)) r_bl)
 (ss_one (s_expr (r_append (r_var (L2.pv 4)) (r_var (L2.pv 6))))))
 ss_nil))))))
 (ss_one (s_ret (r_sortedD rfl (r_var (L2.pv 3)) rfl B.b_sorted))))))
theorem sc_is_chain : L2.FnScope ["web", "leaders", "chain"] ["web", "leaders", "chain"] (L2.defScope (top 14)) := ⟨rfl, rfl, rfl, by decide +kernel, rfl, by decide +kernel, by decide +kernel⟩
set_option maxHeartbeats 4000000 in
theorem ok_is_chain {fa : Addr} {fd : FuncData} (B : Base K mg cm) (D_is_hand : Def P w K mg base cm "is_hand" 2 ["number", "value"] f_is_hand 2) (F : L2.Fun K "is_chain" "is_chain" (top 14) fa fd) : L2.FnOk P w K mg base L2.CX0 3 fa fd ["web", "leaders", "chain"] (SpF K cm f_is_chain 3) :=
  fn_ok F sc_is_chain fun cdv A outer s0 H E hr => by
    have hu := hr.units
    have hu1 := Nat.lt_of_le_of_lt (Nat.add_le_add_left (show 1 ≤ 64 by decide) _) hu
    exact (ss_cons (s_if (L2.PW.pt (r_tor (r_tcmp (op_eqP hu) ok_eq (r_var (L2.pv 2)) (r_tup r_nil) (L2.nomark _)) (r_tor1 (r_tcmp (op_notInP hu) ok_notIn (r_ix (r_var (L2.pv 2)) r_neg (fun _ _ => rfl)) (r_var (L2.pv 1)) (by rfl)))))
 (ss_one (s_ret r_bl))
 ss_nil)
 (ss_cons (s_if (L2.PW.pt (r_tor (r_tcmp L2.op_lt ok_lt (r_lenSet2 rfl (r_var (L2.pv 2)) rfl B.b_len rfl B.b_set) (r_len (r_var (L2.pv 2)) rfl B.b_len) (L2.nomark _)) (r_tor1 (r_tnot (r_tval (r_all rfl (r_comp (N := ["h", "web"]) [none, some 0] rfl (⟨rfl, rfl, by decide +kernel, by decide +kernel, (fa_cons rfl fa_nil), (fa_cons (fun h => nomatch h) (fa_cons (fun h => nomatch h) (fa_cons (fun h => nomatch h) (fa_cons (fun _ => rfl) fa_nil))))⟩) (.own (.free rfl (by first | exact Or.inl rfl | exact Or.inr rfl) (by first | exact Or.inl rfl | exact Or.inr (Or.inl rfl) | exact Or.inr (Or.inr rfl)) rfl (by first | exact Or.inl rfl | exact Or.inr rfl) .nil)) (i_seq (r_var (L2.pv 2))) (fun _ _ _ _ => (g_name (L2.pg_name (i := 0) (show List.Nodup (["h", "web"] : List Str) from by decide +kernel) rfl (by first | exact Or.inl rfl | exact Or.inr rfl)))) (fun _ _ _ _ => ts_nil) (fun _ _ _ _ => (r_callD D_is_hand (by decide) hr rfl (r_cons (r_fld (r_var (L2.pv 1)) (i := 0) rfl (by decide) B.cls (fun c => B.na c 0 (by decide))) (r_cons (r_var (L2.pv 0)) r_nil))))) rfl B.b_all))))))
 (ss_one (s_ret r_bl))
 ss_nil)
 (ss_one (s_ret (r_all rfl (r_comp (N := ["step", "web"]) [none, some 0] rfl (⟨rfl, rfl, by decide +kernel, by decide +kernel, (fa_cons rfl fa_nil), (fa_cons (fun h => nomatch h) (fa_cons (fun h => nomatch h) (fa_cons (fun _ => rfl) fa_nil)))⟩) (.own (.free rfl (by first | exact Or.inl rfl | exact Or.inr rfl) (by first | exact Or.inl rfl | exact Or.inr (Or.inl rfl) | exact Or.inr (Or.inr rfl)) rfl (by first | exact Or.inl rfl | exact Or.inr rfl) .nil)) (i_zip (fun _ _ => nofun) rfl B.b_zip (r_var (L2.pv 2)) (r_cut (r_var (L2.pv 2)) (r_lat r_int) r_lno)) (fun _ _ _ _ => (g_name (L2.pg_name (i := 0) (show List.Nodup (["step", "web"] : List Str) from by decide +kernel) rfl (by first | exact Or.inl rfl | exact Or.inr rfl)))) (fun _ _ _ _ => ts_nil) (fun _ _ _ _ => (r_cmp (op_inP hu) ok_in (r_var (L2.pv 0)) (r_fld (r_var (L2.pv 1)) (i := 1) rfl (by decide) B.cls (fun c => B.na c 1 (by decide))) (by rfl)))) rfl B.b_all)))))
theorem sc_longer_walks : L2.FnScope ["web", "walk"] ["web", "walk"] (L2.defScope (top 15)) := ⟨rfl, rfl, rfl, by decide +kernel, rfl, by decide +kernel, by decide +kernel⟩
set_option maxHeartbeats 4000000 in
theorem ok_longer_walks {fa : Addr} {fd : FuncData} (B : Base K mg cm) (D_Web_takers_of : MDef P w K mg base cm 0 "takers_of" 1 ["self", "h"] f_Web_takers_of 2) (F : L2.Fun K "longer_walks" "longer_walks" (top 15) fa fd) : L2.FnOk P w K mg base L2.CX0 2 fa fd ["web", "walk"] (SpF K cm f_longer_walks 2) :=
  fn_ok F sc_longer_walks fun cdv A outer s0 H E hr => by
    have hu := hr.units
    have hu1 := Nat.lt_of_le_of_lt (Nat.add_le_add_left (show 1 ≤ 64 by decide) _) hu
    exact (ss_one (s_ret (r_comp (N := ["taker", "walk"]) [none, some 1] rfl (⟨rfl, rfl, by decide +kernel, by decide +kernel, (fa_cons rfl fa_nil), (fa_cons (fun h => nomatch h) (fa_cons (fun h => nomatch h) (fa_cons (fun _ => rfl) fa_nil)))⟩) (.own (.free rfl (by first | exact Or.inl rfl | exact Or.inr rfl) (by first | exact Or.inl rfl | exact Or.inr (Or.inl rfl) | exact Or.inr (Or.inr rfl)) rfl (by first | exact Or.inl rfl | exact Or.inr rfl) .nil)) (i_seq (r_methD D_Web_takers_of (by decide) hr (B.cls _ (by decide)) (r_var (L2.pv 0)) (r_cons (r_ix (r_var (L2.pv 1)) r_neg (fun _ _ => rfl)) r_nil) (by decide +kernel))) (fun _ _ _ _ => (g_name (L2.pg_name (i := 0) (show List.Nodup (["taker", "walk"] : List Str) from by decide +kernel) rfl (by first | exact Or.inl rfl | exact Or.inr rfl)))) (fun _ _ _ _ => (ts_one (r_tcmp (op_notInP hu) ok_notIn (r_var (L2.pv 0)) (r_var (L2.pv 1)) (by rfl)))) (fun _ _ _ _ => (r_bin op_add3 ok_add (r_var (L2.pv 1)) (r_tup (r_cons (r_var (L2.pv 0)) r_nil)))))))
theorem sc_least_chain : L2.FnScope ["web", "x", "j", "without", "met", "walks", "walk", "longer"] ["web", "x", "j", "without"] (L2.defScope (top 16)) := ⟨rfl, rfl, rfl, by decide +kernel, rfl, by decide +kernel, by decide +kernel⟩
set_option maxHeartbeats 4000000 in
theorem ok_least_chain {fa : Addr} {fd : FuncData} (B : Base K mg cm) (D_longer_walks : Def P w K mg base cm "longer_walks" 2 ["web", "walk"] f_longer_walks 2) (F : FunD K "least_chain" "least_chain" (top 16) fa fd #[.none]) : L2.FnOk P w K mg base L2.CX0 3 fa fd ["web", "x", "j", "without"] (SpF K cm f_least_chain 4) :=
  fn_okD F sc_least_chain fun cdv A outer s0 H E hr => by
    have hu := hr.units
    have hu1 := Nat.lt_of_le_of_lt (Nat.add_le_add_left (show 1 ≤ 64 by decide) _) hu
    exact (ss_cons (s_set (i := 4) sc_least_chain.nd rfl (by first | exact Or.inl rfl | exact Or.inr rfl) (r_disp1 (r_var (L2.pv 1)) r_bl))
 (ss_cons (s_set (i := 5) sc_least_chain.nd rfl (by first | exact Or.inl rfl | exact Or.inr rfl) (r_lst (r_cons (r_tup (r_cons (r_var (L2.pv 1)) r_nil)) r_nil)))
 (ss_cons (s_while PassesOwn.never (r_tcmp (op_neP hu) ok_ne (r_var (L2.pv 5)) (r_lst r_nil) (L2.nomark _))
 (ss_cons (s_set (i := 6) sc_least_chain.nd rfl (by first | exact Or.inl rfl | exact Or.inr rfl) (r_pop0 (r_var (L2.pv 5)) r_int))
 (ss_cons (s_if (r_tcmp (op_eqP hu) ok_eq (r_ix (r_var (L2.pv 6)) r_neg (fun _ _ => rfl)) (r_var (L2.pv 2)) (L2.nomark _))
 (ss_one (s_ret (r_var (L2.pv 6))))
 ss_nil)
 (ss_one (s_for PassesOwn.never rfl (i_seq (r_callD D_longer_walks (by decide) hr rfl (r_cons (r_var (L2.pv 0)) (r_cons (r_var (L2.pv 6)) r_nil)))) (g_name (L2.pg_name (i := 7) sc_least_chain.nd rfl (by first | exact Or.inl rfl | exact Or.inr rfl)))
 (ss_one (s_if (L2.PW.pt (r_tand (r_tcmp (op_neP hu) ok_ne (r_ix (r_var (L2.pv 7)) r_neg (fun _ _ => rfl)) (r_var (L2.pv 3)) (L2.nomark _)) (r_tand1 (r_tdnotin hu1 (r_ix (r_var (L2.pv 7)) r_neg (fun _ _ => rfl)) (r_var (L2.pv 4))))))
 (ss_cons (s_dput hu1 (r_var (L2.pv 4)) (r_ix (r_var (L2.pv 7)) r_neg (fun _ _ => rfl)) r_bl)
 (ss_one (s_expr (r_append (r_var (L2.pv 5)) (r_var (L2.pv 7))))))
 ss_nil)))))))
 (ss_one (s_ret r_non)))))
theorem sc_chains_from : L2.FnScope ["web", "leaders", "x", "chains", "walks", "walk"] ["web", "leaders", "x"] (L2.defScope (top 17)) := ⟨rfl, rfl, rfl, by decide +kernel, rfl, by decide +kernel, by decide +kernel⟩
set_option maxHeartbeats 4000000 in
theorem ok_chains_from {fa : Addr} {fd : FuncData} (B : Base K mg cm) (D_longer_walks : Def P w K mg base cm "longer_walks" 2 ["web", "walk"] f_longer_walks 2) (F : L2.Fun K "chains_from" "chains_from" (top 17) fa fd) : L2.FnOk P w K mg base L2.CX0 3 fa fd ["web", "leaders", "x"] (SpF K cm f_chains_from 3) :=
  fn_ok F sc_chains_from fun cdv A outer s0 H E hr => by
    have hu := hr.units
    have hu1 := Nat.lt_of_le_of_lt (Nat.add_le_add_left (show 1 ≤ 64 by decide) _) hu
    exact (ss_cons (s_set (i := 3) sc_chains_from.nd rfl (by first | exact Or.inl rfl | exact Or.inr rfl) (r_lst r_nil))
 (ss_cons (s_set (i := 4) sc_chains_from.nd rfl (by first | exact Or.inl rfl | exact Or.inr rfl) (r_lst (r_cons (r_tup (r_cons (r_var (L2.pv 2)) r_nil)) r_nil)))
 (ss_cons (s_while PassesOwn.never (r_tcmp (op_neP hu) ok_ne (r_var (L2.pv 4)) (r_lst r_nil) (L2.nomark _))
 (ss_cons (s_set (i := 5) sc_chains_from.nd rfl (by first | exact Or.inl rfl | exact Or.inr rfl) (r_pop0 (r_var (L2.pv 4)) r_int))
 (ss_cons (s_if (r_tcmp (op_inP hu) ok_in (r_ix (r_var (L2.pv 5)) r_neg (fun _ _ => rfl)) (r_var (L2.pv 1)) (by rfl))
 (ss_one (s_expr (r_append (r_var (L2.pv 3)) (r_var (L2.pv 5)))))
 ss_nil)
 (ss_one (s_expr (r_extend (r_var (L2.pv 4)) (r_callD D_longer_walks (by decide) hr rfl (r_cons (r_var (L2.pv 0)) (r_cons (r_var (L2.pv 5)) r_nil)))))))))
 (ss_one (s_ret (r_var (L2.pv 3)))))))
theorem sc_law_cell_at : L2.FnScope ["_law_script", "_law_k"] ["_law_script", "_law_k"] (L2.defScope (top 19)) := ⟨rfl, rfl, rfl, by decide +kernel, rfl, by decide +kernel, by decide +kernel⟩
set_option maxHeartbeats 4000000 in
theorem ok_law_cell_at {fa : Addr} {fd : FuncData} (B : Base K mg cm) (F : L2.Fun K "_law_cell_at" "_law_cell_at" (top 19) fa fd) : L2.FnOk P w K mg base L2.CX0 1 fa fd ["_law_script", "_law_k"] (SpF K cm f_law_cell_at 2) :=
  fn_ok F sc_law_cell_at fun cdv A outer s0 H E hr => by
    have hu := hr.units
    have hu1 := Nat.lt_of_le_of_lt (Nat.add_le_add_left (show 1 ≤ 64 by decide) _) hu
    exact (ss_cons (s_if (r_tcmp L2.op_lt ok_lt (r_var (L2.pv 1)) (r_len (r_var (L2.pv 0)) rfl B.b_len) (L2.nomark _))
 (ss_one (s_ret (r_ix (r_var (L2.pv 0)) (r_var (L2.pv 1)) (fun _ _ => rfl))))
 ss_nil)
 (ss_one (s_ret r_int)))
theorem sc_law_stream : L2.FnScope ["_law_cell", "_law_size", "_law_found", "_law_digits", "_law_k", "_law_number"] ["_law_cell", "_law_size"] (L2.defScope (top 20)) := ⟨rfl, rfl, rfl, by decide +kernel, rfl, by decide +kernel, by decide +kernel⟩
set_option maxHeartbeats 4000000 in
theorem ok_law_stream {fa : Addr} {fd : FuncData} (B : Base K mg cm) (F : L2.Fun K "_law_stream" "_law_stream" (top 20) fa fd) : L2.FnOk P w K mg base L2.CX0 1 fa fd ["_law_cell", "_law_size"] (SpF K cm f_law_stream 2) :=
  fn_ok F sc_law_stream fun cdv A outer s0 H E hr => by
    have hu := hr.units
    have hu1 := Nat.lt_of_le_of_lt (Nat.add_le_add_left (show 1 ≤ 64 by decide) _) hu
    exact (ss_cons (s_set (i := 2) sc_law_stream.nd rfl (by first | exact Or.inl rfl | exact Or.inr rfl) (r_lst r_nil))
 (ss_cons (s_if (r_tcmp (op_eqP hu) ok_eq (r_bin L2.op_mod ok_mod (r_var (L2.pv 0)) r_int) r_int (L2.nomark _))
 (ss_cons (s_set (i := 3) sc_law_stream.nd rfl (by first | exact Or.inl rfl | exact Or.inr rfl) (r_bin L2.op_fdiv ok_fdiv (r_var (L2.pv 0)) r_int))
 (ss_cons (s_for PassesOwn.never rfl (i_rng1 rfl B.b_range (r_var (L2.pv 1))) (g_name (L2.pg_name (i := 4) sc_law_stream.nd rfl (by first | exact Or.inl rfl | exact Or.inr rfl)))
 (ss_cons (s_expr (r_append (r_var (L2.pv 2)) (r_bin L2.op_mod ok_mod (r_var (L2.pv 3)) r_int)))
 (ss_one (s_set (i := 3) sc_law_stream.nd rfl (by first | exact Or.inl rfl | exact Or.inr rfl) (r_bin L2.op_fdiv ok_fdiv (r_var (L2.pv 3)) r_int)))))
 (ss_one (s_ret (r_var (L2.pv 2))))))
 ss_nil)
 (ss_cons (s_set (i := 5) sc_law_stream.nd rfl (by first | exact Or.inl rfl | exact Or.inr rfl) (r_bin L2.op_mod ok_mod (r_bin op_add3 ok_add (r_bin L2.op_mul ok_mul (r_var (L2.pv 0)) r_int) r_int) r_int))
 (ss_cons (s_for PassesOwn.never rfl (i_rng1 rfl B.b_range (r_var (L2.pv 1))) (g_name (L2.pg_name (i := 4) sc_law_stream.nd rfl (by first | exact Or.inl rfl | exact Or.inr rfl)))
 (ss_cons (s_set (i := 5) sc_law_stream.nd rfl (by first | exact Or.inl rfl | exact Or.inr rfl) (r_bin L2.op_mod ok_mod (r_bin op_add3 ok_add (r_bin op_add3 ok_add (r_bin L2.op_mul ok_mul (r_var (L2.pv 5)) (r_bin op_add3 ok_add (r_bin L2.op_fdiv ok_fdiv (r_var (L2.pv 5)) r_int) r_int)) (r_var (L2.pv 4))) r_int) r_int))
 (ss_one (s_expr (r_append (r_var (L2.pv 2)) (r_var (L2.pv 5)))))))
 (ss_one (s_ret (r_var (L2.pv 2))))))))
theorem sc_law_web : L2.FnScope ["_law_cell", "_law_xs", "_law_number", "_law_order", "_law_found", "_law_k", "_law_giver", "_law_taker", "_law_drawn", "_law_cut"] ["_law_cell"] (L2.defScope (top 21)) := ⟨rfl, rfl, rfl, by decide +kernel, rfl, by decide +kernel, by decide +kernel⟩
set_option maxHeartbeats 4000000 in
theorem ok_law_web {fa : Addr} {fd : FuncData} (B : Base K mg cm) (D_law_stream : Def P w K mg base cm "_law_stream" 1 ["_law_cell", "_law_size"] f_law_stream 2) (F : L2.Fun K "_law_web" "_law_web" (top 21) fa fd) : L2.FnOk P w K mg base L2.CX0 2 fa fd ["_law_cell"] (SpF K cm f_law_web 1) :=
  fn_ok F sc_law_web fun cdv A outer s0 H E hr => by
    have hu := hr.units
    have hu1 := Nat.lt_of_le_of_lt (Nat.add_le_add_left (show 1 ≤ 64 by decide) _) hu
    exact (ss_cons (s_set (i := 1) sc_law_web.nd rfl (by first | exact Or.inl rfl | exact Or.inr rfl) (r_callD D_law_stream (by decide) hr rfl (r_cons (r_var (L2.pv 0)) (r_cons r_int r_nil))))
 (ss_cons (s_set (i := 2) sc_law_web.nd rfl (by first | exact Or.inl rfl | exact Or.inr rfl) (r_bin op_add3 ok_add r_int (r_bin L2.op_mod ok_mod (r_ix (r_var (L2.pv 1)) r_int (fun _ _ => rfl)) r_int)))
 (ss_cons (s_comp (N := ["_law_draw", "_law_k"]) [none, none] rfl (⟨rfl, rfl, by decide +kernel, by decide +kernel, fa_nil, (fa_cons (fun h => nomatch h) (fa_cons (fun h => nomatch h) (fa_cons (fun h => nomatch h) fa_nil)))⟩) (.own (.own .nil)) (i_seq (r_sorted hu (r_comp (N := ["_law_k", "_law_xs"]) [none, some 1] rfl (⟨rfl, rfl, by decide +kernel, by decide +kernel, (fa_cons rfl fa_nil), (fa_cons (fun h => nomatch h) (fa_cons (fun h => nomatch h) (fa_cons (fun _ => rfl) fa_nil)))⟩) (.own (.free rfl (by first | exact Or.inl rfl | exact Or.inr rfl) (by first | exact Or.inl rfl | exact Or.inr (Or.inl rfl) | exact Or.inr (Or.inr rfl)) rfl (by first | exact Or.inl rfl | exact Or.inr rfl) .nil)) (i_rng1 rfl B.b_range (r_var (L2.pv 2))) (fun _ _ _ _ => (g_name (L2.pg_name (i := 0) (show List.Nodup (["_law_k", "_law_xs"] : List Str) from by decide +kernel) rfl (by first | exact Or.inl rfl | exact Or.inr rfl)))) (fun _ _ _ _ => ts_nil) (fun _ _ _ _ => (r_tup (r_cons (r_ix (r_var (L2.pv 1)) (r_bin op_add3 ok_add r_int (r_var (L2.pv 0))) (fun _ _ => rfl)) (r_cons (r_var (L2.pv 0)) r_nil))))) rfl B.b_sorted)) (fun _ _ _ _ => (g_tup rfl (g_cons (g_name (L2.pg_name (i := 0) (show List.Nodup (["_law_draw", "_law_k"] : List Str) from by decide +kernel) rfl (by first | exact Or.inl rfl | exact Or.inr rfl))) (g_cons (g_name (L2.pg_name (i := 1) (show List.Nodup (["_law_draw", "_law_k"] : List Str) from by decide +kernel) rfl (by first | exact Or.inl rfl | exact Or.inr rfl))) g_nil)))) (fun _ _ _ _ => ts_nil) (fun _ _ _ _ => (r_var (L2.pv 1))) (i := 3) sc_law_web.nd rfl (by first | exact Or.inl rfl | exact Or.inr rfl))
 (ss_cons (s_set (i := 4) sc_law_web.nd rfl (by first | exact Or.inl rfl | exact Or.inr rfl) (r_lst r_nil))
 (ss_cons (s_if (r_tcmp L2.op_gt ok_gt (r_bin L2.op_mod ok_mod (r_ix (r_var (L2.pv 1)) r_int (fun _ _ => rfl)) r_int) r_int (L2.nomark _))
 (ss_one (s_for PassesOwn.never rfl (i_rng1 rfl B.b_range (r_var (L2.pv 2))) (g_name (L2.pg_name (i := 5) sc_law_web.nd rfl (by first | exact Or.inl rfl | exact Or.inr rfl)))
 (ss_one (s_expr (r_append (r_var (L2.pv 4)) (r_tup (r_cons (r_ix (r_var (L2.pv 3)) (r_bin L2.op_sub ok_sub (r_var (L2.pv 5)) r_int) (fun _ _ => rfl)) (r_cons (r_ix (r_var (L2.pv 3)) (r_var (L2.pv 5)) (fun _ _ => rfl)) r_nil))))))))
 ss_nil)
 (ss_cons (s_for PassesOwn.never rfl (i_rng1 rfl B.b_range (r_var (L2.pv 2))) (g_name (L2.pg_name (i := 6) sc_law_web.nd rfl (by first | exact Or.inl rfl | exact Or.inr rfl)))
 (ss_one (s_for PassesOwn.never rfl (i_rng1 rfl B.b_range (r_var (L2.pv 2))) (g_name (L2.pg_name (i := 7) sc_law_web.nd rfl (by first | exact Or.inl rfl | exact Or.inr rfl)))
 (ss_cons (s_set (i := 8) sc_law_web.nd rfl (by first | exact Or.inl rfl | exact Or.inr rfl) (r_cmp (op_eqP hu) ok_eq (r_bin L2.op_mod ok_mod (r_ix (r_var (L2.pv 1)) (r_bin op_add3 ok_add (r_bin L2.op_mul ok_mul r_int (r_var (L2.pv 6))) (r_var (L2.pv 7))) (fun _ _ => rfl)) (r_bin op_add3 ok_add r_int (r_bin L2.op_mod ok_mod (r_ix (r_var (L2.pv 1)) r_int (fun _ _ => rfl)) r_int))) r_int (L2.nomark _)))
 (ss_one (s_if (L2.PW.pt (r_tand (r_tcmp (op_neP hu) ok_ne (r_var (L2.pv 6)) (r_var (L2.pv 7)) (L2.nomark _)) (r_tand (r_tval (r_var (L2.pv 8))) (r_tand1 (r_tcmp (op_notInP hu) ok_notIn (r_tup (r_cons (r_var (L2.pv 6)) (r_cons (r_var (L2.pv 7)) r_nil))) (r_var (L2.pv 4)) (by rfl))))))
 (ss_one (s_expr (r_append (r_var (L2.pv 4)) (r_tup (r_cons (r_var (L2.pv 6)) (r_cons (r_var (L2.pv 7)) r_nil))))))
 ss_nil))))))
 (ss_cons (s_set (i := 9) sc_law_web.nd rfl (by first | exact Or.inl rfl | exact Or.inr rfl) (r_bin L2.op_mod ok_mod (r_ix (r_var (L2.pv 1)) r_int (fun _ _ => rfl)) (r_bin op_add3 ok_add (r_len (r_var (L2.pv 4)) rfl B.b_len) r_int)))
 (ss_one (s_ret (r_tup (r_cons (r_var (L2.pv 2)) (r_cons (r_bin op_add3 ok_add (r_cut (r_var (L2.pv 4)) (r_lat (r_var (L2.pv 9))) r_lno) (r_cut (r_var (L2.pv 4)) r_lno (r_lat (r_var (L2.pv 9))))) r_nil))))))))))))
theorem sc_law_leaders : L2.FnScope ["_law_cell", "_law_number", "_law_xs"] ["_law_cell", "_law_number"] (L2.defScope (top 22)) := ⟨rfl, rfl, rfl, by decide +kernel, rfl, by decide +kernel, by decide +kernel⟩
set_option maxHeartbeats 4000000 in
theorem ok_law_leaders {fa : Addr} {fd : FuncData} (B : Base K mg cm) (D_law_stream : Def P w K mg base cm "_law_stream" 1 ["_law_cell", "_law_size"] f_law_stream 2) (F : L2.Fun K "_law_leaders" "_law_leaders" (top 22) fa fd) : L2.FnOk P w K mg base L2.CX0 2 fa fd ["_law_cell", "_law_number"] (SpF K cm f_law_leaders 2) :=
  fn_ok F sc_law_leaders fun cdv A outer s0 H E hr => by
    have hu := hr.units
    have hu1 := Nat.lt_of_le_of_lt (Nat.add_le_add_left (show 1 ≤ 64 by decide) _) hu
    exact (ss_cons (s_set (i := 2) sc_law_leaders.nd rfl (by first | exact Or.inl rfl | exact Or.inr rfl) (r_callD D_law_stream (by decide) hr rfl (r_cons (r_var (L2.pv 0)) (r_cons r_int r_nil))))
 (ss_one (s_ret (r_comp (N := ["_law_hand", "_law_xs"]) [none, some 2] rfl (⟨rfl, rfl, by decide +kernel, by decide +kernel, (fa_cons rfl fa_nil), (fa_cons (fun h => nomatch h) (fa_cons (fun h => nomatch h) (fa_cons (fun _ => rfl) fa_nil)))⟩) (.own (.free rfl (by first | exact Or.inl rfl | exact Or.inr rfl) (by first | exact Or.inl rfl | exact Or.inr (Or.inl rfl) | exact Or.inr (Or.inr rfl)) rfl (by first | exact Or.inl rfl | exact Or.inr rfl) .nil)) (i_rng1 rfl B.b_range (r_var (L2.pv 1))) (fun _ _ _ _ => (g_name (L2.pg_name (i := 0) (show List.Nodup (["_law_hand", "_law_xs"] : List Str) from by decide +kernel) rfl (by first | exact Or.inl rfl | exact Or.inr rfl)))) (fun _ _ _ _ => (ts_one (r_tcmp L2.op_lt ok_lt (r_bin L2.op_mod ok_mod (r_ix (r_var (L2.pv 1)) (r_var (L2.pv 0)) (fun _ _ => rfl)) r_int) (r_bin op_add3 ok_add r_int (r_bin L2.op_mod ok_mod (r_ix (r_var (L2.pv 1)) r_int (fun _ _ => rfl)) r_int)) (L2.nomark _)))) (fun _ _ _ _ => (r_var (L2.pv 0)))))))
theorem sc_law_first : L2.FnScope ["_law_chains", "_law_j", "_law_without", "_law_chain"] ["_law_chains", "_law_j", "_law_without"] (L2.defScope (top 23)) := ⟨rfl, rfl, rfl, by decide +kernel, rfl, by decide +kernel, by decide +kernel⟩
set_option maxHeartbeats 4000000 in
theorem ok_law_first {fa : Addr} {fd : FuncData} (B : Base K mg cm) (F : L2.Fun K "_law_first" "_law_first" (top 23) fa fd) : L2.FnOk P w K mg base L2.CX0 1 fa fd ["_law_chains", "_law_j", "_law_without"] (SpF K cm f_law_first 3) :=
  fn_ok F sc_law_first fun cdv A outer s0 H E hr => by
    have hu := hr.units
    have hu1 := Nat.lt_of_le_of_lt (Nat.add_le_add_left (show 1 ≤ 64 by decide) _) hu
    exact (ss_cons (s_for PassesOwn.never rfl (i_seq (r_var (L2.pv 0))) (g_name (L2.pg_name (i := 3) sc_law_first.nd rfl (by first | exact Or.inl rfl | exact Or.inr rfl)))
 (ss_one (s_if (L2.PW.pt (r_tand (r_tcmp (op_eqP hu) ok_eq (r_ix (r_var (L2.pv 3)) r_neg (fun _ _ => rfl)) (r_var (L2.pv 1)) (L2.nomark _)) (r_tand1 (r_tcmp (op_notInP hu) ok_notIn (r_var (L2.pv 2)) (r_var (L2.pv 3)) (by rfl)))))
 (ss_one (s_ret (r_var (L2.pv 3))))
 ss_nil)))
 (ss_one (s_ret r_non)))
theorem sc_law_least : L2.FnScope ["_law_web_here", "_law_chains", "_law_x", "_law_j", "_law_without", "_law_due"] ["_law_web_here", "_law_chains", "_law_x", "_law_j", "_law_without"] (L2.defScope (top 24)) := ⟨rfl, rfl, rfl, by decide +kernel, rfl, by decide +kernel, by decide +kernel⟩
set_option maxHeartbeats 4000000 in
theorem ok_law_least {fa : Addr} {fd : FuncData} (B : Base K mg cm) (D_law_first : Def P w K mg base cm "_law_first" 1 ["_law_chains", "_law_j", "_law_without"] f_law_first 3) (DN_Web_reach : MDefN P w K mg base cm 0 "reach" 2 ["self", "h", "without"] f_Web_reach 3) (DN_least_chain : DefN P w K mg base cm "least_chain" 3 ["web", "x", "j", "without"] f_least_chain 4) (D_least_chain : Def P w K mg base cm "least_chain" 3 ["web", "x", "j", "without"] f_least_chain 4) (D_Web_reach : MDef P w K mg base cm 0 "reach" 2 ["self", "h", "without"] f_Web_reach 3) (F : L2.Fun K "_law_least" "_law_least" (top 24) fa fd) : L2.FnOk P w K mg base L2.CX0 4 fa fd ["_law_web_here", "_law_chains", "_law_x", "_law_j", "_law_without"] (SpF K cm f_law_least 5) :=
  fn_ok F sc_law_least fun cdv A outer s0 H E hr => by
    have hu := hr.units
    have hu1 := Nat.lt_of_le_of_lt (Nat.add_le_add_left (show 1 ≤ 64 by decide) _) hu
    exact (ss_cons (s_set (i := 5) sc_law_least.nd rfl (by first | exact Or.inl rfl | exact Or.inr rfl) (r_callD D_law_first (by decide) hr rfl (r_cons (r_ix (r_var (L2.pv 1)) (r_var (L2.pv 2)) (fun _ _ => rfl)) (r_cons (r_var (L2.pv 3)) (r_cons (r_var (L2.pv 4)) r_nil)))))
 (ss_cons (s_if (r_tisN (r_var (L2.pv 4)))
 (ss_one (s_ret (r_and (r_cmp (op_eqP hu) ok_eq (r_callN DN_least_chain (by decide) hr rfl (r_cons (r_var (L2.pv 0)) (r_cons (r_var (L2.pv 2)) (r_cons (r_var (L2.pv 3)) r_nil)))) (r_var (L2.pv 5)) (L2.nomark _)) (r_and1 (r_cmp (op_eqP hu) ok_eq (r_cmp (op_inP hu) ok_in (r_var (L2.pv 3)) (r_methN DN_Web_reach (by decide) hr (B.cls _ (by decide)) (r_var (L2.pv 0)) (r_cons (r_var (L2.pv 2)) r_nil) (by decide +kernel)) (by rfl)) (r_notN (r_var (L2.pv 5))) (L2.nomark _))))))
 ss_nil)
 (ss_cons (s_if (r_tcmp (op_neP hu) ok_ne (r_callD D_least_chain (by decide) hr rfl (r_cons (r_var (L2.pv 0)) (r_cons (r_var (L2.pv 2)) (r_cons (r_var (L2.pv 3)) (r_cons (r_var (L2.pv 4)) r_nil))))) (r_var (L2.pv 5)) (L2.nomark _))
 (ss_one (s_ret r_bl))
 ss_nil)
 (ss_one (s_ret (r_cmp (op_eqP hu) ok_eq (r_cmp (op_inP hu) ok_in (r_var (L2.pv 3)) (r_methD D_Web_reach (by decide) hr (B.cls _ (by decide)) (r_var (L2.pv 0)) (r_cons (r_var (L2.pv 2)) (r_cons (r_var (L2.pv 4)) r_nil)) (by decide +kernel)) (by rfl)) (r_notN (r_var (L2.pv 5))) (L2.nomark _)))))))
theorem sc_law_rests : L2.FnScope ["_law_web_here", "_law_leaders_here", "_law_chains", "_law_x", "_law_chain", "_law_rest"] ["_law_web_here", "_law_leaders_here", "_law_chains", "_law_x"] (L2.defScope (top 25)) := ⟨rfl, rfl, rfl, by decide +kernel, rfl, by decide +kernel, by decide +kernel⟩
set_option maxHeartbeats 4000000 in
theorem ok_law_rests {fa : Addr} {fd : FuncData} (B : Base K mg cm) (D_is_chain : Def P w K mg base cm "is_chain" 3 ["web", "leaders", "chain"] f_is_chain 3) (F : L2.Fun K "_law_rests" "_law_rests" (top 25) fa fd) : L2.FnOk P w K mg base L2.CX0 4 fa fd ["_law_web_here", "_law_leaders_here", "_law_chains", "_law_x"] (SpF K cm f_law_rests 4) :=
  fn_ok F sc_law_rests fun cdv A outer s0 H E hr => by
    have hu := hr.units
    have hu1 := Nat.lt_of_le_of_lt (Nat.add_le_add_left (show 1 ≤ 64 by decide) _) hu
    exact (ss_cons (s_for PassesOwn.never rfl (i_seq (r_ix (r_var (L2.pv 2)) (r_var (L2.pv 3)) (fun _ _ => rfl))) (g_name (L2.pg_name (i := 4) sc_law_rests.nd rfl (by first | exact Or.inl rfl | exact Or.inr rfl)))
 (ss_cons (s_if (r_tnot (r_tval (r_callD D_is_chain (by decide) hr rfl (r_cons (r_var (L2.pv 0)) (r_cons (r_var (L2.pv 1)) (r_cons (r_var (L2.pv 4)) r_nil))))))
 (ss_one (s_ret r_bl))
 ss_nil)
 (ss_cons (s_set (i := 5) sc_law_rests.nd rfl (by first | exact Or.inl rfl | exact Or.inr rfl) (r_cut (r_var (L2.pv 4)) (r_lat r_int) r_lno))
 (ss_cons (s_if (L2.PW.pt (r_tand (r_tcmp (op_neP hu) ok_ne (r_var (L2.pv 5)) (r_tup r_nil) (L2.nomark _)) (r_tand1 (r_tnot (r_tval (r_callD D_is_chain (by decide) hr rfl (r_cons (r_var (L2.pv 0)) (r_cons (r_var (L2.pv 1)) (r_cons (r_var (L2.pv 5)) r_nil)))))))))
 (ss_one (s_ret r_bl))
 ss_nil)
 (ss_one (s_if (L2.PW.pt (r_tand (r_tcmp (op_neP hu) ok_ne (r_var (L2.pv 5)) (r_tup r_nil) (L2.nomark _)) (r_tand1 (r_tcmp (op_notInP hu) ok_notIn (r_var (L2.pv 5)) (r_ix (r_var (L2.pv 2)) (r_ix (r_var (L2.pv 5)) r_int (fun _ _ => rfl)) (fun _ _ => rfl)) (by rfl)))))
 (ss_one (s_ret r_bl))
 ss_nil))))))
 (ss_one (s_ret r_bl)))
theorem sc_law : L2.FnScope ["_law_script", "_law_number", "_law_passings", "_law_leaders_here", "_law_web_here", "_law_chains", "_law_x", "_law_j", "_law_without"] ["_law_script"] (L2.defScope (top 26)) := ⟨rfl, rfl, rfl, by decide +kernel, rfl, by decide +kernel, by decide +kernel⟩
set_option maxHeartbeats 4000000 in
theorem ok_law {fa : Addr} {fd : FuncData} (B : Base K mg cm) (D_law_web : Def P w K mg base cm "_law_web" 2 ["_law_cell"] f_law_web 1) (D_law_cell_at : Def P w K mg base cm "_law_cell_at" 1 ["_law_script", "_law_k"] f_law_cell_at 2) (D_law_leaders : Def P w K mg base cm "_law_leaders" 2 ["_law_cell", "_law_number"] f_law_leaders 2) (D_Web_init : CDef P w K mg base cm 0 "Web" 5 ["self", "number", "passings"] f_Web_init 3) (D_chains_from : Def P w K mg base cm "chains_from" 3 ["web", "leaders", "x"] f_chains_from 3) (D_law_rests : Def P w K mg base cm "_law_rests" 4 ["_law_web_here", "_law_leaders_here", "_law_chains", "_law_x"] f_law_rests 4) (D_law_least : Def P w K mg base cm "_law_least" 4 ["_law_web_here", "_law_chains", "_law_x", "_law_j", "_law_without"] f_law_least 5) (F : L2.Fun K "law" "law" (top 26) fa fd) : L2.FnOk P w K mg base L2.CX0 7 fa fd ["_law_script"] (SpF K cm f_law 1) :=
  fn_ok F sc_law fun cdv A outer s0 H E hr => by
    have hu := hr.units
    have hu1 := Nat.lt_of_le_of_lt (Nat.add_le_add_left (show 1 ≤ 64 by decide) _) hu
    exact (ss_cons (s_asg (r_callD D_law_web (by decide) hr rfl (r_cons (r_callD D_law_cell_at (by decide) hr rfl (r_cons (r_var (L2.pv 0)) (r_cons r_int r_nil))) r_nil)) (g_tup rfl (g_cons (g_name (L2.pg_name (i := 1) sc_law.nd rfl (by first | exact Or.inl rfl | exact Or.inr rfl))) (g_cons (g_name (L2.pg_name (i := 2) sc_law.nd rfl (by first | exact Or.inl rfl | exact Or.inr rfl))) g_nil))))
 (ss_cons (s_if (r_tcmp (op_eqP hu) ok_eq (r_var (L2.pv 1)) r_int (L2.nomark _))
 (ss_cons (s_set (i := 1) sc_law.nd rfl (by first | exact Or.inl rfl | exact Or.inr rfl) r_int)
 (ss_one (s_comp (N := ["_law_pair"]) [none] rfl (⟨rfl, rfl, by decide +kernel, by decide +kernel, fa_nil, (fa_cons (fun h => nomatch h) (fa_cons (fun h => nomatch h) (fa_cons (fun h => nomatch h) fa_nil)))⟩) (.own .nil) (i_seq (r_var (L2.pv 2))) (fun _ _ _ _ => (g_name (L2.pg_name (i := 0) (show List.Nodup (["_law_pair"] : List Str) from by decide +kernel) rfl (by first | exact Or.inl rfl | exact Or.inr rfl)))) (fun _ _ _ _ => (ts_one (r_tcmp L2.op_lt ok_lt (r_maxT rfl (r_var (L2.pv 0)) rfl B.b_max) r_int (L2.nomark _)))) (fun _ _ _ _ => (r_var (L2.pv 0))) (i := 2) sc_law.nd rfl (by first | exact Or.inl rfl | exact Or.inr rfl))))
 ss_nil)
 (ss_cons (s_set (i := 3) sc_law.nd rfl (by first | exact Or.inl rfl | exact Or.inr rfl) (r_callD D_law_leaders (by decide) hr rfl (r_cons (r_callD D_law_cell_at (by decide) hr rfl (r_cons (r_var (L2.pv 0)) (r_cons r_int r_nil))) (r_cons (r_var (L2.pv 1)) r_nil))))
 (ss_cons (s_set (i := 4) sc_law.nd rfl (by first | exact Or.inl rfl | exact Or.inr rfl) (r_makeD D_Web_init (by decide) hr rfl (r_cons (r_var (L2.pv 1)) (r_cons (r_var (L2.pv 2)) r_nil))))
 (ss_cons (s_comp (N := ["_law_x", "_law_web_here", "_law_leaders_here"]) [none, some 4, some 3] rfl (⟨rfl, rfl, by decide +kernel, by decide +kernel, (fa_cons rfl (fa_cons rfl fa_nil)), (fa_cons (fun h => nomatch h) (fa_cons (fun h => nomatch h) (fa_cons (fun h => nomatch h) (fa_cons (fun _ => rfl) (fa_cons (fun _ => rfl) fa_nil)))))⟩) (.own (.free rfl (by first | exact Or.inl rfl | exact Or.inr rfl) (by first | exact Or.inl rfl | exact Or.inr (Or.inl rfl) | exact Or.inr (Or.inr rfl)) rfl (by first | exact Or.inl rfl | exact Or.inr rfl) (.free rfl (by first | exact Or.inl rfl | exact Or.inr rfl) (by first | exact Or.inl rfl | exact Or.inr (Or.inl rfl) | exact Or.inr (Or.inr rfl)) rfl (by first | exact Or.inl rfl | exact Or.inr rfl) .nil))) (i_rng1 rfl B.b_range (r_var (L2.pv 1))) (fun _ _ _ _ => (g_name (L2.pg_name (i := 0) (show List.Nodup (["_law_x", "_law_web_here", "_law_leaders_here"] : List Str) from by decide +kernel) rfl (by first | exact Or.inl rfl | exact Or.inr rfl)))) (fun _ _ _ _ => ts_nil) (fun _ _ _ _ => (r_callD D_chains_from (by decide) hr rfl (r_cons (r_var (L2.pv 1)) (r_cons (r_var (L2.pv 2)) (r_cons (r_var (L2.pv 0)) r_nil))))) (i := 5) sc_law.nd rfl (by first | exact Or.inl rfl | exact Or.inr rfl))
 (ss_cons (s_for PassesOwn.never rfl (i_rng1 rfl B.b_range (r_var (L2.pv 1))) (g_name (L2.pg_name (i := 6) sc_law.nd rfl (by first | exact Or.inl rfl | exact Or.inr rfl)))
 (ss_cons (s_if (r_tnot (r_tval (r_callD D_law_rests (by decide) hr rfl (r_cons (r_var (L2.pv 4)) (r_cons (r_var (L2.pv 3)) (r_cons (r_var (L2.pv 5)) (r_cons (r_var (L2.pv 6)) r_nil)))))))
 (ss_one (s_ret r_bl))
 ss_nil)
 (ss_one (s_for PassesOwn.never rfl (i_seq (r_var (L2.pv 3))) (g_name (L2.pg_name (i := 7) sc_law.nd rfl (by first | exact Or.inl rfl | exact Or.inr rfl)))
 (ss_one (s_for PassesOwn.never rfl (i_seq (r_bin op_add3 ok_add (r_lst (r_cons r_non r_nil)) (r_comp (N := ["_law_u", "_law_x"]) [none, some 6] rfl (⟨rfl, rfl, by decide +kernel, by decide +kernel, (fa_cons rfl fa_nil), (fa_cons (fun h => nomatch h) (fa_cons (fun h => nomatch h) (fa_cons (fun _ => rfl) fa_nil)))⟩) (.own (.free rfl (by first | exact Or.inl rfl | exact Or.inr rfl) (by first | exact Or.inl rfl | exact Or.inr (Or.inl rfl) | exact Or.inr (Or.inr rfl)) rfl (by first | exact Or.inl rfl | exact Or.inr rfl) .nil)) (i_rng1 rfl B.b_range (r_var (L2.pv 1))) (fun _ _ _ _ => (g_name (L2.pg_name (i := 0) (show List.Nodup (["_law_u", "_law_x"] : List Str) from by decide +kernel) rfl (by first | exact Or.inl rfl | exact Or.inr rfl)))) (fun _ _ _ _ => (ts_one (r_tcmp (op_neP hu) ok_ne (r_var (L2.pv 0)) (r_var (L2.pv 1)) (L2.nomark _)))) (fun _ _ _ _ => (r_var (L2.pv 0)))))) (g_name (L2.pg_name (i := 8) sc_law.nd rfl (by first | exact Or.inl rfl | exact Or.inr rfl)))
 (ss_one (s_if (r_tnot (r_tval (r_callD D_law_least (by decide) hr rfl (r_cons (r_var (L2.pv 4)) (r_cons (r_var (L2.pv 5)) (r_cons (r_var (L2.pv 6)) (r_cons (r_var (L2.pv 7)) (r_cons (r_var (L2.pv 8)) r_nil))))))))
 (ss_one (s_ret r_bl))
 ss_nil))))))))
 (ss_one (s_ret r_bl))))))))
end
theorem Web_init_non {vs : List PV} {A A' : PHp} {v : PV} (h : f_Web_init vs A = .ok v A') : v = .non := non_of (nrt_seq (nrt_if nrt_never nrt_pass) (nrt_seq nrt_asg (nrt_seq (nrt_if nrt_never nrt_pass) (nrt_seq nrt_fld nrt_fld)))) h
theorem all_mk {l : PySem.W.OpenLaw} {w : World} {K : PySem.W.Frag} {h : Heap} {mg : Str → Option Value} {fa : Addr} (X : K.In h) (G : h.Ns mainGlobals mg) (hfa : mg "law" = some (.ref fa))
  {C_Web : Addr}
  {f0 : Addr} {od0 an0 : Option Addr} {sl0 : Array (Option Value)} {oc0 kV0 dc0 pm0 cd0 ct0 : Value}
  {f1 : Addr} {od1 an1 : Option Addr} {sl1 : Array (Option Value)} {oc1 kV1 dc1 pm1 cd1 ct1 : Value}
  {f2 : Addr} {od2 an2 : Option Addr} {sl2 : Array (Option Value)} {oc2 kV2 dc2 pm2 cd2 ct2 : Value}
  {f3 : Addr} {od3 an3 : Option Addr} {sl3 : Array (Option Value)} {oc3 kV3 dc3 pm3 cd3 ct3 : Value}
  {f4 : Addr} {od4 an4 : Option Addr} {sl4 : Array (Option Value)} {oc4 kV4 dc4 pm4 cd4 ct4 : Value}
  {f5 : Addr} {od5 an5 : Option Addr} {sl5 : Array (Option Value)} {oc5 kV5 dc5 pm5 cd5 ct5 : Value}
  {f6 : Addr} {od6 an6 : Option Addr} {sl6 : Array (Option Value)} {oc6 kV6 dc6 pm6 cd6 ct6 : Value}
  {f7 : Addr} {od7 an7 : Option Addr} {sl7 : Array (Option Value)} {oc7 kV7 dc7 pm7 cd7 ct7 : Value}
  {f8 : Addr} {od8 an8 : Option Addr} {sl8 : Array (Option Value)} {oc8 kV8 dc8 pm8 cd8 ct8 : Value}
  {f9 : Addr} {od9 an9 : Option Addr} {sl9 : Array (Option Value)} {oc9 kV9 dc9 pm9 cd9 ct9 : Value}
  {f10 : Addr} {od10 an10 : Option Addr} {sl10 : Array (Option Value)} {oc10 kV10 dc10 pm10 cd10 ct10 : Value}
  {f11 : Addr} {od11 an11 : Option Addr} {sl11 : Array (Option Value)} {oc11 kV11 dc11 pm11 cd11 ct11 : Value}
  {f12 : Addr} {od12 an12 : Option Addr} {sl12 : Array (Option Value)} {oc12 kV12 dc12 pm12 cd12 ct12 : Value}
  {f13 : Addr} {od13 an13 : Option Addr} {sl13 : Array (Option Value)} {oc13 kV13 dc13 pm13 cd13 ct13 : Value}
  {f14 : Addr} {od14 an14 : Option Addr} {sl14 : Array (Option Value)} {oc14 kV14 dc14 pm14 cd14 ct14 : Value}
  {f15 : Addr} {od15 an15 : Option Addr} {sl15 : Array (Option Value)} {oc15 kV15 dc15 pm15 cd15 ct15 : Value}
  {f16 : Addr} {od16 an16 : Option Addr} {sl16 : Array (Option Value)} {oc16 kV16 dc16 pm16 cd16 ct16 : Value}
  {T16 : Addr} {tc16 : Value} {td16 : Option Addr} {tn16 : Nat} {ts16 : Array (Option Value)}
  {f17 : Addr} {od17 an17 : Option Addr} {sl17 : Array (Option Value)} {oc17 kV17 dc17 pm17 cd17 ct17 : Value}
  {T17 : Addr} {tc17 : Value} {td17 : Option Addr} {tn17 : Nat} {ts17 : Array (Option Value)}
  {f18 : Addr} {od18 an18 : Option Addr} {sl18 : Array (Option Value)} {oc18 kV18 dc18 pm18 cd18 ct18 : Value}
  {f19 : Addr} {od19 an19 : Option Addr} {sl19 : Array (Option Value)} {oc19 kV19 dc19 pm19 cd19 ct19 : Value}
  {t_FEWEST_HANDS : Tok}
  {t_MOST_HANDS : Tok}
  (aC_Web : PySem.W.nsIn K mainGlobals "Web" = some (some (.ref C_Web)))
  (a0 : PySem.W.nsIn K mainGlobals "_law_stream" = some (some (.ref f0)))
  (l0 : K.lookup f0 = some ⟨oc0, od0, .func (PySem.W.fnOf "_law_stream" "_law_stream" (L2.defArgs (top 20)) (L2.defBody (top 20)) (L2.defScope (top 20)) .none kV0 dc0 pm0 an0 cd0 ct0), sl0⟩)
  (c0 : PySem.W.codeIn K cd0 "_law_stream" = true)
  (k0 : PySem.W.keepIn K (.ref f0) = true)
  (a1 : PySem.W.nsIn K mainGlobals "_law_web" = some (some (.ref f1)))
  (l1 : K.lookup f1 = some ⟨oc1, od1, .func (PySem.W.fnOf "_law_web" "_law_web" (L2.defArgs (top 21)) (L2.defBody (top 21)) (L2.defScope (top 21)) .none kV1 dc1 pm1 an1 cd1 ct1), sl1⟩)
  (c1 : PySem.W.codeIn K cd1 "_law_web" = true)
  (k1 : PySem.W.keepIn K (.ref f1) = true)
  (a2 : PySem.W.nsIn K mainGlobals "_law_cell_at" = some (some (.ref f2)))
  (l2 : K.lookup f2 = some ⟨oc2, od2, .func (PySem.W.fnOf "_law_cell_at" "_law_cell_at" (L2.defArgs (top 19)) (L2.defBody (top 19)) (L2.defScope (top 19)) .none kV2 dc2 pm2 an2 cd2 ct2), sl2⟩)
  (c2 : PySem.W.codeIn K cd2 "_law_cell_at" = true)
  (k2 : PySem.W.keepIn K (.ref f2) = true)
  (a3 : PySem.W.nsIn K mainGlobals "_law_leaders" = some (some (.ref f3)))
  (l3 : K.lookup f3 = some ⟨oc3, od3, .func (PySem.W.fnOf "_law_leaders" "_law_leaders" (L2.defArgs (top 22)) (L2.defBody (top 22)) (L2.defScope (top 22)) .none kV3 dc3 pm3 an3 cd3 ct3), sl3⟩)
  (c3 : PySem.W.codeIn K cd3 "_law_leaders" = true)
  (k3 : PySem.W.keepIn K (.ref f3) = true)
  (a4 : PySem.W.nsIn K mainGlobals "is_whole" = some (some (.ref f4)))
  (l4 : K.lookup f4 = some ⟨oc4, od4, .func (PySem.W.fnOf "is_whole" "is_whole" (L2.defArgs (top 7)) (L2.defBody (top 7)) (L2.defScope (top 7)) .none kV4 dc4 pm4 an4 cd4 ct4), sl4⟩)
  (c4 : PySem.W.codeIn K cd4 "is_whole" = true)
  (k4 : PySem.W.keepIn K (.ref f4) = true)
  (a5 : PySem.W.nsIn K mainGlobals "is_number_of_hands" = some (some (.ref f5)))
  (l5 : K.lookup f5 = some ⟨oc5, od5, .func (PySem.W.fnOf "is_number_of_hands" "is_number_of_hands" (L2.defArgs (top 9)) (L2.defBody (top 9)) (L2.defScope (top 9)) .none kV5 dc5 pm5 an5 cd5 ct5), sl5⟩)
  (c5 : PySem.W.codeIn K cd5 "is_number_of_hands" = true)
  (k5 : PySem.W.keepIn K (.ref f5) = true)
  (a6 : PySem.W.nsIn K mainGlobals "is_hand" = some (some (.ref f6)))
  (l6 : K.lookup f6 = some ⟨oc6, od6, .func (PySem.W.fnOf "is_hand" "is_hand" (L2.defArgs (top 8)) (L2.defBody (top 8)) (L2.defScope (top 8)) .none kV6 dc6 pm6 an6 cd6 ct6), sl6⟩)
  (c6 : PySem.W.codeIn K cd6 "is_hand" = true)
  (k6 : PySem.W.keepIn K (.ref f6) = true)
  (a7 : PySem.W.nsIn K mainGlobals "is_passing" = some (some (.ref f7)))
  (l7 : K.lookup f7 = some ⟨oc7, od7, .func (PySem.W.fnOf "is_passing" "is_passing" (L2.defArgs (top 10)) (L2.defBody (top 10)) (L2.defScope (top 10)) .none kV7 dc7 pm7 an7 cd7 ct7), sl7⟩)
  (c7 : PySem.W.codeIn K cd7 "is_passing" = true)
  (k7 : PySem.W.keepIn K (.ref f7) = true)
  (a8 : PySem.W.nsIn K mainGlobals "first_wrong_passing" = some (some (.ref f8)))
  (l8 : K.lookup f8 = some ⟨oc8, od8, .func (PySem.W.fnOf "first_wrong_passing" "first_wrong_passing" (L2.defArgs (top 11)) (L2.defBody (top 11)) (L2.defScope (top 11)) .none kV8 dc8 pm8 an8 cd8 ct8), sl8⟩)
  (c8 : PySem.W.codeIn K cd8 "first_wrong_passing" = true)
  (k8 : PySem.W.keepIn K (.ref f8) = true)
  (a9 : PySem.W.findIn K (.ref C_Web) "__init__" = some (some (.ref f9)))
  (i9 : PySem.W.isFn K (.ref f9) = true)
  (l9 : K.lookup f9 = some ⟨oc9, od9, .func (PySem.W.fnOf "__init__" "Web.__init__" (L2.defArgs (L2.inClass (top 12) 0)) (L2.defBody (L2.inClass (top 12) 0)) (L2.defScope (L2.inClass (top 12) 0)) .none kV9 dc9 pm9 an9 cd9 ct9), sl9⟩)
  (c9 : PySem.W.codeIn K cd9 "Web.__init__" = true)
  (k9 : PySem.W.keepIn K (.ref f9) = true)
  (a10 : PySem.W.findIn K (.ref C_Web) "takers_of" = some (some (.ref f10)))
  (i10 : PySem.W.isFn K (.ref f10) = true)
  (l10 : K.lookup f10 = some ⟨oc10, od10, .func (PySem.W.fnOf "takers_of" "Web.takers_of" (L2.defArgs (L2.inClass (top 12) 2)) (L2.defBody (L2.inClass (top 12) 2)) (L2.defScope (L2.inClass (top 12) 2)) .none kV10 dc10 pm10 an10 cd10 ct10), sl10⟩)
  (c10 : PySem.W.codeIn K cd10 "Web.takers_of" = true)
  (k10 : PySem.W.keepIn K (.ref f10) = true)
  (a11 : PySem.W.nsIn K mainGlobals "longer_walks" = some (some (.ref f11)))
  (l11 : K.lookup f11 = some ⟨oc11, od11, .func (PySem.W.fnOf "longer_walks" "longer_walks" (L2.defArgs (top 15)) (L2.defBody (top 15)) (L2.defScope (top 15)) .none kV11 dc11 pm11 an11 cd11 ct11), sl11⟩)
  (c11 : PySem.W.codeIn K cd11 "longer_walks" = true)
  (k11 : PySem.W.keepIn K (.ref f11) = true)
  (a12 : PySem.W.nsIn K mainGlobals "chains_from" = some (some (.ref f12)))
  (l12 : K.lookup f12 = some ⟨oc12, od12, .func (PySem.W.fnOf "chains_from" "chains_from" (L2.defArgs (top 17)) (L2.defBody (top 17)) (L2.defScope (top 17)) .none kV12 dc12 pm12 an12 cd12 ct12), sl12⟩)
  (c12 : PySem.W.codeIn K cd12 "chains_from" = true)
  (k12 : PySem.W.keepIn K (.ref f12) = true)
  (a13 : PySem.W.nsIn K mainGlobals "is_chain" = some (some (.ref f13)))
  (l13 : K.lookup f13 = some ⟨oc13, od13, .func (PySem.W.fnOf "is_chain" "is_chain" (L2.defArgs (top 14)) (L2.defBody (top 14)) (L2.defScope (top 14)) .none kV13 dc13 pm13 an13 cd13 ct13), sl13⟩)
  (c13 : PySem.W.codeIn K cd13 "is_chain" = true)
  (k13 : PySem.W.keepIn K (.ref f13) = true)
  (a14 : PySem.W.nsIn K mainGlobals "_law_rests" = some (some (.ref f14)))
  (l14 : K.lookup f14 = some ⟨oc14, od14, .func (PySem.W.fnOf "_law_rests" "_law_rests" (L2.defArgs (top 25)) (L2.defBody (top 25)) (L2.defScope (top 25)) .none kV14 dc14 pm14 an14 cd14 ct14), sl14⟩)
  (c14 : PySem.W.codeIn K cd14 "_law_rests" = true)
  (k14 : PySem.W.keepIn K (.ref f14) = true)
  (a15 : PySem.W.nsIn K mainGlobals "_law_first" = some (some (.ref f15)))
  (l15 : K.lookup f15 = some ⟨oc15, od15, .func (PySem.W.fnOf "_law_first" "_law_first" (L2.defArgs (top 23)) (L2.defBody (top 23)) (L2.defScope (top 23)) .none kV15 dc15 pm15 an15 cd15 ct15), sl15⟩)
  (c15 : PySem.W.codeIn K cd15 "_law_first" = true)
  (k15 : PySem.W.keepIn K (.ref f15) = true)
  (a16 : PySem.W.findIn K (.ref C_Web) "reach" = some (some (.ref f16)))
  (i16 : PySem.W.isFn K (.ref f16) = true)
  (l16 : K.lookup f16 = some ⟨oc16, od16, .func (PySem.W.fnOf "reach" "Web.reach" (L2.defArgs (L2.inClass (top 12) 3)) (L2.defBody (L2.inClass (top 12) 3)) (L2.defScope (L2.inClass (top 12) 3)) (.ref T16) kV16 dc16 pm16 an16 cd16 ct16), sl16⟩)
  (c16 : PySem.W.codeIn K cd16 "Web.reach" = true)
  (k16 : PySem.W.keepIn K (.ref f16) = true)
  (t16 : K.lookup T16 = some ⟨tc16, td16, .seq #[.none] tn16, ts16⟩)
  (a17 : PySem.W.nsIn K mainGlobals "least_chain" = some (some (.ref f17)))
  (l17 : K.lookup f17 = some ⟨oc17, od17, .func (PySem.W.fnOf "least_chain" "least_chain" (L2.defArgs (top 16)) (L2.defBody (top 16)) (L2.defScope (top 16)) (.ref T17) kV17 dc17 pm17 an17 cd17 ct17), sl17⟩)
  (c17 : PySem.W.codeIn K cd17 "least_chain" = true)
  (k17 : PySem.W.keepIn K (.ref f17) = true)
  (t17 : K.lookup T17 = some ⟨tc17, td17, .seq #[.none] tn17, ts17⟩)
  (a18 : PySem.W.nsIn K mainGlobals "_law_least" = some (some (.ref f18)))
  (l18 : K.lookup f18 = some ⟨oc18, od18, .func (PySem.W.fnOf "_law_least" "_law_least" (L2.defArgs (top 24)) (L2.defBody (top 24)) (L2.defScope (top 24)) .none kV18 dc18 pm18 an18 cd18 ct18), sl18⟩)
  (c18 : PySem.W.codeIn K cd18 "_law_least" = true)
  (k18 : PySem.W.keepIn K (.ref f18) = true)
  (a19 : PySem.W.nsIn K mainGlobals "law" = some (some (.ref f19)))
  (l19 : K.lookup f19 = some ⟨oc19, od19, .func (PySem.W.fnOf "law" "law" (L2.defArgs (top 26)) (L2.defBody (top 26)) (L2.defScope (top 26)) .none kV19 dc19 pm19 an19 cd19 ct19), sl19⟩)
  (c19 : PySem.W.codeIn K cd19 "law" = true)
  (k19 : PySem.W.keepIn K (.ref f19) = true)
  (pg_Web : PySem.W.plainGet K C_Web Str.empty = true)
  (hd_Web : PySem.W.hasDictIn K C_Web = true)
  (po_Web : PySem.W.plainOver K C_Web = true)
  (sa_Web : PySem.W.findIn K (.ref C_Web) "__setattr__" = some (some (.builtin "object.__setattr__")))
  (mk_Web : PySem.W.makesIn K C_Web = true)
  (kc_Web : PySem.W.keepIn K (.ref C_Web) = true)
  (n0_Web : PySem.W.findIn K (.ref C_Web) "number" = some none)
  (n1_Web : PySem.W.findIn K (.ref C_Web) "passings" = some none)
  (n2_Web : PySem.W.findIn K (.ref C_Web) "at" = some none)
  (n3_Web : PySem.W.findIn K (.ref C_Web) "web" = some none)
  (n4_Web : PySem.W.findIn K (.ref C_Web) "leaders" = some none)
  (n5_Web : PySem.W.findIn K (.ref C_Web) "limits" = some none)
  (n6_Web : PySem.W.findIn K (.ref C_Web) "plan" = some none)
  (n7_Web : PySem.W.findIn K (.ref C_Web) "free" = some none)
  (n8_Web : PySem.W.findIn K (.ref C_Web) "ledger" = some none)
  (n9_Web : PySem.W.findIn K (.ref C_Web) "kept_leaders" = some none)
  (n10_Web : PySem.W.findIn K (.ref C_Web) "kept_limits" = some none)
  (n11_Web : PySem.W.findIn K (.ref C_Web) "kept_free" = some none)
  (n12_Web : PySem.W.findIn K (.ref C_Web) "now" = some none)
  (n13_Web : PySem.W.findIn K (.ref C_Web) "turns_of_lays" = some none)
  (n14_Web : PySem.W.findIn K (.ref C_Web) "sayings" = some none)
  (n15_Web : PySem.W.findIn K (.ref C_Web) "first_turns" = some none)
  (n16_Web : PySem.W.findIn K (.ref C_Web) "does" = some none)
  (n17_Web : PySem.W.findIn K (.ref C_Web) "me" = some none)
  (n18_Web : PySem.W.findIn K (.ref C_Web) "open_boxes" = some none)
  (g_FEWEST_HANDS : PySem.W.nsIn K mainGlobals "FEWEST_HANDS" = some (some (.int 2 t_FEWEST_HANDS)))
  (g_MOST_HANDS : PySem.W.nsIn K mainGlobals "MOST_HANDS" = some (some (.int 6 t_MOST_HANDS)))
  (z_len : PySem.W.nsIn K mainGlobals "len" = some none)
  (z_range : PySem.W.nsIn K mainGlobals "range" = some none)
  (z_list : PySem.W.nsIn K mainGlobals "list" = some none)
  (z_sorted : PySem.W.nsIn K mainGlobals "sorted" = some none)
  (z_isinstance : PySem.W.nsIn K mainGlobals "isinstance" = some none)
  (z_int : PySem.W.nsIn K mainGlobals "int" = some none)
  (z_bool : PySem.W.nsIn K mainGlobals "bool" = some none)
  (z_tuple : PySem.W.nsIn K mainGlobals "tuple" = some none)
  (z_enumerate : PySem.W.nsIn K mainGlobals "enumerate" = some none)
  (z_reversed : PySem.W.nsIn K mainGlobals "reversed" = some none)
  (z_max : PySem.W.nsIn K mainGlobals "max" = some none)
  (z_min : PySem.W.nsIn K mainGlobals "min" = some none)
  (z_all : PySem.W.nsIn K mainGlobals "all" = some none)
  (z_any : PySem.W.nsIn K mainGlobals "any" = some none)
  (z_set : PySem.W.nsIn K mainGlobals "set" = some none)
  (z_zip : PySem.W.nsIn K mainGlobals "zip" = some none)
  (z_dict : PySem.W.nsIn K mainGlobals "dict" = some none) :
  ∃ fd : FuncData, (∀ (s : Shared) (v : Value), BindsTo s fd ⟨[v], []⟩ [("_law_script", v)]) ∧ ∀ base : Heap, K.In base → base.Ns mainGlobals mg → L2.FnOk l.prog w K mg base L2.CX0 7 fa fd ["_law_script"] (SpLaw K) := by
  have e := hfa.symm.trans (PySem.W.mg_of X G a19)
  cases e
  have B : Base K mg (fun _ => C_Web) := by
    exact ⟨kit_all K, fun _ _ => ⟨pg_Web, hd_Web, po_Web, sa_Web⟩, fun _ i hi _ => match i, hi with | 0, _ => n0_Web | 1, _ => n1_Web | 2, _ => n2_Web | 3, _ => n3_Web | 4, _ => n4_Web | 5, _ => n5_Web | 6, _ => n6_Web | 7, _ => n7_Web | 8, _ => n8_Web | 9, _ => n9_Web | 10, _ => n10_Web | 11, _ => n11_Web | 12, _ => n12_Web | 13, _ => n13_Web | 14, _ => n14_Web | 15, _ => n15_Web | 16, _ => n16_Web | 17, _ => n17_Web | 18, _ => n18_Web | i + 19, hi => absurd hi (by omega), PySem.W.mg_none_of X G z_len, PySem.W.mg_none_of X G z_range, PySem.W.mg_none_of X G z_list, PySem.W.mg_none_of X G z_sorted, PySem.W.mg_none_of X G z_isinstance, PySem.W.mg_none_of X G z_int, PySem.W.mg_none_of X G z_bool, PySem.W.mg_none_of X G z_tuple, PySem.W.mg_none_of X G z_enumerate, PySem.W.mg_none_of X G z_reversed, PySem.W.mg_none_of X G z_max, PySem.W.mg_none_of X G z_min, PySem.W.mg_none_of X G z_all, PySem.W.mg_none_of X G z_any, PySem.W.mg_none_of X G z_set, PySem.W.mg_none_of X G z_zip, PySem.W.mg_none_of X G z_dict⟩
  have GL : Glob mg := ⟨⟨_, PySem.W.mg_of X G g_FEWEST_HANDS⟩, ⟨_, PySem.W.mg_of X G g_MOST_HANDS⟩⟩
  have F0 := L2.fun_mk (st := (top 20)) l0 c0 k0
  have b0 := F0.binds (ps := ["_law_cell", "_law_size"]) fun _ _ _ _ _ _ us hl => match us, hl with | [_, _], _ => rfl
  have F1 := L2.fun_mk (st := (top 21)) l1 c1 k1
  have b1 := F1.binds (ps := ["_law_cell"]) fun _ _ _ _ _ _ us hl => match us, hl with | [_], _ => rfl
  have F2 := L2.fun_mk (st := (top 19)) l2 c2 k2
  have b2 := F2.binds (ps := ["_law_script", "_law_k"]) fun _ _ _ _ _ _ us hl => match us, hl with | [_, _], _ => rfl
  have F3 := L2.fun_mk (st := (top 22)) l3 c3 k3
  have b3 := F3.binds (ps := ["_law_cell", "_law_number"]) fun _ _ _ _ _ _ us hl => match us, hl with | [_, _], _ => rfl
  have F4 := L2.fun_mk (st := (top 7)) l4 c4 k4
  have b4 := F4.binds (ps := ["value"]) fun _ _ _ _ _ _ us hl => match us, hl with | [_], _ => rfl
  have F5 := L2.fun_mk (st := (top 9)) l5 c5 k5
  have b5 := F5.binds (ps := ["value"]) fun _ _ _ _ _ _ us hl => match us, hl with | [_], _ => rfl
  have F6 := L2.fun_mk (st := (top 8)) l6 c6 k6
  have b6 := F6.binds (ps := ["number", "value"]) fun _ _ _ _ _ _ us hl => match us, hl with | [_, _], _ => rfl
  have F7 := L2.fun_mk (st := (top 10)) l7 c7 k7
  have b7 := F7.binds (ps := ["number", "value"]) fun _ _ _ _ _ _ us hl => match us, hl with | [_, _], _ => rfl
  have F8 := L2.fun_mk (st := (top 11)) l8 c8 k8
  have b8 := F8.binds (ps := ["number", "passings"]) fun _ _ _ _ _ _ us hl => match us, hl with | [_, _], _ => rfl
  have F9 := L2.fun_mk (st := (L2.inClass (top 12) 0)) l9 c9 k9
  have b9 := F9.binds (ps := ["self", "number", "passings"]) fun _ _ _ _ _ _ us hl => match us, hl with | [_, _, _], _ => rfl
  have F10 := L2.fun_mk (st := (L2.inClass (top 12) 2)) l10 c10 k10
  have b10 := F10.binds (ps := ["self", "h"]) fun _ _ _ _ _ _ us hl => match us, hl with | [_, _], _ => rfl
  have F11 := L2.fun_mk (st := (top 15)) l11 c11 k11
  have b11 := F11.binds (ps := ["web", "walk"]) fun _ _ _ _ _ _ us hl => match us, hl with | [_, _], _ => rfl
  have F12 := L2.fun_mk (st := (top 17)) l12 c12 k12
  have b12 := F12.binds (ps := ["web", "leaders", "x"]) fun _ _ _ _ _ _ us hl => match us, hl with | [_, _, _], _ => rfl
  have F13 := L2.fun_mk (st := (top 14)) l13 c13 k13
  have b13 := F13.binds (ps := ["web", "leaders", "chain"]) fun _ _ _ _ _ _ us hl => match us, hl with | [_, _, _], _ => rfl
  have F14 := L2.fun_mk (st := (top 25)) l14 c14 k14
  have b14 := F14.binds (ps := ["_law_web_here", "_law_leaders_here", "_law_chains", "_law_x"]) fun _ _ _ _ _ _ us hl => match us, hl with | [_, _, _, _], _ => rfl
  have F15 := L2.fun_mk (st := (top 23)) l15 c15 k15
  have b15 := F15.binds (ps := ["_law_chains", "_law_j", "_law_without"]) fun _ _ _ _ _ _ us hl => match us, hl with | [_, _, _], _ => rfl
  have F16 := funD_mk (st := (L2.inClass (top 12) 3)) l16 c16 k16 t16
  have b16 := F16.binds (ps := ["self", "h", "without"]) (ds := []) 3 rfl fun _ _ _ _ _ _ _ us hl => match us, hl with | [_, _, _], _ => ⟨_, rfl, rfl⟩
  have bN16 := F16.binds (ps := ["self", "h", "without"]) (ds := [.none]) 2 rfl fun _ _ _ _ _ _ _ us hl => match us, hl with | [_, _], _ => ⟨_, rfl, rfl⟩
  have F17 := funD_mk (st := (top 16)) l17 c17 k17 t17
  have b17 := F17.binds (ps := ["web", "x", "j", "without"]) (ds := []) 4 rfl fun _ _ _ _ _ _ _ us hl => match us, hl with | [_, _, _, _], _ => ⟨_, rfl, rfl⟩
  have bN17 := F17.binds (ps := ["web", "x", "j", "without"]) (ds := [.none]) 3 rfl fun _ _ _ _ _ _ _ us hl => match us, hl with | [_, _, _], _ => ⟨_, rfl, rfl⟩
  have F18 := L2.fun_mk (st := (top 24)) l18 c18 k18
  have b18 := F18.binds (ps := ["_law_web_here", "_law_chains", "_law_x", "_law_j", "_law_without"]) fun _ _ _ _ _ _ us hl => match us, hl with | [_, _, _, _, _], _ => rfl
  have F19 := L2.fun_mk (st := (top 26)) l19 c19 k19
  refine ⟨PySem.W.fnOf "law" "law" (L2.defArgs (top 26)) (L2.defBody (top 26)) (L2.defScope (top 26)) .none kV19 dc19 pm19 an19 cd19 ct19, fun s v => .of_eq rfl, fun base _ _ => ?_⟩
  have O0 := ok_law_stream (P := l.prog) (w := w) (base := base) B F0
  have D_law_stream : Def l.prog w K mg base (fun _ => C_Web) "_law_stream" 1 ["_law_cell", "_law_size"] f_law_stream 2 := ⟨⟨_, _, O0, PySem.W.mg_of X G a0, k0, b0⟩, fun vs A v A' h => fn_len h⟩
  have O1 := ok_law_web (P := l.prog) (w := w) (base := base) B D_law_stream F1
  have D_law_web : Def l.prog w K mg base (fun _ => C_Web) "_law_web" 2 ["_law_cell"] f_law_web 1 := ⟨⟨_, _, O1, PySem.W.mg_of X G a1, k1, b1⟩, fun vs A v A' h => fn_len h⟩
  have O2 := ok_law_cell_at (P := l.prog) (w := w) (base := base) B F2
  have D_law_cell_at : Def l.prog w K mg base (fun _ => C_Web) "_law_cell_at" 1 ["_law_script", "_law_k"] f_law_cell_at 2 := ⟨⟨_, _, O2, PySem.W.mg_of X G a2, k2, b2⟩, fun vs A v A' h => fn_len h⟩
  have O3 := ok_law_leaders (P := l.prog) (w := w) (base := base) B D_law_stream F3
  have D_law_leaders : Def l.prog w K mg base (fun _ => C_Web) "_law_leaders" 2 ["_law_cell", "_law_number"] f_law_leaders 2 := ⟨⟨_, _, O3, PySem.W.mg_of X G a3, k3, b3⟩, fun vs A v A' h => fn_len h⟩
  have O4 := ok_is_whole (P := l.prog) (w := w) (base := base) B F4
  have D_is_whole : Def l.prog w K mg base (fun _ => C_Web) "is_whole" 1 ["value"] f_is_whole 1 := ⟨⟨_, _, O4, PySem.W.mg_of X G a4, k4, b4⟩, fun vs A v A' h => fn_len h⟩
  have O5 := ok_is_number_of_hands (P := l.prog) (w := w) (base := base) B GL D_is_whole F5
  have D_is_number_of_hands : Def l.prog w K mg base (fun _ => C_Web) "is_number_of_hands" 2 ["value"] f_is_number_of_hands 1 := ⟨⟨_, _, O5, PySem.W.mg_of X G a5, k5, b5⟩, fun vs A v A' h => fn_len h⟩
  have O6 := ok_is_hand (P := l.prog) (w := w) (base := base) B D_is_whole F6
  have D_is_hand : Def l.prog w K mg base (fun _ => C_Web) "is_hand" 2 ["number", "value"] f_is_hand 2 := ⟨⟨_, _, O6, PySem.W.mg_of X G a6, k6, b6⟩, fun vs A v A' h => fn_len h⟩
  have O7 := ok_is_passing (P := l.prog) (w := w) (base := base) B D_is_hand F7
  have D_is_passing : Def l.prog w K mg base (fun _ => C_Web) "is_passing" 3 ["number", "value"] f_is_passing 2 := ⟨⟨_, _, O7, PySem.W.mg_of X G a7, k7, b7⟩, fun vs A v A' h => fn_len h⟩
  have O8 := ok_first_wrong_passing (P := l.prog) (w := w) (base := base) B D_is_passing F8
  have D_first_wrong_passing : Def l.prog w K mg base (fun _ => C_Web) "first_wrong_passing" 4 ["number", "passings"] f_first_wrong_passing 2 := ⟨⟨_, _, O8, PySem.W.mg_of X G a8, k8, b8⟩, fun vs A v A' h => fn_len h⟩
  have O9 := ok_Web_init (P := l.prog) (w := w) (base := base) B D_is_number_of_hands D_first_wrong_passing F9
  have D_Web_init : CDef l.prog w K mg base (fun _ => C_Web) 0 "Web" 5 ["self", "number", "passings"] f_Web_init 3 := ⟨⟨_, _, O9, ⟨mk_Web, a9, i9, kc_Web⟩, PySem.W.mg_of X G aC_Web, b9⟩, fun vs A v A' h => ⟨fn_len h, Web_init_non h⟩⟩
  have O10 := ok_Web_takers_of (P := l.prog) (w := w) (base := base) B F10
  have D_Web_takers_of : MDef l.prog w K mg base (fun _ => C_Web) 0 "takers_of" 1 ["self", "h"] f_Web_takers_of 2 := ⟨⟨_, _, O10, ⟨a10, i10, k10⟩, b10⟩, fun vs A v A' h => fn_len h⟩
  have O11 := ok_longer_walks (P := l.prog) (w := w) (base := base) B D_Web_takers_of F11
  have D_longer_walks : Def l.prog w K mg base (fun _ => C_Web) "longer_walks" 2 ["web", "walk"] f_longer_walks 2 := ⟨⟨_, _, O11, PySem.W.mg_of X G a11, k11, b11⟩, fun vs A v A' h => fn_len h⟩
  have O12 := ok_chains_from (P := l.prog) (w := w) (base := base) B D_longer_walks F12
  have D_chains_from : Def l.prog w K mg base (fun _ => C_Web) "chains_from" 3 ["web", "leaders", "x"] f_chains_from 3 := ⟨⟨_, _, O12, PySem.W.mg_of X G a12, k12, b12⟩, fun vs A v A' h => fn_len h⟩
  have O13 := ok_is_chain (P := l.prog) (w := w) (base := base) B D_is_hand F13
  have D_is_chain : Def l.prog w K mg base (fun _ => C_Web) "is_chain" 3 ["web", "leaders", "chain"] f_is_chain 3 := ⟨⟨_, _, O13, PySem.W.mg_of X G a13, k13, b13⟩, fun vs A v A' h => fn_len h⟩
  have O14 := ok_law_rests (P := l.prog) (w := w) (base := base) B D_is_chain F14
  have D_law_rests : Def l.prog w K mg base (fun _ => C_Web) "_law_rests" 4 ["_law_web_here", "_law_leaders_here", "_law_chains", "_law_x"] f_law_rests 4 := ⟨⟨_, _, O14, PySem.W.mg_of X G a14, k14, b14⟩, fun vs A v A' h => fn_len h⟩
  have O15 := ok_law_first (P := l.prog) (w := w) (base := base) B F15
  have D_law_first : Def l.prog w K mg base (fun _ => C_Web) "_law_first" 1 ["_law_chains", "_law_j", "_law_without"] f_law_first 3 := ⟨⟨_, _, O15, PySem.W.mg_of X G a15, k15, b15⟩, fun vs A v A' h => fn_len h⟩
  have O16 := ok_Web_reach (P := l.prog) (w := w) (base := base) B D_Web_takers_of F16
  have DN_Web_reach : MDefN l.prog w K mg base (fun _ => C_Web) 0 "reach" 2 ["self", "h", "without"] f_Web_reach 3 := ⟨⟨_, _, O16, ⟨a16, i16, k16⟩, bN16⟩, fun vs A v A' h => fn_len h⟩
  have D_Web_reach : MDef l.prog w K mg base (fun _ => C_Web) 0 "reach" 2 ["self", "h", "without"] f_Web_reach 3 := ⟨⟨_, _, O16, ⟨a16, i16, k16⟩, b16⟩, fun vs A v A' h => fn_len h⟩
  have O17 := ok_least_chain (P := l.prog) (w := w) (base := base) B D_longer_walks F17
  have DN_least_chain : DefN l.prog w K mg base (fun _ => C_Web) "least_chain" 3 ["web", "x", "j", "without"] f_least_chain 4 := ⟨⟨_, _, O17, PySem.W.mg_of X G a17, k17, bN17⟩, fun vs A v A' h => fn_len h⟩
  have D_least_chain : Def l.prog w K mg base (fun _ => C_Web) "least_chain" 3 ["web", "x", "j", "without"] f_least_chain 4 := ⟨⟨_, _, O17, PySem.W.mg_of X G a17, k17, b17⟩, fun vs A v A' h => fn_len h⟩
  have O18 := ok_law_least (P := l.prog) (w := w) (base := base) B D_law_first DN_Web_reach DN_least_chain D_least_chain D_Web_reach F18
  have D_law_least : Def l.prog w K mg base (fun _ => C_Web) "_law_least" 4 ["_law_web_here", "_law_chains", "_law_x", "_law_j", "_law_without"] f_law_least 5 := ⟨⟨_, _, O18, PySem.W.mg_of X G a18, k18, b18⟩, fun vs A v A' h => fn_len h⟩
  have O19 := ok_law (P := l.prog) (w := w) (base := base) B D_law_web D_law_cell_at D_law_leaders D_Web_init D_chains_from D_law_rests D_law_least F19
  exact O19.imp fun vs H Q E q => law_sp law_pure vs H Q E q
end Ws
open PySem PySem.W PyProof.Rows
set_option maxRecDepth 100000 in
set_option maxHeartbeats 0 in
theorem PySem.Challenge.cw_wordswap_k14_whole_chains_and_ways_holds : PySem.Challenge.rw_wordswap_k14_whole_chains_and_ways.Holds := by
  w_on; o_law; k_head; (case hw => w_witness2)
  k_fill
  refine Ws.law_walk (l := PySem.Challenge.rw_wordswap_k14_whole_chains_and_ways) (k := 7) (x := "_law_script") rfl rfl ⟨rfl, by decide, by decide⟩ (fun w h Y => PySem.W.kIn_of Y) ?F
  case F =>
    intro w mg fa h KX G hmg
    refine' Ws.all_mk KX G hmg ?aC_Web ?a0 ?l0 ?c0 ?k0 ?a1 ?l1 ?c1 ?k1 ?a2 ?l2 ?c2 ?k2 ?a3 ?l3 ?c3 ?k3 ?a4 ?l4 ?c4 ?k4 ?a5 ?l5 ?c5 ?k5 ?a6 ?l6 ?c6 ?k6 ?a7 ?l7 ?c7 ?k7 ?a8 ?l8 ?c8 ?k8 ?a9 ?i9 ?l9 ?c9 ?k9 ?a10 ?i10 ?l10 ?c10 ?k10 ?a11 ?l11 ?c11 ?k11 ?a12 ?l12 ?c12 ?k12 ?a13 ?l13 ?c13 ?k13 ?a14 ?l14 ?c14 ?k14 ?a15 ?l15 ?c15 ?k15 ?a16 ?i16 ?l16 ?c16 ?k16 ?t16 ?a17 ?l17 ?c17 ?k17 ?t17 ?a18 ?l18 ?c18 ?k18 ?a19 ?l19 ?c19 ?k19 ?pg_Web ?hd_Web ?po_Web ?sa_Web ?mk_Web ?kc_Web ?n0_Web ?n1_Web ?n2_Web ?n3_Web ?n4_Web ?n5_Web ?n6_Web ?n7_Web ?n8_Web ?n9_Web ?n10_Web ?n11_Web ?n12_Web ?n13_Web ?n14_Web ?n15_Web ?n16_Web ?n17_Web ?n18_Web ?g_FEWEST_HANDS ?g_MOST_HANDS ?z_len ?z_range ?z_list ?z_sorted ?z_isinstance ?z_int ?z_bool ?z_tuple ?z_enumerate ?z_reversed ?z_max ?z_min ?z_all ?z_any ?z_set ?z_zip ?z_dict
    (case aC_Web => k_is)
    (case a0 => k_is)
    (case l0 => k_is)
    (case c0 => k_is)
    (case k0 => k_is)
    (case a1 => k_is)
    (case l1 => k_is)
    (case c1 => k_is)
    (case k1 => k_is)
    (case a2 => k_is)
    (case l2 => k_is)
    (case c2 => k_is)
    (case k2 => k_is)
    (case a3 => k_is)
    (case l3 => k_is)
    (case c3 => k_is)
    (case k3 => k_is)
    (case a4 => k_is)
    (case l4 => k_is)
    (case c4 => k_is)
    (case k4 => k_is)
    (case a5 => k_is)
    (case l5 => k_is)
    (case c5 => k_is)
    (case k5 => k_is)
    (case a6 => k_is)
    (case l6 => k_is)
    (case c6 => k_is)
    (case k6 => k_is)
    (case a7 => k_is)
    (case l7 => k_is)
    (case c7 => k_is)
    (case k7 => k_is)
    (case a8 => k_is)
    (case l8 => k_is)
    (case c8 => k_is)
    (case k8 => k_is)
    (case a9 => k_is)
    (case i9 => k_is)
    (case l9 => k_is)
    (case c9 => k_is)
    (case k9 => k_is)
    (case a10 => k_is)
    (case i10 => k_is)
    (case l10 => k_is)
    (case c10 => k_is)
    (case k10 => k_is)
    (case a11 => k_is)
    (case l11 => k_is)
    (case c11 => k_is)
    (case k11 => k_is)
    (case a12 => k_is)
    (case l12 => k_is)
    (case c12 => k_is)
    (case k12 => k_is)
    (case a13 => k_is)
    (case l13 => k_is)
    (case c13 => k_is)
    (case k13 => k_is)
    (case a14 => k_is)
    (case l14 => k_is)
    (case c14 => k_is)
    (case k14 => k_is)
    (case a15 => k_is)
    (case l15 => k_is)
    (case c15 => k_is)
    (case k15 => k_is)
    (case a16 => k_is)
    (case i16 => k_is)
    (case l16 => k_is)
    (case c16 => k_is)
    (case k16 => k_is)
    (case t16 => k_is)
    (case a17 => k_is)
    (case l17 => k_is)
    (case c17 => k_is)
    (case k17 => k_is)
    (case t17 => k_is)
    (case a18 => k_is)
    (case l18 => k_is)
    (case c18 => k_is)
    (case k18 => k_is)
    (case a19 => k_is)
    (case l19 => k_is)
    (case c19 => k_is)
    (case k19 => k_is)
    (case pg_Web => k_is)
    (case hd_Web => k_is)
    (case po_Web => k_is)
    (case sa_Web => k_is)
    (case mk_Web => k_is)
    (case kc_Web => k_is)
    (case n0_Web => k_is)
    (case n1_Web => k_is)
    (case n2_Web => k_is)
    (case n3_Web => k_is)
    (case n4_Web => k_is)
    (case n5_Web => k_is)
    (case n6_Web => k_is)
    (case n7_Web => k_is)
    (case n8_Web => k_is)
    (case n9_Web => k_is)
    (case n10_Web => k_is)
    (case n11_Web => k_is)
    (case n12_Web => k_is)
    (case n13_Web => k_is)
    (case n14_Web => k_is)
    (case n15_Web => k_is)
    (case n16_Web => k_is)
    (case n17_Web => k_is)
    (case n18_Web => k_is)
    (case g_FEWEST_HANDS => k_is)
    (case g_MOST_HANDS => k_is)
    (case z_len => k_is)
    (case z_range => k_is)
    (case z_list => k_is)
    (case z_sorted => k_is)
    (case z_isinstance => k_is)
    (case z_int => k_is)
    (case z_bool => k_is)
    (case z_tuple => k_is)
    (case z_enumerate => k_is)
    (case z_reversed => k_is)
    (case z_max => k_is)
    (case z_min => k_is)
    (case z_all => k_is)
    (case z_any => k_is)
    (case z_set => k_is)
    (case z_zip => k_is)
    (case z_dict => k_is)
