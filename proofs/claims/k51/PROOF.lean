import PyProof.Rows.All
import Wide.All
import OpenK.AllK
import Wide.FinOn
import Lean
import PyProof.EqAt
import PyProof.EqKinds
import PyProof.TupleCall
import PySem.Challenge.RW_wordswap_k51_least_leaders
import PyProof.ExcBaseAll.ValueError
import PyProof.NsDelKeeps
import PyProof.ExcArgs
import PyProof.AttrMissHeap
set_option compiler.extract_closed false
set_option Elab.async false
set_option linter.all false
set_option maxRecDepth 100000
namespace L2
open PySem PySem.Spec PyProof.Rows
noncomputable abbrev Key := Sum Int Str
noncomputable def keyIs : Key → Value → Bool
  | .inl k, v => Value.isInt k v
  | .inr x, v => Value.isStrOf x v
noncomputable def keyH (w : World) : Key → Int
  | .inl k => hashInt k
  | .inr x => hashStr w x
theorem keyIs_shape : ∀ {k : Key} {v : Value}, keyIs k v = true → (∃ i t, k = Sum.inl i ∧ v = Value.int i t) ∨ (∃ x t, k = Sum.inr x ∧ v = Value.str x t)
  | .inl i, v, h => by
    obtain ⟨t, e⟩ := Value.isInt_shape (k := i) (v := v) h
    exact .inl ⟨i, t, rfl, e⟩
  | .inr x, v, h => by
    obtain ⟨t, e⟩ := Value.isStrOf_shape (x := x) (v := v) h
    exact .inr ⟨x, t, rfl, e⟩
theorem keyIs_int (i : Int) (t : Tok) : keyIs (.inl i) (.int i t) = true := by simp [keyIs, Value.isInt]
theorem keyIs_str (x : Str) (t : Tok) : keyIs (.inr x) (.str x t) = true := by simp [keyIs, Value.isStrOf]
theorem key_ll (a b : Int) : decide ((Sum.inl a : Key) = Sum.inl b) = (a == b) := by
  by_cases e : a = b
  · subst e; simp
  · have h : ¬ (Sum.inl a : Key) = Sum.inl b := fun q => e (Sum.inl.inj q)
    rw [decide_eq_false h]
    exact (beq_eq_false_iff_ne.mpr e).symm
theorem key_rr (a b : Str) : decide ((Sum.inr a : Key) = Sum.inr b) = decide (a = b) := by
  by_cases e : a = b
  · subst e; simp
  · have h : ¬ (Sum.inr a : Key) = Sum.inr b := fun q => e (Sum.inr.inj q)
    rw [decide_eq_false h, decide_eq_false e]
theorem key_lr (a : Int) (b : Str) : decide ((Sum.inl a : Key) = Sum.inr b) = false := decide_eq_false (fun q => nomatch q)
theorem key_rl (a : Str) (b : Int) : decide ((Sum.inr a : Key) = Sum.inl b) = false := decide_eq_false (fun q => nomatch q)
noncomputable def mixKind (prog : Program) (w : World) : PySem.KeyKind prog w Key where
  is := keyIs
  hash := keyH w
  inj := fun v a b ha hb => by
    rcases keyIs_shape ha with ⟨i, t, rfl, rfl⟩ | ⟨x, t, rfl, rfl⟩
    · rcases keyIs_shape hb with ⟨j, u, rfl, e⟩ | ⟨y, u, rfl, e⟩
      · injection e with e1 _; rw [e1]
      · exact nomatch e
    · rcases keyIs_shape hb with ⟨j, u, rfl, e⟩ | ⟨y, u, rfl, e⟩
      · exact nomatch e
      · injection e with e1 _; rw [e1]
  byValue := fun k v h => by
    rcases keyIs_shape h with ⟨i, t, rfl, rfl⟩ | ⟨x, t, rfl, rfl⟩ <;> rfl
  pyHash := fun hv h => by
    rcases keyIs_shape hv with ⟨i, t, rfl, rfl⟩ | ⟨x, t, rfl, rfl⟩
    · exact wpAny_pyHash_int h
    · exact wpAny_pyHash_str h
  eqBool := fun hu hv h => by
    rcases keyIs_shape hu with ⟨i, t, rfl, rfl⟩ | ⟨x, t, rfl, rfl⟩
    · rcases keyIs_shape hv with ⟨j, u, rfl, rfl⟩ | ⟨y, u, rfl, rfl⟩
      · rw [key_ll] at h; exact wpAny_eqBool_int h
      · rw [key_lr] at h; exact SeqAt.EqAt.int_str i t y u _ _ _ _ h
    · rcases keyIs_shape hv with ⟨j, u, rfl, rfl⟩ | ⟨y, u, rfl, rfl⟩
      · rw [key_rl] at h; exact SeqAt.EqAt.str_int x t j u _ _ _ _ h
      · rw [key_rr] at h; exact wpAny_eqBool_str h
  «strs» := fun k x t v h => by
    rcases keyIs_shape h with ⟨i, u, rfl, e⟩ | ⟨y, u, rfl, e⟩
    · exact nomatch e
    · injection e with e1 _
      subst e1
      cases v <;> rfl
theorem mixKind_int (prog : Program) (w : World) (i : Int) (t : Tok) : (mixKind prog w).is (.inl i) (.int i t) = true := keyIs_int i t
theorem mixKind_str (prog : Program) (w : World) (x : Str) (t : Tok) : (mixKind prog w).is (.inr x) (.str x t) = true := keyIs_str x t
end L2
namespace L2
open PySem PySem.Spec PyProof.Rows
inductive V where
  | non | bl (b : Bool) | int (i : Int) | str (x : Str) | byt (b : Array UInt8) | flt (b : UInt64) | ref (a : Addr) | ty (n : String)
  deriving DecidableEq
noncomputable def RelV : V → Value → Prop
  | .non, u => u = Value.none
  | .bl b, u => u = Value.bool b
  | .int i, u => ∃ t, u = Value.int i t
  | .str x, u => ∃ t, u = Value.str x t
  | .byt b, u => ∃ t, u = Value.bytes b t
  | .flt b, u => ∃ t, u = Value.float b t
  | .ref a, u => u = Value.ref a
  | .ty n, u => u = Value.type n
noncomputable abbrev Vals : List V → List Value → Prop := Paired RelV
theorem Vals.length {xs : List V} {us : List Value} (r : Vals xs us) : xs.length = us.length := Paired.length r
theorem Vals.get : ∀ {xs : List V} {us : List Value} {i : Nat} {x : V}, Vals xs us → xs[i]? = some x → ∃ u, us[i]? = some u ∧ RelV x u
  | _, _, _, _, .nil, e => by simp at e
  | _, _, 0, _, .cons r _, e => by simp at e; subst e; exact ⟨_, rfl, r⟩
  | _, _, i + 1, x, .cons _ t, e => by
    obtain ⟨u, h1, h2⟩ := Vals.get (i := i) (x := x) t (by simpa using e)
    exact ⟨u, by simpa using h1, h2⟩
theorem Vals.set {x : V} {u : Value} (r : RelV x u) : ∀ {xs : List V} {us : List Value} (i : Nat), Vals xs us → Vals (xs.set i x) (us.set i u)
  | _, _, _, .nil => .nil
  | _, _, 0, .cons _ t => .cons r t
  | _, _, i + 1, .cons q t => .cons q (Vals.set r i t)
theorem Vals.append : ∀ {xs ys : List V} {us ws : List Value}, Vals xs us → Vals ys ws → Vals (xs ++ ys) (us ++ ws)
  | _, _, _, _, .nil, s => s
  | _, _, _, _, .cons r t, s => .cons r (Vals.append t s)
theorem Vals.take : ∀ {xs : List V} {us : List Value} (n : Nat), Vals xs us → Vals (xs.take n) (us.take n)
  | _, _, 0, _ => .nil
  | _, _, _ + 1, .nil => .nil
  | _, _, n + 1, .cons r t => .cons r (Vals.take n t)
theorem Vals.drop : ∀ {xs : List V} {us : List Value} (n : Nat), Vals xs us → Vals (xs.drop n) (us.drop n)
  | _, _, 0, r => r
  | _, _, _ + 1, .nil => .nil
  | _, _, n + 1, .cons _ t => Vals.drop n t
theorem Vals.none_of : ∀ {xs : List V} {us : List Value} {i : Nat}, Vals xs us → xs[i]? = none → us[i]? = none := fun {xs us i} r e => by
  have h1 := r.length
  have h2 : xs.length ≤ i := List.getElem?_eq_none_iff.mp e
  exact List.getElem?_eq_none_iff.mpr (by omega)
noncomputable def RelO : Option V → Option Value → Prop
  | some v, some u => RelV v u
  | none, none => True
  | _, _ => False
noncomputable def KV {κ : Type} : List (κ × V) → List (κ × Value) → Prop := Paired fun (p : κ × V) (q : κ × Value) => p.1 = q.1 ∧ RelV p.2 q.2
noncomputable def kV : Key → V
  | .inl i => .int i
  | .inr x => .str x
inductive HO where
    | lst (xs : List V)
    | tup (xs : List V)
    | dK (kvs : List (Key × V)) | dT (kvs : List (List Key × V))
    | set (S : Int → Bool) (n : Nat)
    | ins (C dx : Addr) (fs : List (Str × V))
    | own (x : Addr)
    | xd (fs : List (Str × V))
    | met (f x : Addr)
    | rng (lo hi : Int)
    | frz (o : Obj) (u : HO)
    | tbl (ps : Array Value)
    | ext (φ : Heap → Prop)
noncomputable abbrev Hp := Addr → Option HO
noncomputable def upd (H : Hp) (a : Addr) (o : HO) : Hp := fun b => if b = a then some o else H b
theorem upd_same {H : Hp} {a : Addr} {o : HO} : upd H a o a = some o := by unfold upd; rw [if_pos rfl]
theorem upd_ne {H : Hp} {a b : Addr} {o : HO} (h : b ≠ a) : upd H a o b = H b := by unfold upd; rw [if_neg h]
theorem ne_of {H : Hp} {a b : Addr} {o u : HO} (h : H a = some o) (h' : H b = some u) (d : o ≠ u) : a ≠ b := by
  intro e; subst e; rw [h] at h'; exact d (Option.some.inj h')
theorem ne_of_none {H : Hp} {a b : Addr} {o : HO} (h : H a = some o) (h' : H b = none) : a ≠ b := by
  intro e; subst e; rw [h] at h'; cases h'
section
variable (P : Program) (w : World)
noncomputable def ObjOk (H : Hp) (h : Heap) (a : Addr) : HO → Prop
  | .lst xs => xs.length ≤ sizeLine ∧ ∃ (its : List Value) (n : Nat), Vals xs its ∧ h.get? a = some { cls := .type "list", data := .seq its.toArray n }
  | .tup xs => xs.length ≤ sizeLine ∧ ∃ its : List Value, Vals xs its ∧ IsTup h a its.toArray
  | .dK kvs => kvs.length ≤ sizeLine ∧ (a == sysModules) = false ∧ ∃ vs, KV kvs vs ∧ h.DictOf (mixKind P w) a vs
  | .dT kvs => kvs.length ≤ sizeLine ∧ (a == sysModules) = false ∧ ∃ xs : List (List Key × Addr × Value),
      Paired (fun (p : List Key × V) (q : List Key × Addr × Value) => p.1 = q.1 ∧ H q.2.1 = some (.tup (p.1.map kV)) ∧ RelV p.2 q.2.2) kvs xs ∧
      ∃ o es ep, h.get? a = some o ∧ o.ExactDict ∧ o.data = .dict es ep ∧ es.toList = xs.map (entryOfKey (tupleKind (mixKind P w))) ∧ (xs.map (·.1)).Nodup
  | .set S n => h.SetOf (intKind P w) a S n
  | .ins C dx fs => H dx = some (.own a) ∧ fs.length ≤ 1000 ∧ dx ≠ a ∧ h.get? a = some (PySem.W.instObj C dx) ∧
      ∃ mA, h.Ns1 dx mA ∧ (∀ f, RelO (fs.lookup f) (mA f)) ∧ PySem.Within mA (fs.map (·.1))
  | .own _ => ∃ o, h.get? a = some o
  | .xd fs => ∃ mA, h.Ns1 a mA ∧ ∀ f, RelO (fs.lookup f) (mA f)
  | .rng lo hi => ∃ t u v, h.get? a = some { cls := .type "range", data := .fields #[.int lo t, .int hi u, .int 1 v] }
  | .frz o u => h.get? a = some o ∧ ObjOk H h a u
  | .tbl ps => h.get? a = some { cls := .none, data := .fields ps }
  | .met f x => h.get? a = some (PySem.W.methodObj (.ref f) (.ref x))
  | .ext φ => φ h ∧ (∃ o, h.get? a = some o) ∧ ∀ h1 h2 : Heap, φ h1 → (∀ o, h1.get? a = some o → h2.get? a = some o) → φ h2
noncomputable def HOk (H : Hp) (h : Heap) : Prop := ∀ a o, H a = some o → ObjOk P w H h a o
end
section
variable {P : Program} {w : World} {H H' : Hp} {h h' : Heap} {a : Addr} {o : HO}
theorem ObjOk.lt (x : ObjOk P w H h a o) : a < h.objs.size := by
  cases o with
  | lst xs => obtain ⟨_, _, _, _, e⟩ := x; exact Heap.lt_size e
  | tup xs => obtain ⟨_, _, _, p⟩ := x; exact p.lt
  | dK kvs => obtain ⟨_, _, _, _, o, _, _, e, _⟩ := x; exact Heap.lt_size e
  | dT kvs => obtain ⟨_, _, _, _, o, _, _, e, _⟩ := x; exact Heap.lt_size e
  | set S n => obtain ⟨o, _, _, _, e, _⟩ := x; exact Heap.lt_size e
  | ins C dx fs => obtain ⟨_, _, _, e, _⟩ := x; exact Heap.lt_size e
  | own y => obtain ⟨_, e⟩ := x; exact Heap.lt_size e
  | xd fs => obtain ⟨_, ⟨_, _, _, e, _⟩, _⟩ := x; exact Heap.lt_size e
  | rng lo hi => obtain ⟨_, _, _, e⟩ := x; exact Heap.lt_size e
  | frz ob u => obtain ⟨e, _⟩ := x; exact Heap.lt_size e
  | tbl ps => exact Heap.lt_size (show h.get? a = some _ from x)
  | met f y => exact Heap.lt_size (show h.get? a = some _ from x)
  | ext φ => obtain ⟨_, ⟨_, e⟩, _⟩ := x; exact Heap.lt_size e
theorem Paired.mapP {α β : Type} {F G : α → β → Prop} : ∀ {l₁ : List α} {l₂ : List β}, Paired F l₁ l₂ → (∀ a b, F a b → G a b) → Paired G l₁ l₂
  | _, _, .nil, _ => .nil
  | _, _, .cons r t, f => .cons (f _ _ r) (Paired.mapP t f)
theorem ObjOk.stay (x : ObjOk P w H h a o) (k : ∀ b u, (b = a ∨ H b = some (.own a)) → h.get? b = some u → h'.get? b = some u)
    (ho : ∀ b, H b = some (.own a) → H' b = some (.own a)) (ht : ∀ b xs, H b = some (.tup xs) → H' b = some (.tup xs)) : ObjOk P w H' h' a o := by
  induction o with
  | lst xs => obtain ⟨z, its, n, r, e⟩ := x; exact ⟨z, its, n, r, k _ _ (.inl rfl) e⟩
  | tup xs => obtain ⟨z, its, r, ob, e, c⟩ := x; exact ⟨z, its, r, ob, k _ _ (.inl rfl) e, c⟩
  | dK kvs => obtain ⟨z, y, vs, r, ob, es, ep, e, c⟩ := x; exact ⟨z, y, vs, r, ob, es, ep, k _ _ (.inl rfl) e, c⟩
  | dT kvs =>
    obtain ⟨z, y, xs, r, ob, es, ep, e, c⟩ := x
    exact ⟨z, y, xs, Paired.mapP r fun p q z => ⟨z.1, ht _ _ z.2.1, z.2.2⟩, ob, es, ep, k _ _ (.inl rfl) e, c⟩
  | set S n => obtain ⟨ob, es, ep, t, e, c⟩ := x; exact ⟨ob, es, ep, t, k _ _ (.inl rfl) e, c⟩
  | ins C dx fs =>
    obtain ⟨d, z, ne, e, mA, ⟨od, es, ep, e2, c⟩, r⟩ := x
    exact ⟨ho _ d, z, ne, k _ _ (.inl rfl) e, mA, ⟨od, es, ep, k _ _ (.inr d) e2, c⟩, r⟩
  | own y => obtain ⟨ob, e⟩ := x; exact ⟨ob, k _ _ (.inl rfl) e⟩
  | xd fs => obtain ⟨mA, ⟨od, es, ep, e, c⟩, r⟩ := x; exact ⟨mA, ⟨od, es, ep, k _ _ (.inl rfl) e, c⟩, r⟩
  | rng lo hi => obtain ⟨t, u, v, e⟩ := x; exact ⟨t, u, v, k _ _ (.inl rfl) e⟩
  | frz ob u ih => obtain ⟨e, q⟩ := x; exact ⟨k _ _ (.inl rfl) e, ih q⟩
  | tbl ps =>
    have e : h.get? a = some { cls := .none, data := .fields ps } := x
    show h'.get? a = some { cls := .none, data := .fields ps }
    exact k a _ (.inl rfl) e
  | met f y =>
    have e : h.get? a = some (PySem.W.methodObj (.ref f) (.ref y)) := x
    show h'.get? a = some (PySem.W.methodObj (.ref f) (.ref y))
    exact k a _ (.inl rfl) e
  | ext φ => obtain ⟨p, ⟨o, e⟩, st⟩ := x; exact ⟨st _ _ p fun o q => k _ _ (.inl rfl) q, ⟨o, k _ _ (.inl rfl) e⟩, st⟩
theorem HOk.lt (x : HOk P w H h) (e : H a = some o) : a < h.objs.size := (x a o e).lt
theorem HOk.fresh (x : HOk P w H h) (e : h.objs.size ≤ a) : H a = none := by
  cases q : H a with
  | none => rfl
  | some u => exact absurd (Nat.lt_of_lt_of_le (x.lt q) e) (Nat.lt_irrefl _)
theorem HOk.kept (x : HOk P w H h) (k : ∀ b u, h.get? b = some u → h'.get? b = some u) : HOk P w H h' := fun a o e =>
  (x a o e).stay (fun b u _ q => k b u q) (fun _ q => q) fun _ _ q => q
theorem HOk.laid (x : HOk P w H h) (k : ∀ b u, h.get? b = some u → h'.get? b = some u) (hp : h.objs.size ≤ a) (new : ObjOk P w (upd H a o) h' a o) : HOk P w (upd H a o) h' := fun b u e => by
  have hn := x.fresh hp
  by_cases hb : b = a
  · subst hb; rw [upd_same] at e; cases e; exact new
  · rw [upd_ne hb] at e
    exact (x b u e).stay (fun c v _ q => k c v q) (fun c q => by rw [upd_ne (ne_of_none q hn)]; exact q) fun c xs q => by rw [upd_ne (ne_of_none q hn)]; exact q
end
noncomputable def Rd (H : Hp) (a : Addr) (u : HO) : Prop := H a = some u ∨ ∃ o, H a = some (.frz o u)
theorem Rd.of {H : Hp} {a : Addr} {u : HO} (h : H a = some u) : Rd H a u := .inl h
theorem Rd.ok {P : Program} {w : World} {H : Hp} {h : Heap} {a : Addr} {u : HO} (r : Rd H a u) (x : HOk P w H h) : ObjOk P w H h a u := by
  rcases r with r | ⟨o, r⟩
  · exact x a u r
  · obtain ⟨_, q⟩ := x a _ r
    exact q
noncomputable def Mut : Option HO → Prop
  | some (.lst _) => True
  | some (.dK _) => True
  | some (.dT _) => True
  | some (.set _ _) => True
  | some (.ins _ _ _) => True
  | some (.ext _) => True
  | _ => False
section
variable {P : Program} {w : World} {H : Hp} {h h' : Heap} {x e : Addr} {o' : HO}
theorem HOk.write (ok : HOk P w H h) (mu : Mut (H x)) (he : e = x ∨ H e = some (.own x)) (k : ∀ b u, b ≠ e → h.get? b = some u → h'.get? b = some u) (heo : ∃ u, h'.get? e = some u)
    (new : ObjOk P w (upd H x o') h' x o') : HOk P w (upd H x o') h' := fun b u q => by
  have nown : ∀ c y, H c = some (.own y) → c ≠ x := fun c y r z => by subst z; rw [r] at mu; exact mu
  have ntup : ∀ c xs, H c = some (.tup xs) → c ≠ x := fun c xs r z => by subst z; rw [r] at mu; exact mu
  by_cases hb : b = x
  · subst hb; rw [upd_same] at q; cases q; exact new
  · rw [upd_ne hb] at q
    by_cases hbe : b = e
    · have q' : H b = some (.own x) := by
        rcases he with z | z
        · exact absurd (hbe.trans z) hb
        · rw [hbe]; exact z
      rw [q] at q'; cases q'
      obtain ⟨v, hv⟩ := heo
      exact ⟨v, by rw [hbe]; exact hv⟩
    · refine (ok b u q).stay (fun c v hc r => k c v ?_ r) (fun c r => by rw [upd_ne (nown c b r)]; exact r) fun c xs r => by rw [upd_ne (ntup c xs r)]; exact r
      rcases hc with rfl | hc
      · exact hbe
      · rintro rfl
        rcases he with z | z
        · exact nown c b hc z
        · rw [hc] at z; cases z; exact hb rfl
end
structure Un (fs ex : List Addr) (H H' : Hp) (h h' : Heap) : Prop where
  keep : ∀ b o, h.get? b = some o → H b = none → b ∉ fs → b ∉ ex → h'.get? b = some o
  slot : ∀ b o, h.get? b = some o → H b = none → b ∈ fs → b ∉ ex → ∃ sl, h'.get? b = some { o with slots := sl }
  free : ∀ b o, h.get? b = some o → H b = none → b ∉ ex → H' b = none
  there : ∀ b o, h.get? b = some o → b ∉ ex → ∃ o', h'.get? b = some o'
  tups : ∀ b xs, H b = some (.tup xs) → H' b = some (.tup xs)
  frzs : ∀ b o u, H b = some (.frz o u) → H' b = some (.frz o u)
  tbls : ∀ b ps, H b = some (.tbl ps) → ∃ more, H' b = some (.tbl (ps ++ more))
section
variable {fs fs' ex ex' : List Addr} {H H1 H2 : Hp} {h h1 h2 h' : Heap} {a x e : Addr} {o : HO}
theorem Un.any (u : Un fs ex H H1 h h1) {b : Addr} {ob : Obj} (q : h.get? b = some ob) (n : H b = none) (hx : b ∉ ex) : ∃ sl, h1.get? b = some { ob with slots := sl } := by
  by_cases hb : b ∈ fs
  · exact u.slot b ob q n hb hx
  · exact ⟨ob.slots, u.keep b ob q n hb hx⟩
theorem Un.trans (a : Un fs ex H H1 h h1) (b : Un fs ex H1 H2 h1 h2) : Un fs ex H H2 h h2 where
  keep := fun c ob q n hc hx => b.keep c ob (a.keep c ob q n hc hx) (a.free c ob q n hx) hc hx
  slot := fun c ob q n hc hx => by
    obtain ⟨sl, e1⟩ := a.slot c ob q n hc hx
    obtain ⟨sl', e2⟩ := b.slot c _ e1 (a.free c ob q n hx) hc hx
    exact ⟨sl', e2⟩
  free := fun c ob q n hx => by
    obtain ⟨o', e1⟩ := a.there c ob q hx
    exact b.free c o' e1 (a.free c ob q n hx) hx
  there := fun c ob q hx => by
    obtain ⟨o', e1⟩ := a.there c ob q hx
    exact b.there c o' e1 hx
  tups := fun c xs q => b.tups c xs (a.tups c xs q)
  frzs := fun c ob xs q => b.frzs c ob xs (a.frzs c ob xs q)
  tbls := fun c ps q => by
    obtain ⟨m1, e1⟩ := a.tbls c ps q
    obtain ⟨m2, e2⟩ := b.tbls c _ e1
    exact ⟨m1 ++ m2, by rw [e2, Array.append_assoc]⟩
theorem Un.kept (k : ∀ b u, h.get? b = some u → h'.get? b = some u) : Un fs ex H H h h' :=
  ⟨fun b ob q _ _ _ => k b ob q, fun b ob q _ _ _ => ⟨ob.slots, k b ob q⟩, fun _ _ _ n _ => n, fun b ob q _ => ⟨ob, k b ob q⟩, fun _ _ q => q, fun _ _ _ q => q, fun _ ps q => ⟨#[], by rw [q]; simp⟩⟩
theorem Un.refl : Un fs ex H H h h := Un.kept fun _ _ q => q
theorem Un.laid (k : ∀ b u, h.get? b = some u → h'.get? b = some u) (hp : h.objs.size ≤ a) (hn : H a = none) : Un fs ex H (upd H a o) h h' where
  keep := fun b u q _ _ _ => k b u q
  slot := fun b u q _ _ _ => ⟨u.slots, k b u q⟩
  free := fun b u q n _ => by rw [upd_ne (Nat.ne_of_lt (Nat.lt_of_lt_of_le (Heap.lt_size q) hp))]; exact n
  there := fun b u q _ => ⟨u, k b u q⟩
  tups := fun b xs q => by rw [upd_ne (ne_of_none q hn)]; exact q
  frzs := fun b u xs q => by rw [upd_ne (ne_of_none q hn)]; exact q
  tbls := fun b ps q => ⟨#[], by rw [upd_ne (ne_of_none q hn), q]; simp⟩
theorem Un.write (mu : Mut (H x)) (he : e = x ∨ H e = some (.own x)) (k : ∀ b u, b ≠ e → h.get? b = some u → h'.get? b = some u) (heo : ∃ u, h'.get? e = some u) : Un fs ex H (upd H x o) h h' := by
  have hx : ∀ b, H b = none → b ≠ x := fun b n z => by subst z; rw [n] at mu; exact mu
  have hb : ∀ b, H b = none → b ≠ e := fun b n z => by
    subst z
    rcases he with r | r
    · exact hx b n r
    · rw [n] at r; cases r
  have hm : ∀ b u, H b = some u → ¬ Mut (some u) → b ≠ x := fun b u q nm z => by subst z; rw [q] at mu; exact nm mu
  refine ⟨fun b u q n _ _ => k b u (hb b n) q, fun b u q n _ _ => ⟨u.slots, k b u (hb b n) q⟩, fun b u q n _ => by rw [upd_ne (hx b n)]; exact n, fun b u q _ => ?_,
    fun b xs q => by rw [upd_ne (hm b _ q fun z => z)]; exact q, fun b u xs q => by rw [upd_ne (hm b _ q fun z => z)]; exact q, fun b ps q => ⟨#[], by rw [upd_ne (hm b _ q fun z => z), q]; simp⟩⟩
  by_cases hbe : b = e
  · subst hbe; exact heo
  · exact ⟨u, k b u hbe q⟩
theorem Un.mono (u : Un fs ex H H1 h h1) (hs : ∀ b ∈ fs, b ∈ fs') (hx : ∀ b ∈ ex, b ∈ ex') : Un fs' ex' H H1 h h1 :=
  ⟨fun b ob q n hb he => u.keep b ob q n (fun z => hb (hs b z)) fun z => he (hx b z), fun _ _ q n _ he => u.any q n fun z => he (hx _ z), fun b ob q n he => u.free b ob q n fun z => he (hx b z), fun b ob q he => u.there b ob q fun z => he (hx b z), u.tups, u.frzs, u.tbls⟩
end
noncomputable def trk (h : Heap) (H : Hp) : List Addr := (List.range h.objs.size).filter fun a => (H a).isSome
noncomputable def hidT (h : Heap) (H : Hp) : Heap := PySem.W.hideAll h (trk h H)
theorem hidT_size (h : Heap) (H : Hp) : (hidT h H).objs.size = h.objs.size := PySem.W.hideAll_size _ _
theorem hidT_get {h : Heap} {H : Hp} {b : Addr} {o : Obj} (e : h.get? b = some o) (n : H b = none) : (hidT h H).get? b = some o :=
  PySem.W.hideAll_get _ e fun hm => by
    have q : (H b).isSome = true := (List.mem_filter.mp hm).2
    rw [n] at q; simp at q
theorem of_hidT {h : Heap} {H : Hp} {b : Addr} {o : Obj} (e : (hidT h H).get? b = some o) : h.get? b = some o ∧ H b = none := by
  have e' : h.get? b = some o := PySem.W.of_hideAll (trk h H) e
  refine ⟨e', ?_⟩
  cases q : H b with
  | none => rfl
  | some x =>
    have hm : b ∈ trk h H := List.mem_filter.mpr ⟨List.mem_range.mpr (Heap.lt_size e'), by simp [q]⟩
    have z : (hidT h H).get? b = none := PySem.W.hideAll_none (trk h H) hm
    rw [z] at e; cases e
noncomputable def allNews (g h : Heap) (L : Addr) : List (Addr × Obj) := (List.range h.objs.size).filterMap fun a => if a = L ∨ (g.get? a).isSome = true then none else (h.get? a).map fun o => (a, o)
noncomputable def rest (g h : Heap) (L d : Addr) : List (Addr × Obj) := (allNews g h L).filter fun p => decide (p.1 ≠ d)
end L2
namespace L2
open PySem PySem.Spec PyProof.Rows
structure Mod (K : PySem.W.Frag) (mg : Str → Option Value) (base : Heap) : Prop where
  kin : K.In base
  glob : base.Ns mainGlobals mg
  blt : ∃ mb, base.Ns builtinsNs mb ∧ ∀ x : Str, x ≠ "__name__" → mb x = bootBuiltins x
  nolimit : base.NoLimit
structure Cx where
  prog : Program
  w : World
  K : PySem.W.Frag
  mg : Str → Option Value
  base : Heap
  A : Around
  N : List Str
  s₀ : Shared
  H₀ : Hp
  env : Env
  outer : List Env
  stack : List Env
  ex : List Addr
  fn : Str → Bool
  calm : Bool
  pn : List (Addr × Obj)
  xe : Value → Shared → Prop
noncomputable def frs (l : List Env) : List Addr := l.filterMap (·.frame)
noncomputable abbrev Cx.fs (X : Cx) : List Addr := frs X.outer
noncomputable def Vis (sc : Scope) (x : Str) : Prop := sc.names.lookup x = some .local ∨ sc.names.lookup x = some .cell ∨ sc.names.lookup x = some .free
noncomputable def Loc (sc : Scope) (x : Str) : Prop := sc.names.lookup x = some .local ∨ sc.names.lookup x = some .cell
noncomputable def Look (env : Env) (h : Heap) (m : Str → Option Value) (x : Str) (u : Value) : Prop :=
  (env.kindOf x = some .local ∧ m x = some u) ∨ ((env.kindOf x = some .cell ∨ env.kindOf x = some .free) ∧ ∃ c, env.cells.lookup x = some c ∧ h.IsCell c (some u))
structure Cx.Ok (X : Cx) : Prop where
  mod : Mod X.K X.mg X.base
  kind : X.env.scope.kind = .function
  glob : X.env.globals = mainGlobals
  blt : X.env.builtins = builtinsNs
  above : X.s₀.heap.objs.size ≤ X.env.locals
  inj : ∀ x y c, X.env.cells.lookup x = some c → X.env.cells.lookup y = some c → x = y
  has : ∀ x, (X.env.kindOf x = some .cell ∨ X.env.kindOf x = some .free) → ∃ c, X.env.cells.lookup x = some c
  cab : ∀ x c, X.fn x = true → X.env.cells.lookup x = some c → X.s₀.heap.objs.size ≤ c
  hd : X.calm = true → X.A.handled = none
  frames : X.A.frames = some X.stack
  stk : X.stack = X.outer ∨ (X.stack = X.env :: X.outer ∧ X.env.frame = some X.env.locals)
  exf : ∀ b ∈ X.ex, b ≠ X.env.locals ∧ ∀ x c, X.env.cells.lookup x = some c → c ≠ b
  bs : ∀ b o, X.base.get? b = some o → X.s₀.heap.get? b = some o ∧ X.H₀ b = none
  bsz : X.base.objs.size ≤ X.s₀.heap.objs.size
  noex : ∀ b o, X.base.get? b = some o → b ∉ X.ex
  exfs : ∀ b ∈ X.ex, b ∉ X.fs
  funs : X.s₀.heap.FunFrames X.base X.outer
  frf : ∀ b ∈ X.fs, X.H₀ b = none
structure Inv (X : Cx) (pins : List (Addr × Obj)) (σ : List (Option V)) (H : Hp) (s : Shared) : Prop where
  ok : X.Ok
  os : s.os = X.s₀.os
  bare : AllBare s.gens
  base : Un X.fs X.ex X.H₀ H X.s₀.heap s.heap
  loc : ∃ m, s.heap.Ns X.env.locals m ∧ ∀ (i : Nat) (x : Str) (v : V), X.N[i]? = some x → σ[i]? = some (some v) → Vis X.env.scope x → ∃ u, RelV v u ∧ Look X.env s.heap m x u
  cell : ∀ x c, X.env.cells.lookup x = some c → ∃ v, s.heap.IsCell c v
  free : H X.env.locals = none
  freeC : ∀ x c, X.env.cells.lookup x = some c → H c = none
  pin : ∀ p ∈ X.pn ++ pins, s.heap.get? p.1 = some p.2 ∧ H p.1 = none ∧ p.1 ≠ X.env.locals ∧ p.1 ∉ X.fs ∧ ∀ v, p.2.data ≠ .cell v
  hok : HOk X.prog X.w H s.heap
  len : σ.length = X.N.length
section
variable {X : Cx} {pins : List (Addr × Obj)} {σ : List (Option V)} {H H' : Hp} {s : Shared} {h' : Heap}
theorem Cx.Ok.nofr (ok : X.Ok) {b : Addr} {o : Obj} (e : X.base.get? b = some o) : b ∉ X.fs := fun hb => by
  have := (ok.funs.mem hb).1
  rw [e] at this; cases this
theorem Inv.bs (I : Inv X pins σ H s) : ∀ b o, X.base.get? b = some o → s.heap.get? b = some o ∧ H b = none := fun b o e =>
  ⟨I.base.keep b o (I.ok.bs b o e).1 (I.ok.bs b o e).2 (I.ok.nofr e) (I.ok.noex b o e), I.base.free b o (I.ok.bs b o e).1 (I.ok.bs b o e).2 (I.ok.noex b o e)⟩
theorem Inv.bk (I : Inv X pins σ H s) : ∀ b o, X.base.get? b = some o → s.heap.get? b = some o := fun b o e => (I.bs b o e).1
theorem Inv.mod (I : Inv X pins σ H s) : Mod X.K X.mg X.base := I.ok.mod
theorem Inv.kIn (I : Inv X pins σ H s) : X.K.In s.heap := I.ok.mod.kin.keeps I.bk
theorem Inv.nolimit (I : Inv X pins σ H s) : s.heap.NoLimit := I.ok.mod.nolimit.keeps I.bk
theorem Inv.fr (I : Inv X pins σ H s) : ∃ m, Fr X.base X.env.locals s.heap m :=
  let ⟨m, hn, _⟩ := I.loc
  ⟨m, hn, I.bk, Nat.le_trans I.ok.bsz I.ok.above⟩
theorem Inv.lt (I : Inv X pins σ H s) : X.env.locals < s.heap.objs.size := let ⟨_, hn, _⟩ := I.loc; hn.lt
theorem Inv.sz (I : Inv X pins σ H s) : X.s₀.heap.objs.size ≤ s.heap.objs.size := Nat.le_trans I.ok.above (Nat.le_of_lt I.lt)
theorem Inv.nofs (I : Inv X pins σ H s) {a : Addr} (h : s.heap.objs.size ≤ a) : a ∉ X.fs := fun hb => by
  obtain ⟨_, o, ho, _⟩ := I.ok.funs.mem hb
  exact absurd (Nat.lt_of_lt_of_le (Heap.lt_size ho) (Nat.le_trans I.sz h)) (Nat.lt_irrefl _)
theorem Inv.cne (I : Inv X pins σ H s) : ∀ x c, X.env.cells.lookup x = some c → c ≠ X.env.locals := fun x c e z => by
  obtain ⟨v, o, ho, hd⟩ := I.cell x c e
  obtain ⟨m, ⟨o', es, ep, ho', hd', _⟩, _⟩ := I.loc
  rw [z, ho'] at ho; cases ho; rw [hd'] at hd; cases hd
theorem Inv.funs (I : Inv X pins σ H s) : s.heap.FunFrames X.base X.outer := by
  have all : ∀ (l : List Env), (∀ b ∈ frs l, b ∈ X.fs) → X.s₀.heap.FunFrames X.base l → s.heap.FunFrames X.base l := by
    intro l
    induction l with
    | nil => intro _ _; trivial
    | cons env r ih =>
      intro hs hl
      obtain ⟨hk, ⟨L, o, hf, hn, ho, hd⟩, hr⟩ := hl
      have hL : L ∈ X.fs := hs L (by unfold frs; rw [List.filterMap_cons, hf]; exact List.mem_cons_self)
      obtain ⟨sl, e⟩ := I.base.slot L o ho (I.ok.frf L hL) hL fun z => I.ok.exfs L z hL
      exact ⟨hk, ⟨L, _, hf, hn, e, hd⟩, ih (fun b hb => hs b (by unfold frs; rw [List.filterMap_cons, hf]; exact List.mem_cons_of_mem _ hb)) hr⟩
  exact all X.outer (fun _ hb => hb) I.ok.funs
theorem Inv.stack (I : Inv X pins σ H s) : s.heap.FunFrames X.base X.stack := by
  rcases I.ok.stk with e | ⟨e, hf⟩
  · rw [e]; exact I.funs
  · rw [e]
    obtain ⟨m, hn, _⟩ := I.loc
    refine .cons (by rw [I.ok.kind]; decide) hf hn ?_ I.funs
    exact Heap.get?_none_of_le (Nat.le_trans I.ok.bsz I.ok.above)
theorem Inv.stkSub (I : Inv X pins σ H s) : ∀ b ∈ frs X.stack, b ∈ X.env.locals :: X.fs := fun b hb => by
  rcases I.ok.stk with e | ⟨e, hf⟩
  · rw [e] at hb; exact List.mem_cons_of_mem _ hb
  · rw [e] at hb
    unfold frs at hb
    rw [List.filterMap_cons, hf] at hb
    exact hb
theorem Inv.stkFree (I : Inv X pins σ H s) : ∀ b ∈ frs X.stack, H b = none := fun b hb => by
  rcases List.mem_cons.mp (I.stkSub b hb) with e | hb
  · rw [e]; exact I.free
  · obtain ⟨_, o, ho, _⟩ := I.ok.funs.mem hb
    exact I.base.free b o ho (I.ok.frf b hb) fun z => I.ok.exfs b z hb
theorem Inv.step {g' : Array GenState} {t' : Nat} {d' : Drawn} {ch : List Addr} (I : Inv X pins σ H s)
    (hch : ∀ b ∈ ch, (b ∈ X.ex ∨ X.s₀.heap.objs.size ≤ b) ∧ b ≠ X.env.locals ∧ (∀ x c, X.env.cells.lookup x = some c → c ≠ b) ∧ ∀ p ∈ X.pn ++ pins, p.1 ≠ b)
    (keep : ∀ b o, b ≠ X.env.locals → b ∉ X.fs → b ∉ ch → s.heap.get? b = some o → H b = none → h'.get? b = some o)
    (slot : ∀ b o, b ≠ X.env.locals → b ∈ X.fs → b ∉ ch → s.heap.get? b = some o → H b = none → ∃ sl, h'.get? b = some { o with slots := sl }) (free : ∀ b o, b ∉ ch → s.heap.get? b = some o → H b = none → H' b = none)
    (there : ∀ b o, b ∉ ch → s.heap.get? b = some o → ∃ o', h'.get? b = some o')
    (tups : ∀ b xs, H b = some (.tup xs) → H' b = some (.tup xs)) (frzs : ∀ b o u, H b = some (.frz o u) → H' b = some (.frz o u)) (tbls : ∀ b ps, H b = some (.tbl ps) → ∃ more, H' b = some (.tbl (ps ++ more)))
    (ns : ∀ m, s.heap.Ns X.env.locals m → h'.Ns X.env.locals m) (hok : HOk X.prog X.w H' h') (hg : AllBare g') :
    Inv X pins σ H' { s with heap := h', gens := g', drawn := d', toks := t' } := by
  have neL : ∀ b o, X.s₀.heap.get? b = some o → b ≠ X.env.locals := fun b o e => Nat.ne_of_lt (Nat.lt_of_lt_of_le (Heap.lt_size e) I.ok.above)
  have neC : ∀ b o, X.s₀.heap.get? b = some o → b ∉ X.ex → b ∉ ch := fun b o e hx hb => by
    rcases (hch b hb).1 with z | z
    · exact hx z
    · exact absurd (Nat.lt_of_lt_of_le (Heap.lt_size e) z) (Nat.lt_irrefl _)
  have cellK : ∀ x c, X.env.cells.lookup x = some c → ∀ v, s.heap.IsCell c v → h'.IsCell c v := fun x c e v ⟨o, ho, hd⟩ => by
    have nch : c ∉ ch := fun z => (hch c z).2.2.1 x c e rfl
    by_cases hc : c ∈ X.fs
    · obtain ⟨sl, q⟩ := slot c o (I.cne x c e) hc nch ho (I.freeC x c e)
      exact ⟨_, q, hd⟩
    · exact ⟨o, keep c o (I.cne x c e) hc nch ho (I.freeC x c e), hd⟩
  refine ⟨I.ok, I.os, hg, ⟨fun b o e n hb hx => ?_, fun b o e n hb hx => ?_, fun b o e n hx => ?_, fun b o e hx => ?_, fun b xs e => tups b xs (I.base.tups b xs e), fun b o xs e => frzs b o xs (I.base.frzs b o xs e), fun b ps e => ?_⟩, ?_, fun x c e => ?_, ?_, fun x c e => ?_, fun p hp => ?_, hok, I.len⟩
  · exact keep b o (neL b o e) hb (neC b o e hx) (I.base.keep b o e n hb hx) (I.base.free b o e n hx)
  · obtain ⟨sl, e1⟩ := I.base.slot b o e n hb hx
    obtain ⟨sl', e2⟩ := slot b _ (neL b o e) hb (neC b o e hx) e1 (I.base.free b o e n hx)
    exact ⟨sl', e2⟩
  · obtain ⟨o', e1⟩ := I.base.there b o e hx
    exact free b o' (neC b o e hx) e1 (I.base.free b o e n hx)
  · obtain ⟨o', e1⟩ := I.base.there b o e hx
    exact there b o' (neC b o e hx) e1
  · obtain ⟨m1, e1⟩ := I.base.tbls b ps e
    obtain ⟨m2, e2⟩ := tbls b _ e1
    exact ⟨m1 ++ m2, by rw [e2, Array.append_assoc]⟩
  · obtain ⟨m, hn, hl⟩ := I.loc
    refine ⟨m, ns m hn, fun i x v e1 e2 e3 => ?_⟩
    obtain ⟨u, r, l⟩ := hl i x v e1 e2 e3
    refine ⟨u, r, ?_⟩
    rcases l with l | ⟨k, c, e, z⟩
    · exact .inl l
    · exact .inr ⟨k, c, e, cellK x c e _ z⟩
  · obtain ⟨v, z⟩ := I.cell x c e
    exact ⟨v, cellK x c e v z⟩
  · obtain ⟨m, ⟨o, _, _, ho, _⟩, _⟩ := I.loc
    exact free _ o (fun z => (hch _ z).2.1 rfl) ho I.free
  · obtain ⟨v, o, ho, hd⟩ := I.cell x c e
    exact free c o (fun z => (hch c z).2.2.1 x c e rfl) ho (I.freeC x c e)
  · obtain ⟨e, n, ne, nf, d⟩ := I.pin p hp
    have nch : p.1 ∉ ch := fun z => (hch p.1 z).2.2.2 p hp rfl
    exact ⟨keep p.1 p.2 ne nf nch e n, free p.1 p.2 nch e n, ne, nf, d⟩
theorem Inv.un {t' : Nat} (I : Inv X pins σ H s) (u : Un X.fs [] H H' s.heap h') (hok : HOk X.prog X.w H' h') : Inv X pins σ H' { s with heap := h', toks := t' } := by
  obtain ⟨m, ⟨o, es, ep, ho, r⟩, _⟩ := id I.loc
  obtain ⟨sl, hL⟩ := u.any ho I.free (by simp)
  exact I.step (g' := s.gens) (d' := s.drawn) (ch := []) (fun _ z => nomatch z) (fun b o _ hb _ e n => u.keep b o e n hb (by simp)) (fun b o _ hb _ e n => u.slot b o e n hb (by simp)) (fun b o _ e n => u.free b o e n (by simp)) (fun b o _ e => u.there b o e (by simp)) u.tups u.frzs u.tbls (fun m' hm => by
    obtain ⟨o', es', ep', ho', r'⟩ := hm
    rw [ho] at ho'; cases ho'
    exact ⟨_, es', ep', hL, r'⟩) hok I.bare
theorem Inv.call {g' : Array GenState} {t' : Nat} {d' : Drawn} {ch : List Addr} (I : Inv X pins σ H s) (u : Un (frs X.stack) ch H H' s.heap h') (hok : HOk X.prog X.w H' h') (hg : AllBare g')
    (hch : ∀ b ∈ ch, (b ∈ X.ex ∨ X.s₀.heap.objs.size ≤ b) ∧ b ≠ X.env.locals ∧ (∀ x c, X.env.cells.lookup x = some c → c ≠ b) ∧ ∀ p ∈ X.pn ++ pins, p.1 ≠ b) :
    Inv X pins σ H' { s with heap := h', gens := g', drawn := d', toks := t' } := by
  obtain ⟨m, ⟨o, es, ep, ho, r⟩, _⟩ := id I.loc
  obtain ⟨sl, hL⟩ := u.any ho I.free fun z => (hch _ z).2.1 rfl
  exact I.step (ch := ch) hch (fun b o hL hb hc e n => u.keep b o e n (fun z => (List.mem_cons.mp (I.stkSub b z)).elim hL hb) hc) (fun b o _ _ hc e n => u.any e n hc) (fun b o hc e n => u.free b o e n hc) (fun b o hc e => u.there b o e hc) u.tups u.frzs u.tbls (fun m' hm => by
    obtain ⟨o', es', ep', ho', r'⟩ := hm
    rw [ho] at ho'; cases ho'
    exact ⟨_, es', ep', hL, r'⟩) hok hg
theorem Inv.turned {t' : Nat} {it : Addr} (I : Inv X pins σ H s) (k : ∀ b o, b ≠ it → s.heap.get? b = some o → h'.get? b = some o) (hn : H it = none) (hL : it ≠ X.env.locals)
    (h1 : it ∈ X.ex ∨ X.s₀.heap.objs.size ≤ it) (h2 : ∀ x c, X.env.cells.lookup x = some c → c ≠ it) (h3 : ∀ p ∈ X.pn ++ pins, p.1 ≠ it) : Inv X pins σ H { s with heap := h', toks := t' } := by
  have nit : ∀ b u, H b = some u → b ≠ it := fun b u e z => by rw [z, hn] at e; cases e
  refine I.step (g' := s.gens) (d' := s.drawn) (ch := [it]) (fun b hb => ?_) (fun b o _ _ hc e _ => k b o (fun z => hc (by simp [z])) e) (fun b o _ _ hc e _ => ⟨o.slots, k b o (fun z => hc (by simp [z])) e⟩) (fun _ _ _ _ n => n)
    (fun b o hc e => ⟨o, k b o (fun z => hc (by simp [z])) e⟩) (fun _ _ e => e) (fun _ _ _ e => e) (fun b ps e => ⟨#[], by rw [e]; simp⟩) (fun m hm => ?_) (fun b u e => ?_) I.bare
  · have e : b = it := by simpa using hb
    subst e
    exact ⟨h1, hL, h2, h3⟩
  · obtain ⟨o, es, ep, ho, r⟩ := hm
    exact ⟨o, es, ep, k _ o (Ne.symm hL) ho, r⟩
  · refine (I.hok b u e).stay (fun c v hc q => k c v ?_ q) (fun _ q => q) fun _ _ q => q
    rcases hc with z | z
    · rw [z]; exact nit b u e
    · exact nit c _ z
theorem Inv.tok (I : Inv X pins σ H s) (t : Nat) : Inv X pins σ H { s with toks := t } := I.un (h' := s.heap) (t' := t) Un.refl I.hok
theorem Inv.kept {t' : Nat} (I : Inv X pins σ H s) (k : ∀ b u, s.heap.get? b = some u → h'.get? b = some u) : Inv X pins σ H { s with heap := h', toks := t' } := I.un (Un.kept k) (I.hok.kept k)
theorem Inv.laid {a : Addr} {o : HO} {t' : Nat} (I : Inv X pins σ H s) (k : ∀ b u, s.heap.get? b = some u → h'.get? b = some u) (hp : s.heap.objs.size ≤ a) (new : ObjOk X.prog X.w (upd H a o) h' a o) :
    Inv X pins σ (upd H a o) { s with heap := h', toks := t' } := I.un (Un.laid k hp (I.hok.fresh hp)) (I.hok.laid k hp new)
theorem Inv.write {x e : Addr} {o : HO} {t' : Nat} (I : Inv X pins σ H s) (mu : Mut (H x)) (he : e = x ∨ H e = some (.own x)) (k : ∀ b u, b ≠ e → s.heap.get? b = some u → h'.get? b = some u) (heo : ∃ u, h'.get? e = some u)
    (new : ObjOk X.prog X.w (upd H x o) h' x o) : Inv X pins σ (upd H x o) { s with heap := h', toks := t' } := I.un (Un.write mu he k heo) (I.hok.write mu he k heo new)
theorem Inv.pins_of {pins' : List (Addr × Obj)} (I : Inv X pins σ H s) (h : ∀ p ∈ pins', s.heap.get? p.1 = some p.2 ∧ H p.1 = none ∧ p.1 ≠ X.env.locals ∧ p.1 ∉ X.fs ∧ ∀ v, p.2.data ≠ .cell v) : Inv X pins' σ H s :=
  ⟨I.ok, I.os, I.bare, I.base, I.loc, I.cell, I.free, I.freeC, fun p hp => (List.mem_append.mp hp).elim (fun z => I.pin p (List.mem_append_left _ z)) (h p), I.hok, I.len⟩
theorem nodup_ix {N : List Str} (hN : N.Nodup) {i j : Nat} {x : Str} (a : N[i]? = some x) (b : N[j]? = some x) : i = j := by
  obtain ⟨h1, e1⟩ := List.getElem?_eq_some_iff.mp a
  obtain ⟨h2, e2⟩ := List.getElem?_eq_some_iff.mp b
  exact (List.getElem_inj hN).mp (e1.trans e2.symm)
theorem store_ok2 {M : Model} {A : Around} {E : Value → Shared → Prop} {i : Nat} {x : Str} {v : V} {u : Value} {Q : Unit → Shared → Prop} (I : Inv X pins σ H s) (hN : X.N.Nodup) (hi : X.N[i]? = some x) (hx : Loc X.env.scope x) (r : RelV v u)
    (h : ∀ s', Inv X pins (σ.set i (some v)) H s' → (∃ a, Heap.SameBut a s.heap s'.heap ∧ (a = X.env.locals ∨ X.env.cells.lookup x = some a)) → Q () s') (hf : X.fn x = true ∨ X.env.scope.names.lookup x = some .local := by first | exact .inl rfl | exact .inr rfl | assumption) : wpAny M A (storeName X.env x u) Q E s := by
  obtain ⟨m, hn, hl⟩ := id I.loc
  have hcls : (X.env.scope.kind == .class || (X.env.scope.kind == .module && X.env.locals != X.env.globals)) = false := by rw [I.ok.kind]; rfl
  have hiσ : i < σ.length := by rw [I.len]; exact (List.getElem?_eq_some_iff.mp hi).1
  have cne := I.cne
  have tracked : ∀ {a : Addr} {h' : Heap}, (∃ o, s.heap.get? a = some o ∧ H a = none) → Heap.SameBut a s.heap h' → HOk X.prog X.w H h' := fun {a h'} ha hs b ob e => by
    obtain ⟨_, _, hfree⟩ := ha
    refine (I.hok b ob e).stay (fun c w' hc q => (hs.2 c ?_).trans q) (fun _ q => q) fun _ _ q => q
    rintro rfl
    rcases hc with rfl | hc
    · rw [hfree] at e; cases e
    · rw [hfree] at hc; cases hc
  rcases hx with hk | hk
  · refine wpAny_storeName_local hk hn (fun h' hn' hs => ?_) hcls
    obtain ⟨oL, _, _, hoL, _⟩ := id hn
    refine h _ ⟨I.ok, I.os, I.bare, ⟨fun b o e n hb hx => ?_, fun b o e n hb hx => ?_, I.base.free, fun b o e hx => ?_, I.base.tups, I.base.frzs, I.base.tbls⟩, ⟨_, hn', fun j y v' e1 e2 e3 => ?_⟩, fun y c e => ?_, I.free, I.freeC, fun p hp => ?_, tracked ⟨oL, hoL, I.free⟩ hs, by simpa using I.len⟩ ⟨_, hs, .inl rfl⟩
    · exact (hs.2 b (Nat.ne_of_lt (Nat.lt_of_lt_of_le (Heap.lt_size e) I.ok.above))).trans (I.base.keep b o e n hb hx)
    · obtain ⟨sl, e1⟩ := I.base.slot b o e n hb hx
      exact ⟨sl, (hs.2 b (Nat.ne_of_lt (Nat.lt_of_lt_of_le (Heap.lt_size e) I.ok.above))).trans e1⟩
    · obtain ⟨o', e1⟩ := I.base.there b o e hx
      exact ⟨o', (hs.2 b (Nat.ne_of_lt (Nat.lt_of_lt_of_le (Heap.lt_size e) I.ok.above))).trans e1⟩
    · by_cases hj : j = i
      · subst hj
        rw [hi] at e1; cases e1
        rw [List.getElem?_set_self hiσ] at e2
        cases e2
        exact ⟨u, r, .inl ⟨hk, by simp⟩⟩
      · rw [List.getElem?_set_ne (Ne.symm hj)] at e2
        obtain ⟨u', r', q⟩ := hl j y v' e1 e2 e3
        refine ⟨u', r', ?_⟩
        rcases q with ⟨k, e⟩ | ⟨k, c, e, z⟩
        · refine .inl ⟨k, ?_⟩
          have : y ≠ x := fun e => hj (nodup_ix hN e1 (e ▸ hi))
          simp [this, e]
        · exact .inr ⟨k, c, e, z.sameBut hs (cne y c e)⟩
    · obtain ⟨w', z⟩ := I.cell y c e
      exact ⟨w', z.sameBut hs (cne y c e)⟩
    · obtain ⟨e, n, ne, nf, d⟩ := I.pin p hp
      exact ⟨(hs.2 p.1 ne).trans e, n, ne, nf, d⟩
  · have hfn : X.fn x = true := by
      rcases hf with z | z
      · exact z
      · rw [z] at hk; cases hk
    obtain ⟨c, hc⟩ := I.ok.has x (.inl hk)
    obtain ⟨w', z⟩ := I.cell x c hc
    refine wpAny_storeName_cell I.ok.kind hk hc z (fun h' hc' hs => ?_)
    obtain ⟨oc, hoc, hocd⟩ := id z
    refine h { s with heap := h' } ⟨I.ok, I.os, I.bare, ⟨fun b o e n hb hx => ?_, fun b o e n hb hx => ?_, I.base.free, fun b o e hx => ?_, I.base.tups, I.base.frzs, I.base.tbls⟩, ⟨m, hn.sameBut hs (Ne.symm (cne x c hc)), fun j y v' e1 e2 e3 => ?_⟩, fun y c' e => ?_, I.free, I.freeC, fun p hp => ?_, tracked ⟨oc, hoc, I.freeC x c hc⟩ hs, by simpa using I.len⟩ ⟨c, hs, .inr hc⟩
    · exact (hs.2 b (Nat.ne_of_lt (Nat.lt_of_lt_of_le (Heap.lt_size e) (I.ok.cab x c hfn hc)))).trans (I.base.keep b o e n hb hx)
    · obtain ⟨sl, e1⟩ := I.base.slot b o e n hb hx
      exact ⟨sl, (hs.2 b (Nat.ne_of_lt (Nat.lt_of_lt_of_le (Heap.lt_size e) (I.ok.cab x c hfn hc)))).trans e1⟩
    · obtain ⟨o', e1⟩ := I.base.there b o e hx
      exact ⟨o', (hs.2 b (Nat.ne_of_lt (Nat.lt_of_lt_of_le (Heap.lt_size e) (I.ok.cab x c hfn hc)))).trans e1⟩
    · by_cases hj : j = i
      · subst hj
        rw [hi] at e1; cases e1
        rw [List.getElem?_set_self hiσ] at e2
        cases e2
        exact ⟨u, r, .inr ⟨.inl hk, c, hc, hc'⟩⟩
      · rw [List.getElem?_set_ne (Ne.symm hj)] at e2
        obtain ⟨u', r', q⟩ := hl j y v' e1 e2 e3
        refine ⟨u', r', ?_⟩
        rcases q with q | ⟨k, c', e, z'⟩
        · exact .inl q
        · refine .inr ⟨k, c', e, z'.sameBut hs ?_⟩
          rintro rfl
          exact hj (nodup_ix hN e1 (I.ok.inj _ _ _ e hc ▸ hi))
    · by_cases hcc : c' = c
      · subst hcc; exact ⟨_, hc'⟩
      · obtain ⟨w2, z2⟩ := I.cell y c' e
        exact ⟨w2, z2.sameBut hs hcc⟩
    · obtain ⟨e, n, ne, nf, d⟩ := I.pin p hp
      refine ⟨(hs.2 p.1 ?_).trans e, n, ne, nf, d⟩
      intro q
      rw [q, hoc] at e
      have q' : oc = p.2 := Option.some.inj e
      exact d w' (by rw [← q']; exact hocd)
theorem store_ok {M : Model} {A : Around} {E : Value → Shared → Prop} {i : Nat} {x : Str} {v : V} {u : Value} {Q : Unit → Shared → Prop} (I : Inv X pins σ H s) (hN : X.N.Nodup) (hi : X.N[i]? = some x) (hx : Loc X.env.scope x) (r : RelV v u)
    (h : ∀ s', Inv X pins (σ.set i (some v)) H s' → Q () s') (hf : X.fn x = true ∨ X.env.scope.names.lookup x = some .local := by first | exact .inl rfl | exact .inr rfl | assumption) : wpAny M A (storeName X.env x u) Q E s :=
  store_ok2 I hN hi hx r (fun s' I' _ => h s' I') hf
theorem Inv.call' {s' : Shared} {ch : List Addr} (I : Inv X pins σ H s) (ho : s'.os = s.os) (u : Un (frs X.stack) ch H H' s.heap s'.heap) (hok : HOk X.prog X.w H' s'.heap) (hg : AllBare s'.gens)
    (hch : ∀ b ∈ ch, (b ∈ X.ex ∨ X.s₀.heap.objs.size ≤ b) ∧ b ≠ X.env.locals ∧ (∀ x c, X.env.cells.lookup x = some c → c ≠ b) ∧ ∀ p ∈ X.pn ++ pins, p.1 ≠ b) : Inv X pins σ H' s' := by
  obtain ⟨h', g', d', t', o'⟩ := s'
  have e : o' = s.os := ho
  subst e
  exact I.call (g' := g') (t' := t') (d' := d') u hok hg hch
end
noncomputable abbrev XK := Value → Option Addr → Hp → Prop
noncomputable abbrev St := List (Option V)
noncomputable abbrev VK := V → Hp → Prop
noncomputable abbrev TE := St → Hp → VK → Prop
noncomputable abbrev TT := St → Hp → (Bool → Hp → Prop) → Prop
noncomputable abbrev TA := St → Hp → (List V → Hp → Prop) → Prop
structure Ends where
  nx : St → Hp → Prop
  rt : VK
  bk : St → Hp → Prop := fun _ _ => False
  ct : St → Hp → Prop := fun _ _ => False
noncomputable abbrev TS := Ends → St → Hp → Prop
noncomputable def EP (X : Cx) (pins : List (Addr × Obj)) (σ : St) (Q : VK) (u : Value) (s' : Shared) : Prop := ∃ v H', Inv X pins σ H' s' ∧ RelV v u ∧ Q v H'
noncomputable def TP (X : Cx) (pins : List (Addr × Obj)) (σ : St) (Q : Bool → Hp → Prop) (b : Bool) (s' : Shared) : Prop := ∃ H', Inv X pins σ H' s' ∧ Q b H'
noncomputable def AP (X : Cx) (pins : List (Addr × Obj)) (σ : St) (Q : List V → Hp → Prop) (us : List Value) (s' : Shared) : Prop := ∃ vs H', Inv X pins σ H' s' ∧ Vals vs us ∧ Q vs H'
noncomputable def SP (X : Cx) (pins : List (Addr × Obj)) (D : Ends) (f : Flow) (s' : Shared) : Prop :=
  match f with
  | .next => ∃ σ' H', Inv X pins σ' H' s' ∧ D.nx σ' H'
  | .brk => ∃ σ' H', Inv X pins σ' H' s' ∧ D.bk σ' H'
  | .cont => ∃ σ' H', Inv X pins σ' H' s' ∧ D.ct σ' H'
  | .ret u => ∃ v σ' H', Inv X pins σ' H' s' ∧ RelV v u ∧ D.rt v H'
noncomputable def PE (X : Cx) (e : Expr) (t : TE) : Prop :=
  ∀ (pins : List (Addr × Obj)) (s : Shared) (σ : St) (H : Hp) (Q : VK), Inv X pins σ H s → t σ H Q → wpAny (model X.prog X.w) X.A (eval e X.env) (EP X pins σ Q) X.xe s
noncomputable def PT (X : Cx) (e : Expr) (t : TT) : Prop :=
  ∀ (pins : List (Addr × Obj)) (s : Shared) (σ : St) (H : Hp) (Q : Bool → Hp → Prop), Inv X pins σ H s → t σ H Q → wpAny (model X.prog X.w) X.A (isTrue e X.env (eval e X.env)) (TP X pins σ Q) X.xe s
noncomputable def PW (X : Cx) (e : Expr) (t : TT) : Prop :=
  ∀ (whole : Sem Value) (pins : List (Addr × Obj)) (s : Shared) (σ : St) (H : Hp) (Q : Bool → Hp → Prop), Inv X pins σ H s → t σ H Q → wpAny (model X.prog X.w) X.A (isTrue e X.env whole) (TP X pins σ Q) X.xe s
theorem PW.pt {X : Cx} {e : Expr} {t : TT} (h : PW X e t) : PT X e t := h _
noncomputable def PA (X : Cx) (es : List Expr) (t : TA) : Prop :=
  ∀ (pos : Pos) (pins : List (Addr × Obj)) (s : Shared) (σ : St) (H : Hp) (Q : List V → Hp → Prop), Inv X pins σ H s → t σ H Q → wpAny (model X.prog X.w) X.A (spliced (backTo pos (starEach es X.env))) (AP X pins σ Q) X.xe s
noncomputable def PS (X : Cx) (st : Stmt) (t : TS) : Prop :=
  ∀ (pins : List (Addr × Obj)) (s : Shared) (σ : St) (H : Hp) (D : Ends), Inv X pins σ H s → t D σ H → wpAny (model X.prog X.w) X.A (exec st X.env) (SP X pins D) X.xe s
noncomputable def PSs (X : Cx) (st : List Stmt) (t : TS) : Prop :=
  ∀ (pins : List (Addr × Obj)) (s : Shared) (σ : St) (H : Hp) (D : Ends), Inv X pins σ H s → t D σ H → wpAny (model X.prog X.w) X.A (execs st X.env) (SP X pins D) X.xe s
theorem thn {α : Type} {t : Sem α} {Q Q' : α → Shared → Prop} {M : Model} {A : Around} {E : Value → Shared → Prop} {s : Shared} (h : wpAny M A t Q E s) (hQ : ∀ a s, Q a s → Q' a s) : wpAny M A t Q' E s := wpAny_mono h hQ fun _ _ x => x
end L2
namespace L2
open PySem PySem.Spec PyProof.Rows
section
variable {X : Cx}
noncomputable def tVar (i : Nat) : TE := fun σ H Q => ∃ v, σ[i]? = some (some v) ∧ Q v H
noncomputable def tC (v : V) : TE := fun _ H Q => Q v H
theorem pe_var {i : Nat} {x : Str} {pos : Pos} (hN : X.N[i]? = some x) (hv : Vis X.env.scope x) (hd : (x == ("__debug__" : Str)) = false := by decide) (hcd : (x == ("__classdict__" : Str)) = false := by decide) : PE X (.Name x pos) (tVar i) := by
  intro pins s σ H Q I h
  obtain ⟨v, e, h⟩ := h
  obtain ⟨m, hn, hl⟩ := I.loc
  obtain ⟨u, r, l⟩ := hl i x v hN e hv
  have fin : EP X pins σ Q u s := ⟨v, H, I, r, h⟩
  rcases l with ⟨hk, hm⟩ | ⟨hk, c, hc, hcell⟩
  · exact wpAny_Name (wpAny_loadName_local I.ok.kind hk hn hm fin) hd
  · rcases hk with hk | hk
    · exact wpAny_Name (wpAny_loadName_cell I.ok.kind hk hc hcell fin) hd
    · exact wpAny_Name (wpAny_loadName_free I.ok.kind hk hc hcell fin hcd) hd
theorem pe_int {i j pos} : PE X (.Constant (.int i) j pos) (tC (.int i)) := fun _ _ _ H _ I h => wpAny_Constant_int ⟨.int i, H, I.tok _, ⟨_, rfl⟩, h⟩
theorem pe_bl {b j pos} : PE X (.Constant (.bool b) j pos) (tC (.bl b)) := fun _ _ _ H _ I h => Constant_bool ⟨.bl b, H, I, rfl, h⟩
theorem pe_non {j pos} : PE X (.Constant .none j pos) (tC .non) := fun _ _ _ H _ I h => Constant_none ⟨.non, H, I, rfl, h⟩
noncomputable def Gl (X : Cx) (x : Str) : Prop := X.env.kindOf x = some .globalImplicit
theorem ld_glob {E : Value → Shared → Prop} {pins : List (Addr × Obj)} {s : Shared} {σ : St} {H : Hp} {x : Str} {u : Value} {pos : Pos} {Q : Value → Shared → Prop} (I : Inv X pins σ H s) (hg : Gl X x) (hm : X.mg x = some u) (h : Q u s)
    (hd : (x == ("__debug__" : Str)) = false := by decide) : wpAny (model X.prog X.w) X.A (eval (.Name x pos) X.env) Q E s :=
  Calls.Name_function_global I.ok.kind hg (Calls.loadGlobal_global (by rw [I.ok.glob]; exact I.mod.glob.keeps I.bk) hm h) hd
theorem ld_blt {E : Value → Shared → Prop} {pins : List (Addr × Obj)} {s : Shared} {σ : St} {H : Hp} {x : Str} {u : Value} {pos : Pos} {Q : Value → Shared → Prop} (I : Inv X pins σ H s) (hg : Gl X x) (hm : X.mg x = none) (hv : bootBuiltins x = some u) (h : Q u s)
    (hn : x ≠ "__name__" := by decide) (hd : (x == ("__debug__" : Str)) = false := by decide) : wpAny (model X.prog X.w) X.A (eval (.Name x pos) X.env) Q E s := by
  obtain ⟨mb, h1, h2⟩ := I.mod.blt
  exact Calls.Name_function_global I.ok.kind hg (Calls.loadGlobal_builtin (by rw [I.ok.glob]; exact I.mod.glob.keeps I.bk) hm (by rw [I.ok.blt]; exact h1.keeps I.bk) ((h2 x hn).trans hv) h) hd
theorem pe_glob {x : Str} {v : V} {u : Value} {pos : Pos} (hg : Gl X x) (hm : X.mg x = some u) (r : RelV v u) (hd : (x == ("__debug__" : Str)) = false := by decide) : PE X (.Name x pos) (tC v) :=
  fun _ _ _ H _ I h => ld_glob I hg hm ⟨v, H, I, r, h⟩ hd
theorem pe_bltn {x : Str} {v : V} {u : Value} {pos : Pos} (hg : Gl X x) (hm : X.mg x = none) (hv : bootBuiltins x = some u) (r : RelV v u) (hn : x ≠ "__name__" := by decide) (hd : (x == ("__debug__" : Str)) = false := by decide) : PE X (.Name x pos) (tC v) :=
  fun _ _ _ H _ I h => ld_blt I hg hm hv ⟨v, H, I, r, h⟩ hn hd
variable {a b : Expr} {ta tb : TE} {pos : Pos}
noncomputable def PC (X : Cx) (op : CmpOp) (a b : Expr) (t : TE) : Prop :=
  ∀ (pins : List (Addr × Obj)) (s : Shared) (σ : St) (H : Hp) (Q : VK), Inv X pins σ H s → t σ H Q →
    wpAny (model X.prog X.w) X.A (eval a X.env) (fun v s₁ => wpAny (model X.prog X.w) X.A (eval b X.env) (fun u s₂ => wpAny (model X.prog X.w) X.A (compareOp op v u) (EP X pins σ Q) X.xe s₂) X.xe s₁) X.xe s
theorem nobehind (b : Expr) {op : CmpOp} (h : op ≠ .In) (h2 : op ≠ .NotIn) : behindInMarks op b = false := by
  have e1 : (op == CmpOp.In) = false := by cases op <;> first | rfl | exact absurd rfl h
  have e2 : (op == CmpOp.NotIn) = false := by cases op <;> first | rfl | exact absurd rfl h2
  cases b <;> simp [behindInMarks, e1, e2]
noncomputable def tNotN (ta : TE) : TE := fun σ H Q => ta σ H fun x H1 => Q (.bl (!decide (x = .non))) H1
theorem RelV.none_iff {x : V} {v : Value} (r : RelV x v) : (v == Value.none) = decide (x = .non) := by
  cases x with
  | non => cases r; rfl
  | bl _ => cases r; rfl
  | int _ => obtain ⟨t, rfl⟩ := r; rfl
  | str _ => obtain ⟨t, rfl⟩ := r; rfl
  | byt _ => obtain ⟨t, rfl⟩ := r; rfl
  | flt _ => obtain ⟨t, rfl⟩ := r; rfl
  | ref _ => cases r; rfl
  | ty _ => cases r; rfl
theorem pc_notN {j pos'} (ha : PE X a ta) : PC X .IsNot a (.Constant .none j pos') (tNotN ta) := by
  intro pins s σ H Q I h
  refine thn (ha pins s σ H _ I h) fun v s1 ⟨x, H1, I1, r1, q1⟩ => ?_
  exact Constant_none (isnot_none_gen ⟨.bl _, H1, I1, by rw [r1.none_iff]; rfl, q1⟩)
noncomputable def tB (t : TE) : TT := fun σ H Q => t σ H fun x H1 => ∃ c, x = .bl c ∧ Q c H1
theorem pe_cmp {op : CmpOp} {t : TE} (h : PC X op a b t) (h1 : behindInMarks op b = false := by first | exact nobehind _ (by decide) (by decide) | rfl) : PE X (.Compare a [op] [b] pos) t := fun pins s σ H Q I hw => wpAny_Compare1 (h pins s σ H Q I hw) h1
theorem pt_cmp {op : CmpOp} {t : TE} (h : PC X op a b t) (h1 : behindInMarks op b = false := by first | exact nobehind _ (by decide) (by decide) | rfl) : PT X (.Compare a [op] [b] pos) (tB t) := by
  intro pins s σ H Q I hw
  refine wpAny_isTrue_Compare1 (thn (h pins s σ H _ I hw) fun v s1 h1 => thn h1 fun u s2 h2 => thn h2 fun c s3 ⟨x, H1, I1, r1, q1⟩ => ?_) h1
  obtain ⟨d, rfl, q⟩ := q1
  cases r1
  exact wpAny_truthy_bool ⟨H1, I1, q⟩
theorem pt_val {e : Expr} {t : TE} (h : PE X e t) (he : ∀ whole, isTrue e X.env whole = (do let v ← whole; standAt e.pos; holding [v] (truthy v)) := by intro _; rfl) : PT X e (tB t) := by
  intro pins s σ H Q I hw
  refine isTrue_plain (thn (h pins s σ H _ I hw) fun v s1 ⟨x, H1, I1, r1, q1⟩ => ?_) (he _)
  obtain ⟨d, rfl, q⟩ := q1
  cases r1
  exact wpAny_truthy_bool ⟨H1, I1, q⟩
variable {tA tB' : TT} {rest : List Expr}
noncomputable def tAnd (t u : TT) : TT := fun σ H Q => t σ H fun c H1 => if c = true then u σ H1 Q else Q false H1
noncomputable def tOr (t u : TT) : TT := fun σ H Q => t σ H fun c H1 => if c = true then Q true H1 else u σ H1 Q
noncomputable def tNot (t : TT) : TT := fun σ H Q => t σ H fun c H1 => Q (!c) H1
theorem pw_and1 (ha : PT X a tA) : PW X (.BoolOp .And [a] pos) tA := by
  intro wh pins s σ H Q I h
  refine isTrue_and (thn (ha pins s σ H Q I h) fun c s1 e => ?_)
  cases c with
  | true => exact isTrue_and_nil e
  | false => exact e
theorem pw_or1 (ha : PT X a tA) : PW X (.BoolOp .Or [a] pos) tA := by
  intro wh pins s σ H Q I h
  refine isTrue_or (thn (ha pins s σ H Q I h) fun c s1 e => ?_)
  cases c with
  | false => exact isTrue_or_nil e
  | true => exact e
theorem pw_and (ha : PT X a tA) (hb : PW X (.BoolOp .And (b :: rest) pos) tB') : PW X (.BoolOp .And (a :: b :: rest) pos) (tAnd tA tB') := by
  intro wh pins s σ H Q I h
  refine isTrue_and (thn (ha pins s σ H _ I h) fun c s1 ⟨H1, I1, q1⟩ => ?_)
  cases c with
  | true => exact hb wh pins s1 σ H1 Q I1 q1
  | false => exact ⟨H1, I1, q1⟩
theorem pw_or (ha : PT X a tA) (hb : PW X (.BoolOp .Or (b :: rest) pos) tB') : PW X (.BoolOp .Or (a :: b :: rest) pos) (tOr tA tB') := by
  intro wh pins s σ H Q I h
  refine isTrue_or (thn (ha pins s σ H _ I h) fun c s1 ⟨H1, I1, q1⟩ => ?_)
  cases c with
  | true => exact ⟨H1, I1, q1⟩
  | false => exact hb wh pins s1 σ H1 Q I1 q1
theorem pt_not (ha : PT X a tA) : PT X (.UnaryOp .Not a pos) (tNot tA) := by
  intro pins s σ H Q I h
  exact isTrue_not (ha pins s σ H (fun c H1 => Q (!c) H1) I h)
noncomputable def tAndV (ta tb : TE) : TE := fun σ H Q => ta σ H fun x H1 => ∃ c, x = .bl c ∧ if c = true then tb σ H1 Q else Q (.bl false) H1
noncomputable def tOrV (ta tb : TE) : TE := fun σ H Q => ta σ H fun x H1 => ∃ c, x = .bl c ∧ if c = true then Q (.bl true) H1 else tb σ H1 Q
noncomputable def tNotV (ta : TE) : TE := fun σ H Q => ta σ H fun x H1 => ∃ c, x = .bl c ∧ Q (.bl (!c)) H1
theorem pe_one {op} {t : TE} (h : PE X a t) : PE X (.BoolOp op [a] pos) t := fun pins s σ H Q I hw => BoolOp_one (h pins s σ H Q I hw)
theorem pe_and (ha : PE X a ta) (hb : PE X (.BoolOp .And (b :: rest) pos) tb) : PE X (.BoolOp .And (a :: b :: rest) pos) (tAndV ta tb) := by
  intro pins s σ H Q I h
  refine BoolOp_and (thn (ha pins s σ H _ I h) fun v s1 ⟨x, H1, I1, r1, q1⟩ => ?_)
  obtain ⟨c, rfl, q1⟩ := q1
  cases r1
  refine wpAny_truthy_bool ?_
  cases c with
  | true => exact hb pins s1 σ H1 Q I1 q1
  | false => exact ⟨.bl false, H1, I1, rfl, q1⟩
theorem pe_or (ha : PE X a ta) (hb : PE X (.BoolOp .Or (b :: rest) pos) tb) : PE X (.BoolOp .Or (a :: b :: rest) pos) (tOrV ta tb) := by
  intro pins s σ H Q I h
  refine BoolOp_or (thn (ha pins s σ H _ I h) fun v s1 ⟨x, H1, I1, r1, q1⟩ => ?_)
  obtain ⟨c, rfl, q1⟩ := q1
  cases r1
  refine wpAny_truthy_bool ?_
  cases c with
  | false => exact hb pins s1 σ H1 Q I1 q1
  | true => exact ⟨.bl true, H1, I1, rfl, q1⟩
theorem pe_not (ha : PE X a ta) : PE X (.UnaryOp .Not a pos) (tNotV ta) := by
  intro pins s σ H Q I h
  refine UnaryOp_ (thn (ha pins s σ H _ I h) fun v s1 ⟨x, H1, I1, r1, q1⟩ => ?_)
  obtain ⟨c, rfl, q1⟩ := q1
  cases r1
  exact not_of (wpAny_truthy_bool ⟨.bl (!c), H1, I1, rfl, q1⟩)
end
end L2
namespace L2
open PySem PySem.Spec PyProof.Rows
noncomputable def SqL (K : PySem.W.Frag) (H : Hp) (a : Addr) (xs : List V) : Prop :=
  Rd H a (.lst xs) ∨
    ∃ (o : Obj) (its : Array Value) (n : Nat), K.lookup a = some o ∧ o.cls = .type "list" ∧ o.dict = none ∧ o.data = .seq its n ∧ its.size ≤ sizeLine ∧ Vals xs its.toList
noncomputable def SqT (K : PySem.W.Frag) (H : Hp) (a : Addr) (xs : List V) : Prop :=
  Rd H a (.tup xs) ∨
    ∃ (o : Obj) (its : Array Value) (n : Nat), K.lookup a = some o ∧ o.cls = .type "tuple" ∧ o.data = .seq its n ∧ its.size ≤ sizeLine ∧ Vals xs its.toList
noncomputable def absV : Value → Option V
  | .none => some .non
  | .bool b => some (.bl b)
  | .int i _ => some (.int i)
  | .str x _ => some (.str x)
  | .bytes b _ => some (.byt b)
  | .float b _ => some (.flt b)
  | .ref a => some (.ref a)
  | .type n => some (.ty n)
  | _ => none
theorem RelV.abs {x : V} {u : Value} (r : RelV x u) : absV u = some x := by
  cases x with
  | non => cases r; rfl
  | bl _ => cases r; rfl
  | int _ => obtain ⟨t, rfl⟩ := r; rfl
  | str _ => obtain ⟨t, rfl⟩ := r; rfl
  | byt _ => obtain ⟨t, rfl⟩ := r; rfl
  | flt _ => obtain ⟨t, rfl⟩ := r; rfl
  | ref _ => cases r; rfl
  | ty _ => cases r; rfl
theorem RelV.inj {x y : V} {u : Value} (r : RelV x u) (q : RelV y u) : x = y := Option.some.inj (r.abs.symm.trans q.abs)
theorem Vals.inj : ∀ {xs ys : List V} {us : List Value}, Vals xs us → Vals ys us → xs = ys
  | _, _, _, .nil, .nil => rfl
  | _, _, _, .cons r t, .cons r' t' => by rw [r.inj r', Vals.inj t t']
section
variable {X : Cx} {pins : List (Addr × Obj)} {σ : St} {H : Hp} {s : Shared} {a : Addr} {xs ys : List V}
theorem SqL.of {K : PySem.W.Frag} (h : H a = some (.lst xs)) : SqL K H a xs := .inl (.inl h)
theorem SqT.of {K : PySem.W.Frag} (h : H a = some (.tup xs)) : SqT K H a xs := .inl (.inl h)
theorem Inv.list (I : Inv X pins σ H s) (h : SqL X.K H a xs) : ∃ its : List Value, Vals xs its ∧ PlainL s.heap a its.toArray ∧ xs.length ≤ sizeLine := by
  rcases h with h | ⟨o, its, n, hk, hc, hd, hs, hz, r⟩
  · obtain ⟨z, its, n, r, e⟩ := h.ok I.hok
    exact ⟨its, r, ⟨_, n, e, rfl, rfl, rfl⟩, z⟩
  · refine ⟨its.toList, r, ⟨o, n, I.kIn a o hk, hc, hd, by simpa using hs⟩, ?_⟩
    have e := r.length
    simp only [Array.length_toList] at e
    omega
theorem Inv.tuple (I : Inv X pins σ H s) (h : SqT X.K H a xs) : ∃ its : List Value, Vals xs its ∧ IsTup s.heap a its.toArray ∧ xs.length ≤ sizeLine := by
  rcases h with h | ⟨o, its, n, hk, hc, hs, hz, r⟩
  · obtain ⟨z, its, r, p⟩ := h.ok I.hok
    exact ⟨its, r, p, z⟩
  · refine ⟨its.toList, r, ⟨o, I.kIn a o hk, hc, n, by simpa using hs⟩, ?_⟩
    have e := r.length
    simp only [Array.length_toList] at e
    omega
theorem Inv.list_inj (I : Inv X pins σ H s) (h : SqL X.K H a xs) (h' : SqL X.K H a ys) : xs = ys := by
  obtain ⟨its, r, ⟨o, n, e, _, _, d⟩, _⟩ := I.list h
  obtain ⟨its', r', ⟨o', n', e', _, _, d'⟩, _⟩ := I.list h'
  rw [e] at e'; cases e'
  rw [d] at d'
  injection d' with d1 _
  have : its = its' := by simpa using congrArg Array.toList d1
  subst this
  exact r.inj r'
theorem Inv.tuple_inj (I : Inv X pins σ H s) (h : SqT X.K H a xs) (h' : SqT X.K H a ys) : xs = ys := by
  obtain ⟨its, r, ⟨o, e, _, n, d⟩, _⟩ := I.tuple h
  obtain ⟨its', r', ⟨o', e', _, n', d'⟩, _⟩ := I.tuple h'
  rw [e] at e'; cases e'
  rw [d] at d'
  injection d' with d1 _
  have : its = its' := by simpa using congrArg Array.toList d1
  subst this
  exact r.inj r'
end
noncomputable abbrev Cx.wish (X : Cx) (E : Value → Shared → Prop) : Cx := { X with xe := E }
noncomputable abbrev Cx.nox (X : Cx) : Cx := X.wish fun _ _ => False
theorem Cx.Ok.wish {X : Cx} (ok : X.Ok) (E : Value → Shared → Prop) : (X.wish E).Ok :=
  ⟨ok.mod, ok.kind, ok.glob, ok.blt, ok.above, ok.inj, ok.has, ok.cab, ok.hd, ok.frames, ok.stk, ok.exf, ok.bs, ok.bsz, ok.noex, ok.exfs, ok.funs, ok.frf⟩
theorem Cx.Ok.unwish {X : Cx} {E : Value → Shared → Prop} (ok : (X.wish E).Ok) : X.Ok :=
  ⟨ok.mod, ok.kind, ok.glob, ok.blt, ok.above, ok.inj, ok.has, ok.cab, ok.hd, ok.frames, ok.stk, ok.exf, ok.bs, ok.bsz, ok.noex, ok.exfs, ok.funs, ok.frf⟩
section
variable {X : Cx} {pins : List (Addr × Obj)} {σ : St} {H : Hp} {s : Shared} {E : Value → Shared → Prop}
theorem Inv.wish (I : Inv X pins σ H s) (E : Value → Shared → Prop) : Inv (X.wish E) pins σ H s := ⟨I.ok.wish E, I.os, I.bare, I.base, I.loc, I.cell, I.free, I.freeC, I.pin, I.hok, I.len⟩
theorem Inv.unwish (I : Inv (X.wish E) pins σ H s) : Inv X pins σ H s := ⟨I.ok.unwish, I.os, I.bare, I.base, I.loc, I.cell, I.free, I.freeC, I.pin, I.hok, I.len⟩
theorem SP.unwish {D : Ends} {f : Flow} {s' : Shared} (h : SP (X.wish E) pins D f s') : SP X pins D f s' := by
  cases f with
  | next => obtain ⟨σ', H', I, q⟩ := h; exact ⟨σ', H', I.unwish, q⟩
  | brk => obtain ⟨σ', H', I, q⟩ := h; exact ⟨σ', H', I.unwish, q⟩
  | cont => obtain ⟨σ', H', I, q⟩ := h; exact ⟨σ', H', I.unwish, q⟩
  | ret u => obtain ⟨v, σ', H', I, r, q⟩ := h; exact ⟨v, σ', H', I.unwish, r, q⟩
theorem PE.nox {e : Expr} {t : TE} (h : PE X.nox e t) : PE X e t := fun pins s σ H Q I hw =>
  wpAny_mono (h pins s σ H Q (I.wish _) hw) (fun _ _ ⟨v, H', I', r, q⟩ => ⟨v, H', I'.unwish, r, q⟩) fun _ _ z => False.elim z
theorem PT.nox {e : Expr} {t : TT} (h : PT X.nox e t) : PT X e t := fun pins s σ H Q I hw =>
  wpAny_mono (h pins s σ H Q (I.wish _) hw) (fun _ _ ⟨H', I', q⟩ => ⟨H', I'.unwish, q⟩) fun _ _ z => False.elim z
theorem PSs.nox {st : List Stmt} {t : TS} (h : PSs X.nox st t) : PSs X st t := fun pins s σ H D I hw =>
  wpAny_mono (h pins s σ H D (I.wish _) hw) (fun _ _ q => q.unwish) fun _ _ z => False.elim z
end
section
variable {X : Cx} {st : Stmt} {rest : List Stmt} {t u : TS} {e : Expr} {te : TE} {pos : Pos}
noncomputable def tNext : TS := fun D σ H => D.nx σ H
noncomputable def tSeq (t u : TS) : TS := fun D σ H => t { D with nx := u D } σ H
theorem pss_nil : PSs X [] tNext := fun _ _ σ H _ I h => wpAny_execs_nil ⟨σ, H, I, h⟩
theorem pss_cons (h1 : PS X st t) (h2 : PSs X rest u) : PSs X (st :: rest) (tSeq t u) := by
  intro pins s σ H D I h
  refine wpAny_execs_cons (thn (h1 pins s σ H { D with nx := u D } I h) fun f s1 q => ?_)
  cases f with
  | next =>
    obtain ⟨σ', H', I', q⟩ := q
    exact h2 pins s1 σ' H' D I' q
  | ret v => exact q
  | brk => exact q
  | cont => exact q
theorem pss_one (h1 : PS X st t) : PSs X [st] t := by
  intro pins s σ H D I h
  refine wpAny_execs_cons (thn (h1 pins s σ H D I h) fun f s1 q => ?_)
  cases f with
  | next => exact wpAny_execs_nil q
  | ret v => exact q
  | brk => exact q
  | cont => exact q
theorem Inv.quiet {pins : List (Addr × Obj)} {σ : St} {H : Hp} {s : Shared} (I : Inv X pins σ H s) : interactive X.env = false := by simp [interactive, I.ok.kind]
noncomputable def tDrop (te : TE) : TS := fun D σ H => te σ H fun _ H1 => D.nx σ H1
theorem ps_expr (he : PE X e te) (hs : swapsWith e none pos.line X.env = pure false := by rfl) : PS X (.Expr e pos) (tDrop te) := by
  intro pins s σ H D I h
  exact wpAny_Expr_any (thn (he pins s σ H _ I h) fun v s1 ⟨x, H1, I1, r1, q1⟩ => ⟨σ, H1, I1, q1⟩) I.quiet hs
noncomputable def tRet (te : TE) : TS := fun D σ H => te σ H D.rt
theorem ps_ret (he : PE X e te) : PS X (.Return (some e) pos) (tRet te) := by
  intro pins s σ H D I h
  exact wpAny_Return_some (thn (he pins s σ H _ I h) fun v s1 ⟨x, H1, I1, r1, q1⟩ => ⟨x, σ, H1, I1, r1, q1⟩)
noncomputable def tIfS (c : TT) (t u : TS) : TS := fun D σ H => c σ H fun b H1 => if b = true then t D σ H1 else u D σ H1
theorem ps_if {c : Expr} {a b : List Stmt} {tc : TT} (hc : PT X c tc) (ha : PSs X a t) (hb : PSs X b u) : PS X (.If c a b pos) (tIfS tc t u) := by
  intro pins s σ H D I h
  refine wpAny_If (thn (hc pins s σ H _ I h) fun d s1 ⟨H1, I1, q1⟩ => ?_)
  cases d with
  | true => exact ha pins s1 σ H1 D I1 q1
  | false => exact hb pins s1 σ H1 D I1 q1
noncomputable def tNever : TS := fun _ _ _ => False
theorem ps_never : PS X st tNever := fun _ _ _ _ _ _ h => h.elim
end
noncomputable abbrev TG := V → St → Hp → (St → Hp → Prop) → Prop
noncomputable abbrev TGs := List V → St → Hp → (St → Hp → Prop) → Prop
noncomputable def PG (X : Cx) (target : Expr) (t : TG) : Prop :=
  ∀ (pins : List (Addr × Obj)) (s : Shared) (σ : St) (H : Hp) (v : V) (u : Value) (Q : St → Hp → Prop), Inv X pins σ H s → RelV v u → t v σ H Q →
    wpAny (model X.prog X.w) X.A (assign target X.env u) (fun _ s' => ∃ σ' H', Inv X pins σ' H' s' ∧ Q σ' H') X.xe s
noncomputable def PGs (X : Cx) (ts : List Expr) (t : TGs) : Prop :=
  ∀ (pins : List (Addr × Obj)) (s : Shared) (σ : St) (H : Hp) (vs : List V) (us : List Value) (Q : St → Hp → Prop), Inv X pins σ H s → Vals vs us → t vs σ H Q →
    wpAny (model X.prog X.w) X.A (assignInOrder ((assignEach ts X.env).map (·.2)) us) (fun _ s' => ∃ σ' H', Inv X pins σ' H' s' ∧ Q σ' H') X.xe s
section
variable {X : Cx} {pos : Pos}
noncomputable def gName (i : Nat) : TG := fun v σ H Q => Q (σ.set i (some v)) H
theorem pg_name {i : Nat} {x : Str} (hN : X.N.Nodup) (hi : X.N[i]? = some x) (hx : Loc X.env.scope x) (hf : X.fn x = true ∨ X.env.scope.names.lookup x = some .local := by first | exact .inl rfl | exact .inr rfl | assumption) : PG X (.Name x pos) (gName i) := by
  intro pins s σ H v u Q I r h
  exact wpAny_assign_Name (store_ok I hN hi hx r (fun s' I' => ⟨_, H, I', h⟩) hf)
noncomputable def gNil : TGs := fun vs σ H Q => vs = [] ∧ Q σ H
noncomputable def gCons (t : TG) (u : TGs) : TGs := fun vs σ H Q => ∃ v r, vs = v :: r ∧ t v σ H fun σ' H' => u r σ' H' Q
theorem pgs_nil : PGs X [] gNil := by
  intro pins s σ H vs us Q I r h
  obtain ⟨e, h⟩ := h
  subst e
  cases r
  exact assignInOrder_nil ⟨σ, H, I, h⟩
theorem pgs_cons {e : Expr} {es : List Expr} {t : TG} {u : TGs} (h1 : PG X e t) (h2 : PGs X es u)
    (hs : (assignEach (e :: es) X.env).map (·.2) = assign e X.env :: (assignEach es X.env).map (·.2) := by rfl) : PGs X (e :: es) (gCons t u) := by
  intro pins s σ H vs us Q I r h
  obtain ⟨v, vr, e1, h⟩ := h
  subst e1
  cases r with
  | cons r rr =>
    rw [hs]
    refine assignInOrder_cons (thn (h1 pins s σ H _ _ _ I r h) fun _ s1 ⟨σ1, H1, I1, q1⟩ => ?_)
    exact h2 pins s1 σ1 H1 _ _ Q I1 rr q1
noncomputable def gTup (K : PySem.W.Frag) (n : Nat) (t : TGs) : TG := fun v σ H Q => ∃ a xs, v = .ref a ∧ SqT K H a xs ∧ xs.length = n ∧ t xs σ H Q
theorem pg_tup {es : List Expr} {k : Nat} {t : TGs} {n : Nat} (hc : X.calm = true) (h : PGs X es t)
    (hn : (assignEach es X.env).length = n := by rfl) (hst : (assignEach es X.env).findIdx? (·.1) = none := by rfl) : PG X (.Tuple es k pos) (gTup X.K n t) := by
  intro pins s σ H v u Q I r hw
  obtain ⟨a, xs, e1, hq, hl, hw⟩ := hw
  subst e1
  cases r
  obtain ⟨its, rv, ht, hz⟩ := I.tuple hq
  refine assign_Tuple_tuple (I.ok.hd hc) ht (by simp [hn, ← hl, rv.length]) hst fun h' hx => ?_
  have I1 : Inv X pins σ H { s with heap := h' } := I.kept (t' := s.toks) fun b o e => hx b o (Nat.ne_of_lt (Heap.lt_size e)) e
  exact h pins _ σ H xs _ Q I1 (by simpa using rv) hw
noncomputable def tAsg (te : TE) (g : TG) : TS := fun D σ H => te σ H fun x H1 => g x σ H1 D.nx
theorem ps_asg {tg e : Expr} {te : TE} {g : TG} (he : PE X e te) (hg : PG X tg g) (hs : swapsWithSole [tg] e pos.line X.env = pure false := by rfl) (hw : swappedStores [tg] e X.env = pure none := by rfl)
    (h1 : (assignEach [tg] X.env).map (·.2) = [assign tg X.env] := by rfl) : PS X (.Assign [tg] e pos) (tAsg te g) := by
  intro pins s σ H D I h
  refine wpAny_Assign_stores (thn (he pins s σ H _ I h) fun v s1 ⟨x, H1, I1, r1, q1⟩ => ?_) hs hw
  rw [h1]
  exact thn (hg pins s1 σ H1 x v _ I1 r1 q1) fun _ s2 q => q
theorem ps_set {i : Nat} {x : Str} {e : Expr} {te : TE} {pos' : Pos} (hN : X.N.Nodup) (hi : X.N[i]? = some x) (hx : Loc X.env.scope x) (he : PE X e te) (hs : swapsWith e (some (.Name x pos')) pos.line X.env = pure false := by rfl) (hf : X.fn x = true ∨ X.env.scope.names.lookup x = some .local := by first | exact .inl rfl | exact .inr rfl | assumption) :
    PS X (.Assign [.Name x pos'] e pos) (tAsg te (gName i)) := by
  intro pins s σ H D I h
  refine wpAny_Assign_Name (thn (he pins s σ H _ I h) fun v s1 ⟨y, H1, I1, r1, q1⟩ => ?_) hs
  exact store_ok I1 hN hi hx r1 (fun s2 I2 => ⟨_, H1, I2, q1⟩) hf
end
section
variable {X : Cx} {pos : Pos}
noncomputable def tWhile (c : TT) (tb : TS) : TS := fun D σ H => ∃ W : Nat → St → Hp → Prop, (∃ m, W m σ H) ∧ ∀ m σ H, W m σ H →
  c σ H fun b H1 => if b = true then ∃ N : St → Hp → Prop, (∀ σ' H', N σ' H' → ∃ m', m' < m ∧ W m' σ' H') ∧ tb { D with nx := N, ct := N, bk := D.nx } σ H1 else D.nx σ H1
theorem ps_while {c : Expr} {body : List Stmt} {tc : TT} {tb : TS} (hp : PassesOwn (model X.prog X.w) X.A X.env X.xe) (hc : PT X c tc) (hb : PSs X body tb) : PS X (.While c body [] pos) (tWhile tc tb) := by
  intro pins s σ H D I h
  obtain ⟨W, ⟨m0, w0⟩, turn⟩ := h
  refine wpAny_While (codeAny_whileLoop (fun n s' => ∃ σ' H', Inv X pins σ' H' s' ∧ W n σ' H') ?_ m0 ⟨σ, H, I, w0⟩)
  rintro n s1 ⟨σ1, H1, I1, w1⟩
  refine wpAny_passesOwn hp (thn (hc pins s1 σ1 H1 _ I1 (turn n σ1 H1 w1)) fun b s2 ⟨H2, I2, q2⟩ => ?_)
  cases b with
  | true =>
    obtain ⟨N, hN, q2⟩ := q2
    rw [if_pos rfl]
    refine wpAny_passesOwn hp (thn (hb pins s2 σ1 H2 _ I2 q2) fun f s3 q3 => ?_)
    cases f with
    | next =>
      obtain ⟨σ3, H3, I3, n3⟩ := q3
      obtain ⟨m', hm, w3⟩ := hN σ3 H3 n3
      exact ⟨m', hm, σ3, H3, I3, w3⟩
    | cont =>
      obtain ⟨σ3, H3, I3, n3⟩ := q3
      obtain ⟨m', hm, w3⟩ := hN σ3 H3 n3
      exact ⟨m', hm, σ3, H3, I3, w3⟩
    | brk => exact q3
    | ret v => exact q3
  | false =>
    rw [if_neg Bool.false_ne_true]
    exact wpAny_execs_nil ⟨σ1, H2, I2, q2⟩
end
structure It where
  go : Nat → Hp → Prop
  yld : Nat → Hp → V → Hp → Prop
  stop : Nat → Hp → Prop
noncomputable def FpOk (X : Cx) (pins : List (Addr × Obj)) (H : Hp) (b : Addr) : Prop :=
  H b = none ∧ b ≠ X.env.locals ∧ b ∉ X.fs ∧ (b ∈ X.ex ∨ X.s₀.heap.objs.size ≤ b) ∧ (∀ x c, X.env.cells.lookup x = some c → c ≠ b) ∧ ∀ p ∈ X.pn ++ pins, p.1 ≠ b
theorem Inv.fpOk {X : Cx} {pins : List (Addr × Obj)} {σ : St} {H H' : Hp} {s : Shared} {b : Addr} (I : Inv X pins σ H s) (hb : s.heap.objs.size ≤ b) (hn : H' b = none) : FpOk X pins H' b := by
  refine ⟨hn, Nat.ne_of_gt (Nat.lt_of_lt_of_le I.lt hb), I.nofs hb, .inr (Nat.le_trans I.sz hb), fun x c e z => ?_, fun p hp z => ?_⟩
  · obtain ⟨v, q⟩ := I.cell x c e
    exact absurd (Nat.lt_of_lt_of_le q.lt (by rw [z]; exact hb)) (Nat.lt_irrefl _)
  · exact absurd (Nat.lt_of_lt_of_le (Heap.lt_size (I.pin p hp).1) (by rw [z]; exact hb)) (Nat.lt_irrefl _)
structure Turn (P : Program) (w : World) (K : PySem.W.Frag) (tg : Expr) (J : It) (fp : List Addr) (it : Addr) (tn : Nat → Heap → Prop) : Prop where
  mem : it ∈ fp
  obj : ∀ i h, tn i h → ∀ b ∈ fp, ∃ o, h.get? b = some o ∧ ∀ v, o.data ≠ .cell v
  keep : ∀ i h h', tn i h → (∀ b ∈ fp, ∀ o, h.get? b = some o → h'.get? b = some o) → tn i h'
  item : ∀ (X : Cx), X.prog = P → X.w = w → X.K = K → X.calm = true → ∀ (i : Nat) (pins : List (Addr × Obj)) (s : Shared) (σ : St) (H : Hp) (E : Value → Shared → Prop), Inv X pins σ H s → (∀ b ∈ fp, FpOk X pins H b) → tn i s.heap → J.go i H →
    wpAny (model P w) X.A (pyNext (.ref it)) (fun r s1 => ∃ u, r = some u ∧
      wpAny (model P w) X.A (letOwnedTupleGo tg (.ref it) u) (fun _ s2 => ∃ x H', Inv X pins σ H' s2 ∧ RelV x u ∧ J.yld i H x H' ∧ tn (i + 1) s2.heap ∧ ∀ b ∈ fp, H' b = none) E s1) E s
  done : ∀ (X : Cx), X.prog = P → X.w = w → X.K = K → X.calm = true → ∀ (i : Nat) (pins : List (Addr × Obj)) (s : Shared) (σ : St) (H : Hp) (E : Value → Shared → Prop), Inv X pins σ H s → (∀ b ∈ fp, FpOk X pins H b) → tn i s.heap → J.stop i H →
    wpAny (model P w) X.A (pyNext (.ref it)) (fun r s1 => r = none ∧ Inv X pins σ H s1) E s
  self : ∀ (A : Around) (i : Nat) (s : Shared) (Q : Value → Shared → Prop) (E : Value → Shared → Prop), tn i s.heap → Q (.ref it) s → wpAny (model P w) A (pyIter (.ref it)) Q E s
noncomputable abbrev TI := St → Hp → (It → Hp → Prop) → Prop
noncomputable def PIE (X : Cx) (pins : List (Addr × Obj)) (σ : St) (tg : Expr) (R : It → Hp → Prop) (itv : Value) (s2 : Shared) : Prop :=
  ∃ (it : Addr) (fp : List Addr) (tn : Nat → Heap → Prop) (J : It) (H' : Hp), itv = .ref it ∧ Inv X pins σ H' s2 ∧ Turn X.prog X.w X.K tg J fp it tn ∧ tn 0 s2.heap ∧ (∀ b ∈ fp, FpOk X pins H' b) ∧ R J H'
noncomputable def PI (X : Cx) (tg iter : Expr) (wi : TI) : Prop :=
  ∀ (pins : List (Addr × Obj)) (s : Shared) (σ : St) (H : Hp) (R : It → Hp → Prop), Inv X pins σ H s → wi σ H R →
    wpAny (model X.prog X.w) X.A (eval iter X.env) (fun v s1 => wpAny (model X.prog X.w) X.A (pyIter v) (PIE X pins σ tg R) X.xe s1) X.xe s
theorem go_of {M : Model} {A : Around} {E : Value → Shared → Prop} {s : Shared} {tg : Expr} {it : Addr} {u : Value} {o : Obj} {n : String} {vs : Array Value} {Q : Unit → Shared → Prop} (ho : s.heap.get? it = some o) (hc : o.cls = .type n) (hd : o.data = .fields vs)
    (hn : ["enumerate", "zip", "dict_itemiterator", "dict_reverseitemiterator", "odict_iterator", "itertools.zip_longest", "itertools.pairwise"].contains n = false) (hQ : Q () s) : wpAny M A (letOwnedTupleGo tg (.ref it) u) Q E s := by
  unfold letOwnedTupleGo
  cases tg <;> first
    | exact wpAny_pure hQ
    | (cases u <;> first
        | exact wpAny_pure hQ
        | (refine wpAny_bind (wpAny_load ho ?_)
           rw [hc, hd]
           show wpAny M A (if (["enumerate", "zip", "dict_itemiterator", "dict_reverseitemiterator", "odict_iterator", "itertools.zip_longest", "itertools.pairwise"].contains n && vs[0]? == some (rawInt _)) = true then _ else _) Q E s
           rw [if_neg (by intro h; rw [hn, Bool.false_and] at h; cases h)]
           exact wpAny_pure hQ))
noncomputable def Itl (K : PySem.W.Frag) (a : Addr) : It :=
  ⟨fun i H => ∃ xs x, SqL K H a xs ∧ xs[i]? = some x, fun i H x H' => H' = H ∧ ∀ xs, SqL K H a xs → xs[i]? = some x, fun i H => ∃ xs, SqL K H a xs ∧ xs.length ≤ i⟩
noncomputable def Itt (K : PySem.W.Frag) (a : Addr) : It :=
  ⟨fun i H => ∃ xs x, SqT K H a xs ∧ xs[i]? = some x, fun i H x H' => H' = H ∧ ∀ xs, SqT K H a xs → xs[i]? = some x, fun i H => ∃ xs, SqT K H a xs ∧ xs.length ≤ i⟩
noncomputable def Itr (lo : Int) (n : Nat) : It := ⟨fun i _ => i < n, fun i H x H' => H' = H ∧ x = .int (lo + i), fun i _ => n ≤ i⟩
theorem turn_list {P : Program} {w : World} {K : PySem.W.Frag} {tg : Expr} (a it : Addr) : Turn P w K tg (Itl K a) [it] it (fun i h => h.IsListIter it a i) where
  mem := by simp
  obj := fun i h st b hb => by
    have e : b = it := by simpa using hb
    subst e
    obtain ⟨o, e, c, d⟩ := st
    exact ⟨o, e, fun v z => by rw [d] at z; cases z⟩
  keep := fun i h h' st k => st.at fun o e => k it (by simp) o e
  item := by
    intro X hP hw hK hc i pins s σ H E I hf st hg
    subst hP hw hK
    obtain ⟨xs, x, hq, hx⟩ := hg
    obtain ⟨its, rv, p, hz⟩ := I.list hq
    obtain ⟨u, hu, ru⟩ := rv.get hx
    obtain ⟨f0, f1, f2, f3, f4, f5⟩ := hf it (by simp)
    refine wpAny_pyNext_list_item st p.isList (x := u) (by simpa using hu) fun h' st' sb => ?_
    have I1 : Inv X pins σ H { s with heap := h' } := I.turned (t' := s.toks) (fun b o hb e => (sb.2 b hb).trans e) f0 f1 f3 f4 f5
    obtain ⟨o, e, c, d⟩ := id st'
    exact ⟨u, rfl, go_of (s := { s with heap := h' }) e c d (by decide) ⟨x, H, I1, ru, ⟨rfl, fun ys hy => by rw [I.list_inj hy hq]; exact hx⟩, st', fun b hb => (hf b hb).1⟩⟩
  done := by
    intro X hP hw hK hc i pins s σ H E I hf st hg
    subst hP hw hK
    obtain ⟨xs, hq, hx⟩ := hg
    obtain ⟨its, rv, p, hz⟩ := I.list hq
    obtain ⟨f0, f1, f2, f3, f4, f5⟩ := hf it (by simp)
    have hl := rv.length
    exact wpAny_pyNext_list_end (I.ok.hd hc) st p.isList (by simp; omega) fun h' eb => ⟨rfl, I.turned (t' := s.toks) (fun b o hb e => eb b o hb e) f0 f1 f3 f4 f5⟩
  self := fun _ _ _ _ _ st h => wpAny_pyIter_listiter st h
theorem turn_tuple {P : Program} {w : World} {K : PySem.W.Frag} {tg : Expr} (a it : Addr) : Turn P w K tg (Itt K a) [it] it (fun i h => h.IsTupleIter it a i) where
  mem := by simp
  obj := fun i h st b hb => by
    have e : b = it := by simpa using hb
    subst e
    obtain ⟨o, e, c, d⟩ := st
    exact ⟨o, e, fun v z => by rw [d] at z; cases z⟩
  keep := fun i h h' st k => st.at fun o e => k it (by simp) o e
  item := by
    intro X hP hw hK hc i pins s σ H E I hf st hg
    subst hP hw hK
    obtain ⟨xs, x, hq, hx⟩ := hg
    obtain ⟨its, rv, p, hz⟩ := I.tuple hq
    obtain ⟨u, hu, ru⟩ := rv.get hx
    obtain ⟨f0, f1, f2, f3, f4, f5⟩ := hf it (by simp)
    refine wpAny_pyNext_tuple_item st (show s.heap.IsTuple a its.toArray from p) (x := u) (by simpa using hu) fun h' st' sb => ?_
    have I1 : Inv X pins σ H { s with heap := h' } := I.turned (t' := s.toks) (fun b o hb e => (sb.2 b hb).trans e) f0 f1 f3 f4 f5
    obtain ⟨o, e, c, d⟩ := id st'
    exact ⟨u, rfl, go_of (s := { s with heap := h' }) e c d (by decide) ⟨x, H, I1, ru, ⟨rfl, fun ys hy => by rw [I.tuple_inj hy hq]; exact hx⟩, st', fun b hb => (hf b hb).1⟩⟩
  done := by
    intro X hP hw hK hc i pins s σ H E I hf st hg
    subst hP hw hK
    obtain ⟨xs, hq, hx⟩ := hg
    obtain ⟨its, rv, p, hz⟩ := I.tuple hq
    obtain ⟨f0, f1, f2, f3, f4, f5⟩ := hf it (by simp)
    have hl := rv.length
    exact wpAny_pyNext_tuple_end (I.ok.hd hc) st (show s.heap.IsTuple a its.toArray from p) (by simp; omega) fun h' eb => ⟨rfl, I.turned (t' := s.toks) (fun b o hb e => eb b o hb e) f0 f1 f3 f4 f5⟩
  self := fun _ _ _ _ _ st h => wpAny_pyIter_tupleiter st h
theorem turn_range {P : Program} {w : World} {K : PySem.W.Frag} {tg : Expr} (it : Addr) (lo : Int) (n : Nat) : Turn P w K tg (Itr lo n) [it] it (fun i h => IsRangeIter h it (lo + (i : Nat) * 1) ((n : Int) - (i : Nat)) 1) where
  mem := by simp
  obj := fun i h st b hb => by
    have e : b = it := by simpa using hb
    subst e
    exact ⟨_, st, fun v z => by
      have z' : Data.fields _ = Data.cell v := z
      cases z'⟩
  keep := fun i h h' st k => k it (by simp) _ st
  item := by
    intro X hP hw hK hc i pins s σ H E I hf st hg
    subst hP hw hK
    obtain ⟨f0, f1, f2, f3, f4, f5⟩ := hf it (by simp)
    have W := Walks.range (prog := X.prog) (w := X.w) (I.ok.hd hc) it lo 1 n
    refine W.item i s _ _ hg st fun v h' tk hv st' kk => ?_
    obtain ⟨t, rfl⟩ := hv
    have I1 : Inv X pins σ H { s with heap := h', toks := tk } := I.turned (fun b o hb e => kk b o (by simpa using hb) e) f0 f1 f3 f4 f5
    refine ⟨_, rfl, go_of (s := { s with heap := h', toks := tk }) (n := "range_iterator") st' rfl rfl (by decide) ⟨.int (lo + i), H, I1, ⟨t, ?_⟩, ⟨rfl, rfl⟩, st', fun b hb => (hf b hb).1⟩⟩
    rw [Int.mul_one]
  done := by
    intro X hP hw hK hc i pins s σ H E I hf st hg
    subst hP hw hK
    obtain ⟨f0, f1, f2, f3, f4, f5⟩ := hf it (by simp)
    exact wpAny_pyNext_range_end (I.ok.hd hc) st (by have : n ≤ i := hg; omega) fun h' eb => ⟨rfl, I.turned (t' := s.toks) (fun b o hb e => eb b o hb e) f0 f1 f3 f4 f5⟩
  self := fun _ _ _ _ _ st h => wpAny_pyIter_rangeiter st h
end L2
namespace L2
open PySem PySem.Spec PyProof.Rows
section
variable {X : Cx} {tg : Expr}
noncomputable def iList (K : PySem.W.Frag) (tl : TE) : TI := fun σ H R => tl σ H fun x H1 => ∃ a, x = .ref a ∧ (∃ xs, SqL K H1 a xs) ∧ R (Itl K a) H1
noncomputable def iTup (K : PySem.W.Frag) (tl : TE) : TI := fun σ H R => tl σ H fun x H1 => ∃ a, x = .ref a ∧ (∃ xs, SqT K H1 a xs) ∧ R (Itt K a) H1
theorem pi_list {l : Expr} {tl : TE} (hl : PE X l tl) : PI X tg l (iList X.K tl) := by
  intro pins s σ H R I h
  refine thn (hl pins s σ H _ I h) fun v s1 ⟨x, H1, I1, r1, q1⟩ => ?_
  obtain ⟨a, e, ⟨xs, hq⟩, q⟩ := q1
  subst e
  cases r1
  obtain ⟨its, rv, p, hz⟩ := I1.list hq
  refine wpAny_pyIter_list p.isList ?_
  refine ⟨s1.heap.objs.size, [s1.heap.objs.size], _, _, H1, rfl, I1.kept (t' := s1.toks) fun b o e => Heap.get?_push_of_some _ e, turn_list a _, ⟨_, Heap.get?_push_size _ rfl, rfl, rfl⟩, fun b hb => ?_, q⟩
  have e : b = s1.heap.objs.size := by simpa using hb
  subst e
  exact I1.fpOk (Nat.le_refl _) (I1.hok.fresh (Nat.le_refl _))
theorem pi_tup {l : Expr} {tl : TE} (hl : PE X l tl) : PI X tg l (iTup X.K tl) := by
  intro pins s σ H R I h
  refine thn (hl pins s σ H _ I h) fun v s1 ⟨x, H1, I1, r1, q1⟩ => ?_
  obtain ⟨a, e, ⟨xs, hq⟩, q⟩ := q1
  subst e
  cases r1
  obtain ⟨its, rv, p, hz⟩ := I1.tuple hq
  refine wpAny_pyIter_tuple (show s1.heap.IsTuple a its.toArray from p) ?_
  refine ⟨s1.heap.objs.size, [s1.heap.objs.size], _, _, H1, rfl, I1.kept (t' := s1.toks) fun b o e => Heap.get?_push_of_some _ e, turn_tuple a _, ⟨_, Heap.get?_push_size _ rfl, rfl, rfl⟩, fun b hb => ?_, q⟩
  have e : b = s1.heap.objs.size := by simpa using hb
  subst e
  exact I1.fpOk (Nat.le_refl _) (I1.hok.fresh (Nat.le_refl _))
theorem range_it {pins : List (Addr × Obj)} {σ : St} {H : Hp} {s : Shared} {R : It → Hp → Prop} {E : Value → Shared → Prop} {lo hi : Int} {t u v : Tok} {tk : Nat} (I : Inv X pins σ H s) (h1 : -(2 ^ 62) ≤ lo) (h2 : lo < 2 ^ 62) (h3 : -(2 ^ 62) ≤ hi) (h4 : hi < 2 ^ 62)
    (q : R (Itr lo (hi - lo).toNat) H) : wpAny (model X.prog X.w) X.A (pyIter (.ref s.heap.objs.size)) (PIE X pins σ tg R) E { s with heap := s.heap.push { cls := .type "range", data := .fields #[.int lo t, .int hi u, .int 1 v] }, toks := tk } := by
  refine wpAny_pyIter_range (IsRange.new ..) (small_one h1 h2 h3 h4) ?_
  have I1 : Inv X pins σ H { s with heap := s.heap.push { cls := .type "range", data := .fields #[.int lo t, .int hi u, .int 1 v] }, toks := tk } := I.kept fun b o e => Heap.get?_push_of_some _ e
  refine ⟨(s.heap.push { cls := .type "range", data := .fields #[.int lo t, .int hi u, .int 1 v] }).objs.size, [(s.heap.push { cls := .type "range", data := .fields #[.int lo t, .int hi u, .int 1 v] }).objs.size], _, _, H, rfl,
    I1.kept (t' := tk) fun b o e => Heap.get?_push_of_some _ e, turn_range _ lo (hi - lo).toNat, ?_, fun b hb => ?_, q⟩
  · have e1 : lo + ((0 : Nat) : Int) * 1 = lo := by simp
    have e2 : (((hi - lo).toNat : Nat) : Int) - ((0 : Nat) : Int) = Builtin.Range.rangeSize lo hi 1 := by rw [rangeSize_one]; split <;> omega
    show IsRangeIter _ _ (lo + ((0 : Nat) : Int) * 1) ((((hi - lo).toNat : Nat) : Int) - ((0 : Nat) : Int)) 1
    rw [e1, e2]
    exact Heap.get?_push_size _ rfl
  · have e : b = (s.heap.push { cls := .type "range", data := .fields #[.int lo t, .int hi u, .int 1 v] }).objs.size := by simpa using hb
    subst e
    exact I1.fpOk (Nat.le_refl _) (I1.hok.fresh (Nat.le_refl _))
noncomputable def iRng1 (ta : TA) : TI := fun σ H R => ta σ H fun vs H1 => ∃ j : Int, vs = [.int j] ∧ -(2 ^ 62) ≤ j ∧ j < 2 ^ 62 ∧ R (Itr 0 j.toNat) H1
noncomputable def iRng2 (ta : TA) : TI := fun σ H R => ta σ H fun vs H1 => ∃ i j : Int, vs = [.int i, .int j] ∧ (-(2 ^ 62) ≤ i ∧ i < 2 ^ 62 ∧ -(2 ^ 62) ≤ j ∧ j < 2 ^ 62) ∧ R (Itr i (j - i).toNat) H1
theorem pi_range1 {a : Expr} {ta : TA} {p pos : Pos} (hg : Gl X "range") (hm : X.mg "range" = none) (ha : PA X [a] ta) (hs : starEach [a] X.env = [(false, eval a X.env)] := by rfl) : PI X tg (.Call (.Name "range" p) [a] [] pos) (iRng1 ta) := by
  intro pins s σ H R I h
  refine Call_ (ld_blt I hg hm boot_range (PyProof.Rows.callWith_type1 (thn (ha pos pins s σ H _ I h) fun us s1 ⟨vs, H1, I1, r1, q1⟩ => ?_) hs rfl))
  obtain ⟨j, e, q1, q2, q⟩ := q1
  subst e
  cases r1 with
  | cons r rr =>
    cases rr
    obtain ⟨t, rfl⟩ := r
    exact call_range_1 (range_it I1 (by omega) (by omega) q1 q2 (by simpa using q))
theorem pi_range2 {a b : Expr} {ta : TA} {p pos : Pos} (hg : Gl X "range") (hm : X.mg "range" = none) (ha : PA X [a, b] ta) (hs : starEach [a, b] X.env = [(false, eval a X.env), (false, eval b X.env)] := by rfl) (hs2 : starEach [b] X.env = [(false, eval b X.env)] := by rfl) :
    PI X tg (.Call (.Name "range" p) [a, b] [] pos) (iRng2 ta) := by
  intro pins s σ H R I h
  refine Call_ (ld_blt I hg hm boot_range (PyProof.Rows.callWith_type1 (thn (ha pos pins s σ H _ I h) fun us s1 ⟨vs, H1, I1, r1, q1⟩ => ?_) (by rw [hs, hs2]) (by rw [hs2]; rfl)))
  obtain ⟨i, j, e, ⟨q1, q2, q3, q4⟩, q⟩ := q1
  subst e
  cases r1 with
  | cons r rr =>
    cases rr with
    | cons r' rr =>
      cases rr
      obtain ⟨t, rfl⟩ := r
      obtain ⟨t', rfl⟩ := r'
      exact call_range_2 (range_it I1 q1 q2 q3 q4 q)
noncomputable def tFor (wi : TI) (g : TG) (tb : TS) : TS := fun D σ H => wi σ H fun J H1 => ∃ W : Nat → Nat → St → Hp → Prop, (∃ m, W 0 m σ H1) ∧ ∀ i m σ H, W i m σ H →
  (J.stop i H ∧ D.nx σ H) ∨ (J.go i H ∧ ∃ N : St → Hp → Prop, (∀ σ' H', N σ' H' → ∃ m', m' < m ∧ W (i + 1) m' σ' H') ∧ ∀ x H', J.yld i H x H' → g x σ H' fun σ2 H2 => tb { D with nx := N, ct := N, bk := D.nx } σ2 H2)
noncomputable def pinsAt (fp : List Addr) (h : Heap) : List (Addr × Obj) := fp.filterMap fun b => (h.get? b).map fun o => (b, o)
theorem mem_pinsAt {fp : List Addr} {h : Heap} {b : Addr} {o : Obj} (hb : b ∈ fp) (e : h.get? b = some o) : (b, o) ∈ pinsAt fp h := List.mem_filterMap.mpr ⟨b, hb, by rw [e]; rfl⟩
theorem of_pinsAt {fp : List Addr} {h : Heap} {p : Addr × Obj} (hp : p ∈ pinsAt fp h) : p.1 ∈ fp ∧ h.get? p.1 = some p.2 := by
  obtain ⟨b, hb, e⟩ := List.mem_filterMap.mp hp
  cases q : h.get? b with
  | none => rw [q] at e; cases e
  | some o =>
    rw [q] at e
    have e' : (b, o) = p := Option.some.inj e
    subst e'
    exact ⟨hb, q⟩
theorem Inv.pinned {pins : List (Addr × Obj)} {σ : St} {H : Hp} {s : Shared} {fp : List Addr} (I : Inv X pins σ H s) (hf : ∀ b ∈ fp, FpOk X pins H b) (ho : ∀ b ∈ fp, ∃ o, s.heap.get? b = some o ∧ ∀ v, o.data ≠ .cell v) : Inv X (pins ++ pinsAt fp s.heap) σ H s :=
  I.pins_of fun p hp => (List.mem_append.mp hp).elim (fun z => I.pin p (List.mem_append_right _ z)) fun z => by
    obtain ⟨hb, e⟩ := of_pinsAt z
    obtain ⟨f0, f1, f2, _⟩ := hf p.1 hb
    obtain ⟨o, e', d⟩ := ho p.1 hb
    rw [e] at e'; cases e'
    exact ⟨e, f0, f1, f2, d⟩
theorem Inv.unpinned {pins pl : List (Addr × Obj)} {σ : St} {H : Hp} {s : Shared} (I : Inv X (pins ++ pl) σ H s) : Inv X pins σ H s := I.pins_of fun p hp => I.pin p (List.mem_append_right _ (List.mem_append_left _ hp))
theorem ps_for {iter : Expr} {body : List Stmt} {wi : TI} {g : TG} {tb : TS} {pos : Pos} (hp : PassesOwn (model X.prog X.w) X.A X.env X.xe) (hc : X.calm = true) (hi : PI X tg iter wi) (hg : PG X tg g) (hb : PSs X body tb)
    (hs : ∀ x, foldedSetIterable iter X.env x = pure x := by intro _; rfl) : PS X (.For tg iter body [] pos) (tFor wi g tb) := by
  intro pins s σ H D I h
  refine wpAny_For (thn (hi pins s σ H _ I h) fun v s1 h1 => thn h1 fun itv s2 h2 => ?_) hs
  obtain ⟨it, fp, tn, J, H2, e, I2, T, st2, f2, W, ⟨m0, w0⟩, turn⟩ := h2
  subst e
  have stat : ∀ {H' : Hp}, (∀ b ∈ fp, H' b = none) → ∀ b ∈ fp, FpOk X pins H' b := fun hn b hb => ⟨hn b hb, (f2 b hb).2⟩
  refine codeAny_forLoop_any (fun n s' => ∃ i σ' H', Inv X pins σ' H' s' ∧ tn i s'.heap ∧ (∀ b ∈ fp, H' b = none) ∧ W i n σ' H') ?_ m0 ⟨0, σ, H2, I2, st2, fun b hb => (f2 b hb).1, w0⟩
  rintro n s3 ⟨i, σ3, H3, I3, st3, fr3, w3⟩
  rcases turn i n σ3 H3 w3 with ⟨stop, qn⟩ | ⟨go, N, hN, step⟩
  · refine wpAny_passesOwn hp (thn (T.done X rfl rfl rfl hc i pins s3 σ3 H3 X.xe I3 (stat fr3) st3 stop) fun r s4 ⟨hr, I4⟩ => ?_)
    subst hr
    exact wpAny_execs_nil ⟨σ3, H3, I4, qn⟩
  · refine wpAny_passesOwn hp (thn (T.item X rfl rfl rfl hc i pins s3 σ3 H3 X.xe I3 (stat fr3) st3 go) fun r s4 ⟨u, hr, h4⟩ => ?_)
    subst hr
    refine wpAny_passesOwn hp (thn h4 fun _ s5 ⟨x, H5, I5, r5, y5, st5, fr5⟩ => ?_)
    have I5' := I5.pinned (stat fr5) (T.obj _ _ st5)
    refine wpAny_passesOwn hp (thn (hg _ s5 σ3 H5 x u _ I5' r5 (step x H5 y5)) fun _ s6 ⟨σ6, H6, I6, q6⟩ => ?_)
    refine wpAny_passesOwn hp (thn (hb _ s6 σ6 H6 _ I6 q6) fun f s7 q7 => ?_)
    have again : ∀ {σ7 : St} {H7 : Hp}, Inv X (pins ++ pinsAt fp s5.heap) σ7 H7 s7 → N σ7 H7 → ∃ m, m < n ∧ ∃ i σ' H', Inv X pins σ' H' s7 ∧ tn i s7.heap ∧ (∀ b ∈ fp, H' b = none) ∧ W i m σ' H' := fun {σ7 H7} I7 n7 => by
      obtain ⟨m', hm, w7⟩ := hN σ7 H7 n7
      refine ⟨m', hm, i + 1, σ7, H7, I7.unpinned, T.keep _ _ _ st5 fun b hb o e => (I7.pin (b, o) (List.mem_append_right _ (List.mem_append_right _ (mem_pinsAt hb e)))).1, fun b hb => ?_, w7⟩
      obtain ⟨o, e, d⟩ := T.obj _ _ st5 b hb
      exact (I7.pin (b, o) (List.mem_append_right _ (List.mem_append_right _ (mem_pinsAt hb e)))).2.1
    cases f with
    | next => obtain ⟨σ7, H7, I7, n7⟩ := q7; exact again I7 n7
    | cont => obtain ⟨σ7, H7, I7, n7⟩ := q7; exact again I7 n7
    | brk => obtain ⟨σ7, H7, I7, q7⟩ := q7; exact ⟨σ7, H7, I7.unpinned, q7⟩
    | ret v => obtain ⟨x7, σ7, H7, I7, r7, q7⟩ := q7; exact ⟨x7, σ7, H7, I7.unpinned, r7, q7⟩
end
end L2
namespace L2
open PySem PySem.Spec PyProof.Rows
noncomputable abbrev R2 := V → V → Hp → VK → Prop
noncomputable def OpR (X : Cx) (f : Value → Value → Sem Value) (r : R2) : Prop :=
  ∀ (pins : List (Addr × Obj)) (s : Shared) (σ : St) (H : Hp) (x y : V) (v u : Value) (Q : VK), Inv X pins σ H s → RelV x v → RelV y u → r x y H Q →
    wpAny (model X.prog X.w) X.A (f v u) (EP X pins σ Q) X.xe s
noncomputable def UnR (X : Cx) (f : Value → Sem Value) (r : V → Hp → VK → Prop) : Prop :=
  ∀ (pins : List (Addr × Obj)) (s : Shared) (σ : St) (H : Hp) (x : V) (v : Value) (Q : VK), Inv X pins σ H s → RelV x v → r x H Q →
    wpAny (model X.prog X.w) X.A (f v) (EP X pins σ Q) X.xe s
noncomputable def CallR (X : Cx) (f : Value) (r : List V → Hp → VK → Prop) : Prop :=
  ∀ (pins : List (Addr × Obj)) (s : Shared) (σ : St) (H : Hp) (xs : List V) (us : List Value) (Q : VK), Inv X pins σ H s → Vals xs us → r xs H Q →
    wpAny (model X.prog X.w) X.A (call f us) (EP X pins σ Q) X.xe s
noncomputable def tOp (r : R2) (ta tb : TE) : TE := fun σ H Q => ta σ H fun x H1 => tb σ H1 fun y H2 => r x y H2 Q
noncomputable def tUn (r : V → Hp → VK → Prop) (ta : TE) : TE := fun σ H Q => ta σ H fun x H1 => r x H1 Q
noncomputable def rI (C : Int → Int → Prop) (g : Int → Int → V) : R2 := fun x y H Q => ∃ i j, x = .int i ∧ y = .int j ∧ C i j ∧ Q (g i j) H
noncomputable def rI0 (g : Int → Int → V) : R2 := fun x y H Q => ∃ i j, x = .int i ∧ y = .int j ∧ Q (g i j) H
noncomputable def rU (g : Int → V) : V → Hp → VK → Prop := fun x H Q => ∃ i, x = .int i ∧ Q (g i) H
section
variable {X : Cx} {a b c : Expr} {ta tb tc : TE} {pos : Pos}
theorem binT (ha : PE X a ta) (hb : PE X b tb) {pins : List (Addr × Obj)} {s : Shared} {σ : St} {H : Hp} {R : V → V → Hp → Prop} (I : Inv X pins σ H s)
    (h : ta σ H fun x H1 => tb σ H1 fun y H2 => R x y H2) {Q : Value → Shared → Prop} {f : Value → Value → Sem Value}
    (hf : ∀ v u s2 x y H2, Inv X pins σ H2 s2 → RelV x v → RelV y u → R x y H2 → wpAny (model X.prog X.w) X.A (f v u) Q X.xe s2) :
    wpAny (model X.prog X.w) X.A (eval a X.env) (fun v s₁ => wpAny (model X.prog X.w) X.A (eval b X.env) (fun u s₂ => wpAny (model X.prog X.w) X.A (f v u) Q X.xe s₂) X.xe s₁) X.xe s := by
  refine thn (ha pins s σ H _ I h) fun v s1 ⟨x, H1, I1, r1, q1⟩ => ?_
  refine thn (hb pins s1 σ H1 _ I1 q1) fun u s2 ⟨y, H2, I2, r2, q2⟩ => ?_
  exact hf v u s2 x y H2 I2 r1 r2 q2
theorem pe_op {op : Operator} {r : R2} (ho : OpR X (binaryOp op) r) (ha : PE X a ta) (hb : PE X b tb) : PE X (.BinOp a op b pos) (tOp r ta tb) := by
  intro pins s σ H Q I h
  exact wpAny_BinOp (binT ha hb I h fun v u s2 x y H2 I2 rx ry q => ho pins s2 σ H2 x y v u Q I2 rx ry q)
theorem pe_un {op : UnaryOp} {r : V → Hp → VK → Prop} (ho : UnR X (unaryOp op) r) (ha : PE X a ta) : PE X (.UnaryOp op a pos) (tUn r ta) := by
  intro pins s σ H Q I h
  exact UnaryOp_ (thn (ha pins s σ H _ I h) fun v s1 ⟨x, H1, I1, r1, q1⟩ => ho pins s1 σ H1 x v Q I1 r1 q1)
theorem opI {f : Value → Value → Sem Value} {C : Int → Int → Prop} {g : Int → Int → Int}
    (rule : ∀ (i j : Int) (t u : Tok) (s : Shared) (Q : Value → Shared → Prop) (E : Value → Shared → Prop), C i j → Q (.int (g i j) s.toks) { s with toks := s.toks + 1 } → wpAny (model X.prog X.w) X.A (f (.int i t) (.int j u)) Q E s) :
    OpR X f (rI C fun i j => .int (g i j)) := by
  intro pins s σ H x y v u Q I rx ry h
  obtain ⟨i, j, rfl, rfl, hc, q⟩ := h
  obtain ⟨t, rfl⟩ := rx
  obtain ⟨t', rfl⟩ := ry
  exact rule i j t t' s _ _ hc ⟨.int (g i j), H, I.tok _, ⟨_, rfl⟩, q⟩
theorem opI0 {f : Value → Value → Sem Value} {g : Int → Int → Int}
    (rule : ∀ (i j : Int) (t u : Tok) (s : Shared) (Q : Value → Shared → Prop) (E : Value → Shared → Prop), Q (.int (g i j) s.toks) { s with toks := s.toks + 1 } → wpAny (model X.prog X.w) X.A (f (.int i t) (.int j u)) Q E s) :
    OpR X f (rI0 fun i j => .int (g i j)) := by
  intro pins s σ H x y v u Q I rx ry h
  obtain ⟨i, j, rfl, rfl, q⟩ := h
  obtain ⟨t, rfl⟩ := rx
  obtain ⟨t', rfl⟩ := ry
  exact rule i j t t' s _ _ ⟨.int (g i j), H, I.tok _, ⟨_, rfl⟩, q⟩
theorem opB0 {f : Value → Value → Sem Value} {g : Int → Int → Bool}
    (rule : ∀ (i j : Int) (t u : Tok) (s : Shared) (Q : Value → Shared → Prop) (E : Value → Shared → Prop), Q (.bool (g i j)) s → wpAny (model X.prog X.w) X.A (f (.int i t) (.int j u)) Q E s) :
    OpR X f (rI0 fun i j => .bl (g i j)) := by
  intro pins s σ H x y v u Q I rx ry h
  obtain ⟨i, j, rfl, rfl, q⟩ := h
  obtain ⟨t, rfl⟩ := rx
  obtain ⟨t', rfl⟩ := ry
  exact rule i j t t' s _ _ ⟨.bl (g i j), H, I, rfl, q⟩
noncomputable def CDiv (i j : Int) : Prop := 0 < j ∧ j < 1073741824
noncomputable def CPow (i j : Int) : Prop := 0 ≤ j ∧ j ≤ 1000000 ∧ i.natAbs < 2 ^ 64
noncomputable def CMul (i j : Int) : Prop := (-(2 ^ 64) < i ∧ i < 2 ^ 64) ∨ (-(2 ^ 64) < j ∧ j < 2 ^ 64)
theorem CMul.ok {i j : Int} (h : CMul i j) : IntMulOk i j := by
  rcases h with ⟨h1, h2⟩ | ⟨h1, h2⟩
  · exact .of_left (intBits_le_64 h1 h2)
  · exact .of_right (intBits_le_64 h1 h2)
theorem two_pow_nn (k : Nat) : (0 : Int) ≤ 2 ^ k := by
  rw [two_pow_cast]
  exact Int.natCast_nonneg _
theorem op_add : OpR X (binaryOp .Add) (rI0 fun i j => .int (i + j)) := opI0 fun _ _ _ _ _ _ _ q => add_int q
theorem op_sub : OpR X (binaryOp .Sub) (rI0 fun i j => .int (i - j)) := opI0 fun _ _ _ _ _ _ _ q => sub_int q
theorem op_mul : OpR X (binaryOp .Mult) (rI CMul fun i j => .int (i * j)) := opI fun _ _ _ _ _ _ _ hc q => mul_int q hc.ok
theorem op_fdiv : OpR X (binaryOp .FloorDiv) (rI CDiv fun i j => .int (i / j)) := opI fun i j _ _ _ _ _ hc q => by
  have h1 : (0 : Int) < j := hc.1
  have h2 : j < 1073741824 := hc.2
  exact floordiv_int (by omega) (by rw [Int.fdiv_eq_ediv_of_nonneg i (by omega)]; exact q) (.inl (PyProof.noPylong_small (by omega)))
theorem op_mod : OpR X (binaryOp .Mod) (rI (fun _ j => 0 < j) fun i j => .int (i % j)) := opI fun i j _ _ _ _ _ hc q => by
  have h1 : (0 : Int) < j := hc
  exact mod_int' (by omega) (by rw [Int.fmod_eq_emod_of_nonneg i (by omega)]; exact q)
theorem op_shl : OpR X (binaryOp .LShift) (rI CPow fun i j => .int (i * 2 ^ j.toNat)) := opI fun _ _ _ _ _ _ _ hc q => lshift_int_small hc.1 hc.2.1 hc.2.2 q
theorem op_shr : OpR X (binaryOp .RShift) (rI (fun _ j => 0 ≤ j) fun i j => .int (i / 2 ^ j.toNat)) := opI fun i j _ _ _ _ _ hc q =>
  rshift_int hc (by rw [Int.fdiv_eq_ediv_of_nonneg i (two_pow_nn _)]; exact q)
theorem op_and : OpR X (binaryOp .BitAnd) (rI0 fun i j => .int (Builtin.bitAnd i j)) := opI0 fun _ _ _ _ _ _ _ q => and_int q
theorem unI {f : Value → Sem Value} {g : Int → Int}
    (rule : ∀ (i : Int) (t : Tok) (s : Shared) (Q : Value → Shared → Prop) (E : Value → Shared → Prop), Q (.int (g i) s.toks) { s with toks := s.toks + 1 } → wpAny (model X.prog X.w) X.A (f (.int i t)) Q E s) :
    UnR X f (rU fun i => .int (g i)) := by
  intro pins s σ H x v Q I rx h
  obtain ⟨i, rfl, q⟩ := h
  obtain ⟨t, rfl⟩ := rx
  exact rule i t s _ _ ⟨.int (g i), H, I.tok _, ⟨_, rfl⟩, q⟩
theorem un_neg : UnR X (unaryOp .USub) (rU fun i => .int (-i)) := unI fun _ _ _ _ _ q => neg_int q
end
section
variable {X : Cx} {a b c : Expr} {ta tb tc : TE} {pos : Pos}
theorem op_lt : OpR X (compareOp .Lt) (rI0 fun i j => .bl (decide (i < j))) := opB0 fun _ _ _ _ _ _ _ q => lt_int q
theorem op_le : OpR X (compareOp .LtE) (rI0 fun i j => .bl (decide (i ≤ j))) := opB0 fun _ _ _ _ _ _ _ q => le_int q
theorem op_gt : OpR X (compareOp .Gt) (rI0 fun i j => .bl (decide (j < i))) := opB0 fun _ _ _ _ _ _ _ q => gt_int q
theorem OpR.or {f : Value → Value → Sem Value} {r r' : R2} (h : OpR X f r) (h' : OpR X f r') : OpR X f (fun x y H Q => r x y H Q ∨ r' x y H Q) := by
  intro pins s σ H x y v u Q I rx ry q
  rcases q with q | q
  · exact h pins s σ H x y v u Q I rx ry q
  · exact h' pins s σ H x y v u Q I rx ry q
theorem nomark (b : Expr) {op : CmpOp} (h : op ≠ .In := by decide) (h2 : op ≠ .NotIn := by decide) : behindInMarks op b = false := by
  have e1 : (op == CmpOp.In) = false := by cases op <;> first | rfl | exact absurd rfl h
  have e2 : (op == CmpOp.NotIn) = false := by cases op <;> first | rfl | exact absurd rfl h2
  cases b <;> simp [behindInMarks, e1, e2]
theorem pe_cmpR {op : CmpOp} {r : R2} (ho : OpR X (compareOp op) r) (ha : PE X a ta) (hb : PE X b tb) (hm : behindInMarks op b = false) : PE X (.Compare a [op] [b] pos) (tOp r ta tb) := by
  intro pins s σ H Q I h
  exact wpAny_Compare1 (binT ha hb I h fun v u s2 x y H2 I2 rx ry q => ho pins s2 σ H2 x y v u Q I2 rx ry q) hm
noncomputable def tTest (t : TE) : TT := fun σ H Q => t σ H fun x H' => ∃ k, x = .bl k ∧ Q k H'
theorem pt_cmpR {op : CmpOp} {r : R2} (ho : OpR X (compareOp op) r) (ha : PE X a ta) (hb : PE X b tb) (hm : behindInMarks op b = false) : PT X (.Compare a [op] [b] pos) (tTest (tOp r ta tb)) := by
  intro pins s σ H Q I h
  refine wpAny_isTrue_Compare1 (thn (ha pins s σ H _ I h) fun v s1 ⟨x, H1, I1, r1, q1⟩ => thn (hb pins s1 σ H1 _ I1 q1) fun u s2 ⟨y, H2, I2, r2, q2⟩ =>
    thn (ho pins s2 σ H2 x y v u _ I2 r1 r2 q2) fun c s3 ⟨z, H3, I3, r3, k, e, q3⟩ => ?_) hm
  subst e
  cases r3
  exact wpAny_truthy_bool ⟨H3, I3, q3⟩
noncomputable def tChain (r r' : R2) (ta tb tc : TE) : TE := fun σ H Q => ta σ H fun x H1 => tb σ H1 fun y H2 => r x y H2 fun z H3 => ∃ k, z = .bl k ∧
  (if k = true then tc σ H3 fun w' H4 => r' y w' H4 Q else Q (.bl false) H3)
theorem pe_chain {op op' : CmpOp} {r r' : R2} (ho : OpR X (compareOp op) r) (ho' : OpR X (compareOp op') r') (ha : PE X a ta) (hb : PE X b tb) (hc : PE X c tc)
    (hm : lastMarks [op, op'] [b, c] = false := by with_unfolding_all rfl) : PE X (.Compare a [op, op'] [b, c] pos) (tChain r r' ta tb tc) := by
  intro pins s σ H Q I h
  refine Compare_chain (thn (ha pins s σ H _ I h) fun v s1 ⟨x, H1, I1, r1, q1⟩ => chain_link (thn (hb pins s1 σ H1 _ I1 q1) fun u s2 ⟨y, H2, I2, r2, q2⟩ =>
    thn (ho pins s2 σ H2 x y v u _ I2 r1 r2 q2) fun d s3 ⟨z, H3, I3, r3, k, e, q3⟩ => ?_)) hm
  subst e
  cases r3
  refine wpAny_truthy_bool ?_
  cases k with
  | false => exact ite_ff ⟨.bl false, H3, I3, rfl, q3⟩
  | true => exact ite_tt (chain_last (thn (hc pins s3 σ H3 _ I3 q3) fun w' s4 ⟨z', H4, I4, r4, q4⟩ => ho' pins s4 σ H4 y z' u w' Q I4 r2 r4 q4))
theorem line63 : (sizeLine : Nat) < 2 ^ 63 := by rw [sizeLine_eq]; decide
theorem vals1 {x : V} {us : List Value} (r : Vals [x] us) : ∃ u, us = [u] ∧ RelV x u := by
  cases r with
  | cons r1 r2 => cases r2; exact ⟨_, rfl, r1⟩
theorem vals2 {x y : V} {us : List Value} (r : Vals [x, y] us) : ∃ u w', us = [u, w'] ∧ RelV x u ∧ RelV y w' := by
  cases r with
  | cons r1 r2 =>
    cases r2 with
    | cons r3 r4 => cases r4; exact ⟨_, _, rfl, r1, r3⟩
end
end L2
namespace L2
open PySem PySem.Spec PyProof.Rows
structure ObjM (h : Heap) (x dx C : Addr) (mA : Str → Option Value) : Prop where
  obj : h.get? x = some (PySem.W.instObj C dx)
  ns : h.Ns1 dx mA
  ne : dx ≠ x
theorem lookIn_ns {h : Heap} {dx : Addr} {mA : Str → Option Value} (n : h.Ns1 dx mA) : ∃ od, h.get? dx = some od ∧ ∀ name, PySem.W.lookIn name od = some (mA name) := by
  obtain ⟨o, es, ep, ho, hd, hk, _, hm⟩ := n
  refine ⟨o, ho, fun name => ?_⟩
  have e := hm name
  unfold nsFind findBy at e
  rw [← Array.find?_toList] at e
  unfold PySem.W.lookIn
  rw [hd]
  dsimp only
  split
  · rename_i y q
    rw [q] at e
    exact congrArg some e
  · rename_i q
    rw [q] at e
    have a : es.toList.any (·.refKey) = false := by
      rw [List.any_eq_false]
      intro y hy
      obtain ⟨z, t, hkey⟩ := hk y (Array.mem_toList_iff.mp hy)
      simp [DictEntry.refKey, hkey]
    have a' : ¬ es.toList.any (·.refKey) = true := by rw [a]; exact Bool.false_ne_true
    rw [if_neg a']
    exact congrArg some e
theorem ObjM.look {h : Heap} {x dx C : Addr} {mA : Str → Option Value} (I : ObjM h x dx C mA) : ∃ od, PySem.W.InstAt h x (PySem.W.instObj C dx) C (some od) ∧ ∀ name, PySem.W.lookIn name od = some (mA name) :=
  let ⟨od, ho, hl⟩ := lookIn_ns I.ns
  ⟨od, ⟨I.obj, rfl, rfl, ho⟩, hl⟩
section
variable {prog : Program} {w : World} {A : Around} {E : Value → Shared → Prop} {s : Shared} {K : PySem.W.Frag} {x dx C f : Addr} {mA : Str → Option Value} {name : Str} {v : Value}
theorem get_map {expr : Bool} {Q : Value → Shared → Prop} (X : K.In s.heap) (I : ObjM s.heap x dx C mA) (hg : PySem.W.plainGet K C name = true) (hh : PySem.W.hasDictIn K C = true)
    (ha : PySem.W.findIn K (.ref C) name = some none) (hv : mA name = some v) (hv' : PySem.W.handedIn v = true) (h : Q v { s with toks := s.toks + 1 }) :
    wpAny (model prog w) A (getAttr (.ref x) name expr) Q E s := by
  obtain ⟨od, J, hl⟩ := I.look
  exact PySem.W.get_value X J (PySem.W.plainGet_of hg).1 (PySem.W.findObj_own hh ha rfl (by rw [hl, hv])) hv' h
theorem get_meth {pl : Sem Bool} {Q : Value × List Value → Shared → Prop} (X : K.In s.heap) (I : ObjM s.heap x dx C mA) (hg : PySem.W.plainGet K C name = true)
    (hf : PySem.W.findIn K (.ref C) name = some (some (.ref f))) (ht : PySem.W.isFn K (.ref f) = true) (hv : mA name = none) (h : Q (.ref f, [.ref x]) s) :
    wpAny (model prog w) A (getMethod (.ref x) name pl) Q E s := by
  obtain ⟨od, J, hl⟩ := I.look
  exact PySem.W.method_fn X J (PySem.W.plainGet_of hg).1 (PySem.W.plainGet_of hg).2 hf (beq_iff_eq.mp ht) (by show (PySem.W.lookIn name od).map (·.isSome) = some false; rw [hl, hv]; rfl) h
theorem set_map {ns : List Str} {Q : Unit → Shared → Prop} (X : K.In s.heap) (I : ObjM s.heap x dx C mA)
    (hs : PySem.W.findIn K (.ref C) "__setattr__" = some (some (.builtin "object.__setattr__"))) (hp : PySem.W.plainOver K C = true) (ht : PySem.W.takerIn K C name = some none) (hh : PySem.W.hasDictIn K C = true)
    (hw : PySem.Within mA ns) (hsz : ns.length ≤ sizeLine)
    (h : ∀ h', ObjM h' x dx C (fun y => if y = name then some v else mA y) → Heap.SameBut dx s.heap h' → Q () { s with heap := h', toks := s.toks + 2 }) :
    wpAny (model prog w) A (setAttr (.ref x) name v) Q E s := by
  obtain ⟨od, J, hl⟩ := I.look
  refine PySem.W.set_plain X J hs (PySem.W.osa_open (s := { s with toks := s.toks + 1 }) (r := none) X J hp ht fun b => ?_)
  obtain ⟨cd, hc, hd'⟩ := PySem.W.any_some hh
  have hx : s.heap.get? x = some ⟨.ref C, some dx, .plain, #[]⟩ := I.obj
  refine wpAny_bind (wpAny_pure (wpAny_bind (wpAny_bind (wpAny_loadPart hx (wpAny_bind (PySem.W.Looks.here (s := { s with toks := s.toks + 1 }) (PySem.W.looks_clsIn X hc) ?_))))))
  rw [hd']
  refine wpAny_pure (a := some dx) (wpAny_bind (wpAny_pure (wpAny_bind ?_)))
  refine wpAny_nsSet1 (s := { s with toks := s.toks + 1 }) I.ns fun h' hn2 hs2 => ?_
  obtain ⟨oD, esD, epD, hoD, hdD, hcD⟩ := hn2.count (PySem.Within.cons name v hw)
  refine wpAny_bind (wpAny_lookBehind hoD (by rw [hdD]; exact pastItsLine_dict (Nat.le_trans hcD (by rw [List.length_cons]; omega))) ?_)
  exact wpAny_pure (h _ ⟨(hs2.2 _ (Ne.symm I.ne)).trans I.obj, hn2, I.ne⟩ hs2)
theorem make_map {R : Result → Shared → Prop} {vs : List Value} {kw : List (Str × Value)} (X : K.In s.heap) (hm : PySem.W.makesIn K C = true)
    (hi : PySem.W.findIn K (.ref C) "__init__" = some (some (.ref f))) (hf : PySem.W.typeIn K (.ref f) = some (.type "function"))
    (h : codeAny (model prog w) (A.under (.builtin "type.__call__" ⟨.ref C :: vs, kw⟩)) (.call (.ref f) ⟨.ref (s.heap.objs.size + 1) :: vs, kw⟩) (PySem.W.InitBack (s.heap.objs.size + 1) R)
      { s with heap := (s.heap.push PySem.W.emptyDict).push (PySem.W.instObj C s.heap.objs.size) }) :
    codeAny (model prog w) A (.call (.ref C) ⟨vs, kw⟩) R s := by
  obtain ⟨hh, g, d, t, os⟩ := s
  exact PySem.W.make_core (PySem.W.makes_of X hm) (PySem.W.looks_findIn X hi) (fun self => PySem.W.bind_fn X self hf) (.inl rfl) h
end
noncomputable def putF (f : Str) (v : V) : List (Str × V) → List (Str × V)
  | [] => [(f, v)]
  | (g, x) :: r => if g = f then (g, v) :: r else (g, x) :: putF f v r
theorem lookup_putF (f g : Str) (v : V) : ∀ fs : List (Str × V), (putF f v fs).lookup g = if g = f then some v else fs.lookup g
  | [] => by
    show List.lookup g [(f, v)] = _
    by_cases h : g = f
    · have hb : (g == f) = true := beq_iff_eq.mpr h
      simp only [List.lookup, hb, if_pos h]
    · have hb : (g == f) = false := beq_eq_false_iff_ne.mpr h
      simp only [List.lookup, hb, if_neg h]
  | (k, x) :: r => by
    have ih := lookup_putF f g v r
    rw [show putF f v ((k, x) :: r) = (if k = f then (k, v) :: r else (k, x) :: putF f v r) from rfl]
    by_cases hk : k = f
    · rw [if_pos hk]
      by_cases h : g = k
      · have hb : (g == k) = true := beq_iff_eq.mpr h
        simp only [List.lookup, hb, if_pos (h.trans hk)]
      · have hb : (g == k) = false := beq_eq_false_iff_ne.mpr h
        simp only [List.lookup, hb, if_neg (fun e : g = f => h (e.trans hk.symm))]
    · rw [if_neg hk]
      by_cases h : g = k
      · have hb : (g == k) = true := beq_iff_eq.mpr h
        simp only [List.lookup, hb, if_neg (fun e : g = f => hk (h.symm.trans e))]
      · have hb : (g == k) = false := beq_eq_false_iff_ne.mpr h
        simp only [List.lookup, hb]
        exact ih
theorem keys_putF (f : Str) (v : V) : ∀ fs : List (Str × V), f ∈ (putF f v fs).map (·.1) ∧ ∀ g, g ∈ fs.map (·.1) → g ∈ (putF f v fs).map (·.1)
  | [] => ⟨by simp [putF], fun g h => by simp at h⟩
  | (k, x) :: r => by
    obtain ⟨i1, i2⟩ := keys_putF f v r
    rw [show putF f v ((k, x) :: r) = (if k = f then (k, v) :: r else (k, x) :: putF f v r) from rfl]
    by_cases hk : k = f
    · rw [if_pos hk]
      subst hk
      exact ⟨by simp, fun g h => by simpa using h⟩
    · rw [if_neg hk]
      refine ⟨?_, fun g h => ?_⟩
      · rw [List.map_cons]
        exact List.mem_cons_of_mem _ i1
      · rw [List.map_cons] at h ⊢
        rcases List.mem_cons.mp h with e | e
        · exact List.mem_cons.mpr (.inl e)
        · exact List.mem_cons_of_mem _ (i2 g e)
theorem length_putF (f : Str) (v : V) : ∀ fs : List (Str × V), (putF f v fs).length ≤ fs.length + 1
  | [] => by simp [putF]
  | (k, x) :: r => by
    have ih := length_putF f v r
    rw [show putF f v ((k, x) :: r) = (if k = f then (k, v) :: r else (k, x) :: putF f v r) from rfl]
    by_cases hk : k = f
    · rw [if_pos hk, List.length_cons, List.length_cons]; omega
    · rw [if_neg hk, List.length_cons, List.length_cons]; omega
theorem RelO.some_of {v : V} {o : Option Value} (r : RelO (some v) o) : ∃ u, o = some u ∧ RelV v u := by
  cases o with
  | none => exact (show False from r).elim
  | some u => exact ⟨u, rfl, r⟩
theorem RelO.none_of {o : Option Value} (r : RelO none o) : o = none := by
  cases o with
  | none => rfl
  | some u => exact (show False from r).elim
theorem handed_of {v : V} {u : Value} (r : RelV v u) : PySem.W.handedIn u = true := by
  cases v with
  | non => cases (show u = Value.none from r); rfl
  | bl b => cases (show u = Value.bool b from r); rfl
  | int i => obtain ⟨t, e⟩ := (show ∃ t, u = Value.int i t from r); cases e; rfl
  | str x => obtain ⟨t, e⟩ := (show ∃ t, u = Value.str x t from r); cases e; rfl
  | byt b => obtain ⟨t, e⟩ := (show ∃ t, u = Value.bytes b t from r); cases e; rfl
  | flt b => obtain ⟨t, e⟩ := (show ∃ t, u = Value.float b t from r); cases e; rfl
  | ref a => cases (show u = Value.ref a from r); rfl
  | ty n => cases (show u = Value.type n from r); rfl
section
variable {P : Program} {w : World} {H H' : Hp} {h h' : Heap} {a C dx : Addr} {fs fs' : List (Str × V)}
theorem ins_get (hok : HOk P w H h) (e : H a = some (.ins C dx fs)) : ∃ mA, ObjM h a dx C mA ∧ (∀ f, RelO (fs.lookup f) (mA f)) ∧ PySem.Within mA (fs.map (·.1)) ∧ fs.length ≤ 1000 ∧ H dx = some (.own a) := by
  obtain ⟨d, z, ne, ob, mA, n, r, q⟩ := (show ObjOk P w H h a (.ins C dx fs) from hok a _ e)
  exact ⟨mA, ⟨ob, n, ne⟩, r, q, z, d⟩
end
structure Cls (K : PySem.W.Frag) (C : Addr) : Prop where
  pg : PySem.W.plainGet K C Str.empty = true
  hd : PySem.W.hasDictIn K C = true
  po : PySem.W.plainOver K C = true
  sa : PySem.W.findIn K (.ref C) "__setattr__" = some (some (.builtin "object.__setattr__"))
theorem Cls.get {K : PySem.W.Frag} {C : Addr} (c : Cls K C) (f : Str) : PySem.W.plainGet K C f = true := c.pg
noncomputable def NoAttr (K : PySem.W.Frag) (C : Addr) (f : Str) : Prop := PySem.W.findIn K (.ref C) f = some none
theorem NoAttr.taker {K : PySem.W.Frag} {C : Addr} {f : Str} (n : NoAttr K C f) : PySem.W.takerIn K C f = some none := by
  unfold PySem.W.takerIn
  rw [show PySem.W.findIn K (.ref C) f = some none from n]
  rfl
structure Meth (K : PySem.W.Frag) (C : Addr) (m : Str) (f : Addr) : Prop where
  at_ : PySem.W.findIn K (.ref C) m = some (some (.ref f))
  fn : PySem.W.isFn K (.ref f) = true
  kp : PySem.W.keepIn K (.ref f) = true
section
variable {X : Cx} {pins : List (Addr × Obj)} {σ : St} {H : Hp} {s : Shared} {a C dx : Addr} {fs : List (Str × V)} {f : Str} {v : V} {A : Around} {E : Value → Shared → Prop}
theorem getattr_ok {b : Bool} {Q : Value → Shared → Prop} (I : Inv X pins σ H s) (e : H a = some (.ins C dx fs)) (c : Cls X.K C) (n : NoAttr X.K C f) (l : fs.lookup f = some v)
    (h : ∀ u s', Inv X pins σ H s' → RelV v u → Q u s') : wpAny (model X.prog X.w) A (getAttr (.ref a) f b) Q E s := by
  obtain ⟨mA, O, r, _, _, _⟩ := ins_get I.hok e
  obtain ⟨u, hu, ru⟩ := RelO.some_of (v := v) (o := mA f) (by rw [← l]; exact r f)
  exact get_map I.kIn O (c.get f) c.hd n hu (handed_of ru) (h u _ (I.tok _) ru)
theorem getmeth_ok {m : Str} {g : Addr} {pl : Sem Bool} {Q : Value × List Value → Shared → Prop} (I : Inv X pins σ H s) (e : H a = some (.ins C dx fs)) (c : Cls X.K C) (k : Meth X.K C m g) (l : fs.lookup m = none)
    (h : Q (.ref g, [.ref a]) s) : wpAny (model X.prog X.w) A (getMethod (.ref a) m pl) Q E s := by
  obtain ⟨mA, O, r, _, _, _⟩ := ins_get I.hok e
  have hn : mA m = none := RelO.none_of (by rw [← l]; exact r m)
  exact get_meth I.kIn O (c.get m) k.at_ k.fn hn h
theorem setattr_ok {y : V} {u : Value} {Q : Unit → Shared → Prop} (I : Inv X pins σ H s) (e : H a = some (.ins C dx fs)) (c : Cls X.K C) (n : NoAttr X.K C f) (hl : fs.length < 1000) (ry : RelV y u)
    (h : ∀ s', Inv X pins σ (upd H a (.ins C dx (putF f y fs))) s' → Q () s') : wpAny (model X.prog X.w) A (setAttr (.ref a) f u) Q E s := by
  obtain ⟨mA, O, r, wi, _, ho⟩ := ins_get I.hok e
  have hz : (fs.map (·.1)).length ≤ sizeLine := by rw [List.length_map, sizeLine_eq]; omega
  refine set_map I.kIn O c.sa c.po n.taker c.hd wi hz fun h' O' sb => h _ ?_
  have hd : ∃ o, h'.get? dx = some o := let ⟨o, _, _, e', _⟩ := O'.ns; ⟨o, e'⟩
  refine I.write (x := a) (e := dx) (by rw [e]; exact True.intro) (.inr ho) (fun b q hb z => (sb.2 b hb).trans z) hd ?_
  refine ⟨by rw [upd_ne O.ne]; exact ho, ?_, O.ne, O'.obj, _, O'.ns, fun g => ?_, fun g hg => ?_⟩
  · have := length_putF f y fs; omega
  · show RelO ((putF f y fs).lookup g) (if g = f then some u else mA g)
    rw [lookup_putF]
    by_cases q : g = f
    · rw [if_pos q, if_pos q]; exact ry
    · rw [if_neg q, if_neg q]; exact r g
  · by_cases q : g = f
    · rw [q]; exact (keys_putF f y fs).1
    · refine (keys_putF f y fs).2 g (wi g fun z => hg ?_)
      show (if g = f then some u else mA g) = none
      rw [if_neg q]; exact z
theorem Inv.made (I : Inv X pins σ H s) : Inv X pins σ (upd (upd H s.heap.objs.size (.own (s.heap.objs.size + 1))) (s.heap.objs.size + 1) (.ins C s.heap.objs.size []))
    { s with heap := (s.heap.push PySem.W.emptyDict).push (PySem.W.instObj C s.heap.objs.size) } := by
  have e1 : (s.heap.push PySem.W.emptyDict).get? s.heap.objs.size = some PySem.W.emptyDict := Heap.get?_push_size s.heap rfl
  have e2 : ((s.heap.push PySem.W.emptyDict).push (PySem.W.instObj C s.heap.objs.size)).get? (s.heap.objs.size + 1) = some (PySem.W.instObj C s.heap.objs.size) := by
    have := Heap.get?_push_size (s.heap.push PySem.W.emptyDict) (o := PySem.W.instObj C s.heap.objs.size) rfl
    rwa [Heap.size_push] at this
  have e3 : (s.heap.push PySem.W.emptyDict).Ns s.heap.objs.size (fun _ => none) := ⟨PySem.W.emptyDict, #[], _, e1, rfl, (fun e he => absurd he (by simp)), fun _ => rfl⟩
  have I1 := I.laid (a := s.heap.objs.size) (o := .own (s.heap.objs.size + 1)) (h' := s.heap.push PySem.W.emptyDict) (t' := s.toks) (fun b u q => Heap.get?_push_of_some _ q) (Nat.le_refl _) ⟨_, e1⟩
  refine I1.laid (a := s.heap.objs.size + 1) (o := .ins C s.heap.objs.size []) (t' := s.toks) (fun b u q => Heap.get?_push_of_some _ q) (Nat.le_of_eq (Heap.size_push _ _)) ?_
  have ne : s.heap.objs.size ≠ s.heap.objs.size + 1 := Nat.ne_of_lt (Nat.lt_succ_self _)
  refine ⟨by rw [upd_ne ne, upd_same], Nat.zero_le _, ne, e2, fun _ => none, (Heap.Ns1.of_empty e3).at fun o q => Heap.get?_push_of_some _ q, fun _ => True.intro, fun y hy => absurd rfl hy⟩
theorem attr_of {prog : Program} {w : World} {env : Env} {e : Expr} {f : Str} {pos : Pos} {s : Shared} {Q : Value → Shared → Prop} (hb : attributeBase e f env (eval e env) = eval e env)
    (h : wpAny (model prog w) A (eval e env) (fun o s₁ => wpAny (model prog w) A (getAttr o f true) Q E s₁) E s) : wpAny (model prog w) A (eval (.Attribute e f pos) env) Q E s :=
  Attribute_any_ h (by rw [arm_eval_Attribute, hb])
end
noncomputable def tFld (K : PySem.W.Frag) (ta : TE) (f : Str) : TE := fun σ H Q => ta σ H fun x H1 => ∃ a C dx fs v, x = .ref a ∧ H1 a = some (.ins C dx fs) ∧ Cls K C ∧ NoAttr K C f ∧ fs.lookup f = some v ∧ Q v H1
noncomputable def sFld (K : PySem.W.Frag) (ta tv : TE) (f : Str) : TS := fun D σ H => tv σ H fun y H1 => ta σ H1 fun x H2 => ∃ a C dx fs, x = .ref a ∧ H2 a = some (.ins C dx fs) ∧ Cls K C ∧ NoAttr K C f ∧ fs.length < 1000 ∧
  D.nx σ (upd H2 a (.ins C dx (putF f y fs)))
section
variable {X : Cx} {o e value : Expr} {f : Str} {pos pos' tpos : Pos} {ta tv : TE}
theorem pe_fld (he : PE X e ta) (hb : attributeBase e f X.env (eval e X.env) = eval e X.env) : PE X (.Attribute e f pos) (tFld X.K ta f) := by
  intro pins s σ H Q I h
  refine attr_of hb (thn (he pins s σ H _ I h) fun u s1 ⟨x, H1, I1, rx, a, C, dx, fs, v, ex, ea, c, n, l, q⟩ => ?_)
  subst ex
  obtain rfl : u = Value.ref a := rx
  exact getattr_ok I1 ea c n l fun u' s2 I2 ru => ⟨v, H1, I2, ru, q⟩
theorem ps_fld (ha : PE X o ta) (hv : PE X value tv) (hs : swapsWith value (some (.Attribute o f pos')) pos.line X.env = pure false) : PS X (.Assign [.Attribute o f pos'] value pos) (sFld X.K ta tv f) := by
  intro pins s σ H D I h
  refine plainObj_wpAny_Assign_Attribute (thn (hv pins s σ H _ I h) fun u s1 ⟨y, H1, I1, ry, q⟩ => thn (ha pins s1 σ H1 _ I1 q) fun ov s2 ⟨x, H2, I2, rx, a, C, dx, fs, ex, ea, c, n, l, q2⟩ => ?_) hs
  subst ex
  obtain rfl : ov = Value.ref a := rx
  exact setattr_ok I2 ea c n l ry fun s3 I3 => ⟨σ, _, I3, q2⟩
end
section
variable {X : Cx} {pins : List (Addr × Obj)} {σ : St} {H : Hp} {s : Shared} {A : Around} {E : Value → Shared → Prop} {Q : Value → Shared → Prop} {c : Value} {b : Bool}
inductive TyOf (K : PySem.W.Frag) (H : Hp) : V → Value → Prop where
  | non : TyOf K H .non (.type "NoneType")
  | bl (x : Bool) : TyOf K H (.bl x) (.type "bool")
  | int (i : Int) : TyOf K H (.int i) (.type "int")
  | str (x : Str) : TyOf K H (.str x) (.type "str")
  | flt (x : UInt64) : TyOf K H (.flt x) (.type "float")
  | lst {a : Addr} {xs : List V} (e : H a = some (.lst xs)) : TyOf K H (.ref a) (.type "list")
  | frz {a : Addr} {o : Obj} {xs : List V} (e : H a = some (.frz o (.lst xs))) : TyOf K H (.ref a) (.type "list")
  | tup {a : Addr} {xs : List V} (e : H a = some (.tup xs)) : TyOf K H (.ref a) (.type "tuple")
  | dK {a : Addr} {kvs : List (Key × V)} (e : H a = some (.dK kvs)) : TyOf K H (.ref a) (.type "dict")
  | dT {a : Addr} {kvs : List (List Key × V)} (e : H a = some (.dT kvs)) : TyOf K H (.ref a) (.type "dict")
  | ins {a C dx : Addr} {fs : List (Str × V)} (e : H a = some (.ins C dx fs)) (cl : Cls K C) (ha : PySem.W.findIn K (.ref C) "__class__" = some (some (.builtin "object.__class__")))
      (hn : PySem.W.specialIn K (.builtin "object.__class__") "__get__" = some (some (.builtin "getset_descriptor.__get__"))) (htk : PySem.W.takesIn K (.builtin "object.__class__") = some true)
      (hm : PySem.W.mroIn K C (.type "object") = some true) : TyOf K H (.ref a) (.ref C)
theorem isinst_ok {x : V} {u t : Value} (I : Inv X pins σ H s) (rx : RelV x u) (ty : TyOf X.K H x t) (e : PySem.W.kitOne X.K t c = some b) (h : ∀ tk, Q (.bool b) { s with toks := tk }) :
    wpAny (model X.prog X.w) A (call (.builtin "isinstance") [u, c]) Q E s := by
  cases ty with
  | non => cases (show u = Value.none from rx); exact PySem.W.kia_one PySem.W.kitx_none I.kIn True.intro e (fun z => nomatch z) h
  | bl y => cases (show u = Value.bool y from rx); exact PySem.W.kia_one PySem.W.kitx_bool I.kIn True.intro e (fun z => nomatch z) h
  | int i => obtain ⟨t, q⟩ := (show ∃ t, u = Value.int i t from rx); cases q; exact PySem.W.kia_one PySem.W.kitx_int I.kIn True.intro e (fun z => nomatch z) h
  | str y => obtain ⟨t, q⟩ := (show ∃ t, u = Value.str y t from rx); cases q; exact PySem.W.kia_one PySem.W.kitx_str I.kIn True.intro e (fun z => nomatch z) h
  | flt y => obtain ⟨t, q⟩ := (show ∃ t, u = Value.float y t from rx); cases q; exact PySem.W.kia_one PySem.W.kitx_float I.kIn True.intro e (fun z => nomatch z) h
  | @lst a xs ea =>
    cases (show u = Value.ref a from rx)
    obtain ⟨_, _, n, _, h1⟩ := (show ObjOk X.prog X.w H s.heap a (.lst xs) from I.hok a _ ea)
    exact PySem.W.kia_one PySem.W.kitx_list I.kIn ⟨_, h1, rfl⟩ e (fun z => nomatch z) h
  | @frz a ob xs ea =>
    cases (show u = Value.ref a from rx)
    obtain ⟨_, _, _, n, _, h1⟩ := (show ObjOk X.prog X.w H s.heap a (.frz ob (.lst xs)) from I.hok a _ ea)
    exact PySem.W.kia_one PySem.W.kitx_list I.kIn ⟨_, h1, rfl⟩ e (fun z => nomatch z) h
  | @tup a xs ea =>
    cases (show u = Value.ref a from rx)
    obtain ⟨_, _, _, p⟩ := (show ObjOk X.prog X.w H s.heap a (.tup xs) from I.hok a _ ea)
    obtain ⟨o, h1, h2, _⟩ := p
    exact PySem.W.kia_one PySem.W.kitx_tuple I.kIn ⟨o, h1, h2⟩ e (fun z => nomatch z) h
  | @dK a kvs ea =>
    cases (show u = Value.ref a from rx)
    obtain ⟨_, _, vs, _, p⟩ := (show ObjOk X.prog X.w H s.heap a (.dK kvs) from I.hok a _ ea)
    obtain ⟨o, es, ep, h1, h2, _⟩ := p
    exact PySem.W.kia_one PySem.W.kitx_dict I.kIn ⟨o, h1, h2.1⟩ e (fun z => nomatch z) h
  | @dT a kvs ea =>
    cases (show u = Value.ref a from rx)
    obtain ⟨_, _, xs, _, o, es, ep, h1, h2, _⟩ := (show ObjOk X.prog X.w H s.heap a (.dT kvs) from I.hok a _ ea)
    exact PySem.W.kia_one PySem.W.kitx_dict I.kIn ⟨o, h1, h2.1⟩ e (fun z => nomatch z) h
  | @ins a C dx fs ea cl ha hn htk hm =>
    cases (show u = Value.ref a from rx)
    obtain ⟨mA, O, _⟩ := ins_get I.hok ea
    obtain ⟨od, J, _⟩ := O.look
    exact PySem.W.kia_one (PySem.W.kitx_own (cl.get _) cl.hd ha hn htk hm) I.kIn J e (fun z => nomatch z) h
end
end L2
namespace L2
open PySem PySem.Spec PyProof.Rows
structure Room (k : Nat) (A : Around) : Prop where
  hd : A.handled = none
  dp : A.depth + 3 * k + 5 < recursionLimit
  un : A.units + 16 * k + 200 < cLine
theorem Room.mono {j k : Nat} {A : Around} (r : Room k A) (h : j ≤ k) : Room j A := ⟨r.hd, by have := r.dp; omega, by have := r.un; omega⟩
theorem Room.deeper {k : Nat} {A : Around} (r : Room (k + 1) A) (env : Env) : Room k (A.deeper env) :=
  ⟨r.hd, by have := r.dp; show A.depth + 1 + 3 * k + 5 < _; omega, by have := r.un; show A.units + 3 + 16 * k + 200 < _; omega⟩
theorem Room.in1 {k : Nat} {A : Around} (r : Room (k + 1) A) : Room k A.in1 :=
  ⟨r.hd, by have := r.dp; show A.depth + 3 * k + 5 < _; omega, by have := r.un; show A.units + 1 + 16 * k + 200 < _; omega⟩
theorem make_depth {A : Around} {C : Addr} {us : List Value} {kw : List (Str × Value)} : (A.under (.builtin "type.__call__" ⟨.ref C :: us, kw⟩)).depth = A.depth + 1 := by
  first | rfl | simp [Around.under, Code.weight, Code.isCreation, Code.isGuard, Code.isCaller, Code.frames, Code.isFrame, guardIds]
theorem make_units {A : Around} {C : Addr} {us : List Value} {kw : List (Str × Value)} : (A.under (.builtin "type.__call__" ⟨.ref C :: us, kw⟩)).units = A.units + 1 := by
  first | rfl | simp [Around.under, Code.cUnits, Code.frames, Code.isFrame]
theorem Room.make {k : Nat} {A : Around} (r : Room (k + 1) A) (C : Addr) (us : List Value) (kw : List (Str × Value)) : Room k (A.under (.builtin "type.__call__" ⟨.ref C :: us, kw⟩)) :=
  ⟨r.hd, by have := r.dp; rw [make_depth]; omega, by have := r.un; rw [make_units]; omega⟩
theorem Room.depth {k : Nat} {A : Around} (r : Room k A) : A.depth < recursionLimit := by have := r.dp; omega
theorem Room.units {k : Nat} {A : Around} (r : Room k A) : A.units + 64 < cLine := by have := r.un; omega
noncomputable def tNil : TA := fun _ H Q => Q [] H
noncomputable def tCons (ta : TE) (tr : TA) : TA := fun σ H Q => ta σ H fun x H1 => tr σ H1 fun xs H2 => Q (x :: xs) H2
section
variable {X : Cx} {e : Expr} {es : List Expr} {te : TE} {t : TA} {pos : Pos}
theorem pa_nil : PA X [] tNil := fun _ _ _ _ H Q I h => Calls.spliced_nil ⟨[], H, I, .nil, h⟩
theorem pa_cons (ha : PE X e te) (hr : PA X es t) (hs : starEach (e :: es) X.env = (false, eval e X.env) :: starEach es X.env := by rfl) : PA X (e :: es) (tCons te t) := by
  intro pos pins s σ H Q I h
  rw [hs]
  show wpAny _ _ (spliced ((false, eval e X.env) :: backTo pos (starEach es X.env))) _ _ s
  refine Calls.spliced_cons (thn (ha pins s σ H _ I h) fun u s1 ⟨x, H1, I1, r1, q1⟩ => ?_)
  exact thn (hr pos pins s1 σ H1 _ I1 q1) fun us s2 ⟨xs, H2, I2, r2, q2⟩ => ⟨x :: xs, H2, I2, .cons r1 r2, q2⟩
noncomputable def tTup (t : TA) : TE := fun σ H Q => t σ H fun xs H1 => xs.length ≤ sizeLine ∧ ∀ p, H1 p = none → Q (.ref p) (upd H1 p (.tup xs))
noncomputable def tLst (t : TA) : TE := fun σ H Q => t σ H fun xs H1 => xs.length ≤ sizeLine ∧ ∀ p, H1 p = none → Q (.ref p) (upd H1 p (.lst xs))
theorem pe_tup {x1} (h : PA X es t) : PE X (.Tuple es x1 pos) (tTup t) := by
  intro pins s σ H Q I hq
  refine wpAny_Tuple_spliced (thn (h pos pins s σ H _ I hq) fun us s1 ⟨xs, H1, I1, r, z, q⟩ => ⟨by rw [← r.length]; exact z, ?_⟩)
  have hf : H1 s1.heap.objs.size = none := I1.hok.fresh (Nat.le_refl _)
  refine ⟨.ref s1.heap.objs.size, upd H1 s1.heap.objs.size (.tup xs), I1.laid (t' := s1.toks) (fun b u e => Heap.get?_push_of_some _ e) (Nat.le_refl _) ?_, rfl, q _ hf⟩
  exact ⟨z, us, r, ⟨_, Heap.get?_push_size _ rfl, rfl, _, rfl⟩⟩
theorem pe_lst (h : PA X es t) : PE X (.List es pos) (tLst t) := by
  intro pins s σ H Q I hq
  refine wpAny_List_spliced (thn (h pos pins s σ H _ I hq) fun us s1 ⟨xs, H1, I1, r, z, q⟩ => ⟨by rw [← r.length]; exact z, ?_⟩)
  have hf : H1 s1.heap.objs.size = none := I1.hok.fresh (Nat.le_refl _)
  refine ⟨.ref s1.heap.objs.size, upd H1 s1.heap.objs.size (.lst xs), I1.laid (t' := s1.toks) (fun b u e => Heap.get?_push_of_some _ e) (Nat.le_refl _) ?_, rfl, q _ hf⟩
  exact ⟨z, us, 0, r, Heap.get?_push_size _ rfl⟩
end
noncomputable abbrev Sp := List V → Hp → VK → XK → Prop
noncomputable abbrev CXT := List Env → Hp → Shared → XK → Value → Shared → Prop
structure Env0 (P : Program) (w : World) (K : PySem.W.Frag) (mg : Str → Option Value) (base : Heap) (A : Around) (outer : List Env) (s : Shared) (H : Hp) : Prop where
  frames : A.frames = some outer
  mod : Mod K mg base
  bs : ∀ b o, base.get? b = some o → s.heap.get? b = some o ∧ H b = none
  bsz : base.objs.size ≤ s.heap.objs.size
  funs : s.heap.FunFrames base outer
  frf : ∀ b ∈ frs outer, H b = none
  hok : HOk P w H s.heap
  bare : AllBare s.gens
noncomputable def CE (outer : List Env) (P : Program) (w : World) (H : Hp) (s : Shared) (Q : VK) (u : Value) (s' : Shared) : Prop :=
  ∃ v H', s'.os = s.os ∧ AllBare s'.gens ∧ Un (frs outer) [] H H' s.heap s'.heap ∧ HOk P w H' s'.heap ∧ RelV v u ∧ Q v H'
noncomputable def CR (CX : CXT) (outer : List Env) (P : Program) (w : World) (H : Hp) (s : Shared) (Q : VK) (E : XK) (r : Result) (s' : Shared) : Prop :=
  match r with
  | .ok (.ret u) => CE outer P w H s Q u s'
  | .ok _ => False
  | .error e => CX outer H s E e s'
structure FnOk (P : Program) (w : World) (K : PySem.W.Frag) (mg : Str → Option Value) (base : Heap) (CX : CXT) (k : Nat) (f : Addr) (fd : FuncData) (ps : List Str) (sp : Sp) : Prop where
  len : ∀ vs H Q E, sp vs H Q E → vs.length = ps.length
  run : ∀ (A : Around) (outer : List Env) (s : Shared) (H : Hp) (args : Args) (us : List Value) (vs : List V) (Q : VK) (E : XK), Room k A → Env0 P w K mg base A outer s H → BindsTo s fd args (ps.zip us) → Vals vs us → sp vs H Q E →
    codeAny (model P w) A (.call (.ref f) args) (CR CX outer P w H s Q E) s
theorem FnOk.mono {P : Program} {w : World} {K : PySem.W.Frag} {mg : Str → Option Value} {base : Heap} {CX : CXT} {j k : Nat} {f : Addr} {fd : FuncData} {ps : List Str} {sp : Sp} (F : FnOk P w K mg base CX j f fd ps sp) (h : j ≤ k) :
    FnOk P w K mg base CX k f fd ps sp := ⟨F.len, fun A outer s H args us vs Q E hr => F.run A outer s H args us vs Q E (hr.mono h)⟩
theorem FnOk.imp {P : Program} {w : World} {K : PySem.W.Frag} {mg : Str → Option Value} {base : Heap} {CX : CXT} {k : Nat} {f : Addr} {fd : FuncData} {ps : List Str} {sp sp' : Sp} (F : FnOk P w K mg base CX k f fd ps sp)
    (h : ∀ vs H Q E, sp' vs H Q E → sp vs H Q E) : FnOk P w K mg base CX k f fd ps sp' :=
  ⟨fun vs H Q E q => F.len vs H Q E (h _ _ _ _ q), fun A outer s H args us vs Q E hr he hb hv hs => F.run A outer s H args us vs Q E hr he hb hv (h _ _ _ _ hs)⟩
theorem Env0.make {P : Program} {w : World} {K : PySem.W.Frag} {mg : Str → Option Value} {base : Heap} {A : Around} {outer : List Env} {s : Shared} {H : Hp} (e : Env0 P w K mg base A outer s H) (C : Addr) (us : List Value) (kw : List (Str × Value)) :
    Env0 P w K mg base (A.under (.builtin "type.__call__" ⟨.ref C :: us, kw⟩)) outer s H := ⟨by first | exact e.frames | (simpa [Around.under, Code.envs, Code.isFrame, pushEnvs] using e.frames), e.mod, e.bs, e.bsz, e.funs, e.frf, e.hok, e.bare⟩
theorem Env0.in1 {P : Program} {w : World} {K : PySem.W.Frag} {mg : Str → Option Value} {base : Heap} {A : Around} {outer : List Env} {s : Shared} {H : Hp} (e : Env0 P w K mg base A outer s H) :
    Env0 P w K mg base A.in1 outer s H := ⟨e.frames, e.mod, e.bs, e.bsz, e.funs, e.frf, e.hok, e.bare⟩
section
variable {X : Cx} {pins : List (Addr × Obj)} {σ : St} {H : Hp} {s s' : Shared}
theorem Inv.env0 (I : Inv X pins σ H s) : Env0 X.prog X.w X.K X.mg X.base X.A X.stack s H :=
  ⟨I.ok.frames, I.ok.mod, I.bs, Nat.le_trans I.ok.bsz I.sz, I.stack, I.stkFree, I.hok, I.bare⟩
theorem Inv.after {Q : VK} {u : Value} (I : Inv X pins σ H s) (h : CE X.stack X.prog X.w H s Q u s') : EP X pins σ Q u s' := by
  obtain ⟨v, H', os, bare, un, hok, r, q⟩ := h
  obtain ⟨hh, g, d, t, os'⟩ := s'
  obtain rfl : os' = s.os := os
  exact ⟨v, H', I.call (h' := hh) (g' := g) (d' := d) (t' := t) (ch := []) un hok bare (fun b z => absurd z (by simp)), r, q⟩
end
noncomputable def tCall (sp : Sp) (dvs : List V) (E : XK) (t : TA) : TE := fun σ H Q => t σ H fun vs H1 => sp (vs ++ dvs) H1 Q E
noncomputable def tMeth (C : Addr) (m : Str) (sp : Sp) (dvs : List V) (E : XK) (ta : TE) (t : TA) : TE := fun σ H Q => ta σ H fun x H1 => ∃ a dx fs, x = .ref a ∧ H1 a = some (.ins C dx fs) ∧ fs.lookup m = none ∧
  t σ H1 fun vs H2 => sp (x :: (vs ++ dvs)) H2 Q E
noncomputable def tMake (C : Addr) (sp : Sp) (dvs : List V) (E : XK) (t : TA) : TE := fun σ H Q => t σ H fun vs H1 => ∀ x dx, H1 x = none → H1 dx = none → dx ≠ x →
  sp (.ref x :: (vs ++ dvs)) (upd (upd H1 dx (.own x)) x (.ins C dx [])) (fun v H2 => v = .non ∧ Q (.ref x) H2) E
noncomputable def Binds (K : PySem.W.Frag) (fd : FuncData) (ps : List Str) (ds : List Value) : Prop :=
  ∀ (s : Shared) (us : List Value), K.In s.heap → (us ++ ds).length = ps.length → BindsTo s fd ⟨us, []⟩ (ps.zip (us ++ ds))
theorem Binds.all {K : PySem.W.Frag} {fd : FuncData} {ps : List Str} (h : ∀ us : List Value, us.length = ps.length → bindArgs fd ⟨us, []⟩ = pure (ps.zip us)) : Binds K fd ps [] := fun s us _ hl => by
  rw [List.append_nil] at hl ⊢
  exact .of_eq (h us hl)
noncomputable def Passes (CX : CXT) (X : Cx) (E : XK) : Prop := ∀ (pins : List (Addr × Obj)) (σ : St) (H : Hp) (s : Shared) (e : Value) (s' : Shared), Inv X pins σ H s → CX X.stack H s E e s' → X.xe e s'
section
variable {X : Cx} {CX : CXT} {k : Nat} {f C : Addr} {fd : FuncData} {ps : List Str} {sp : Sp} {dvs : List V} {ds : List Value} {E : XK} {x m : Str} {p pos apos : Pos} {e o : Expr} {es : List Expr} {ta : TE} {t : TA}
theorem run_fn {pins : List (Addr × Obj)} {σ : St} {H : Hp} {s : Shared} {Q : VK} {us : List Value} {vs : List V} (F : FnOk X.prog X.w X.K X.mg X.base CX k f fd ps sp) (hr : Room k X.A) (hb : Binds X.K fd ps ds) (hd : Vals dvs ds) (hx : Passes CX X E)
    (I : Inv X pins σ H s) (r : Vals vs us) (h : sp (vs ++ dvs) H Q E) : wpAny (model X.prog X.w) X.A (call (.ref f) us) (EP X pins σ Q) X.xe s := by
  have r2 : Vals (vs ++ dvs) (us ++ ds) := r.append hd
  have hl : (us ++ ds).length = ps.length := by rw [← r2.length]; exact F.len _ _ _ _ h
  refine wpAny_call (codeAny_mono (F.run X.A X.stack s H ⟨us, []⟩ (us ++ ds) (vs ++ dvs) Q E hr I.env0 (hb s us I.kIn hl) r2 h) fun r s' hq => ?_)
  cases r with
  | error e => exact hx pins σ H s e s' I hq
  | ok fl =>
    cases fl with
    | ret u => exact I.after hq
    | next => exact False.elim hq
    | brk => exact False.elim hq
    | cont => exact False.elim hq
theorem pe_call (F : FnOk X.prog X.w X.K X.mg X.base CX k f fd ps sp) (hr : Room k X.A) (hg : Gl X x) (hm : X.mg x = some (.ref f)) (hk : PySem.W.keepIn X.K (.ref f) = true) (hb : Binds X.K fd ps ds) (hd : Vals dvs ds) (hx : Passes CX X E)
    (ha : PA X (e :: es) t) (hdb : (x == ("__debug__" : Str)) = false := by decide) (he : starEach (e :: es) X.env = (false, eval e X.env) :: starEach es X.env := by rfl) (hpl : (backTo pos (starEach es X.env)).any (·.1) = false := by rfl) :
    PE X (.Call (.Name x p) (e :: es) [] pos) (tCall sp dvs E t) := by
  intro pins s σ H Q I h
  refine wpAny_Call_Name_kw (ld_glob I hg hm ?_ hdb)
  refine PySem.W.callWith_K (h₀ := X.base) I.ok.mod.kin hk (thn (ha pos pins s σ H _ I h) fun us s1 ⟨vs, H1, I1, r, q⟩ => ⟨I1.kIn, ?_⟩) he hpl
  exact run_fn F hr hb hd hx I1 r q
theorem pe_meth {pl : Sem Bool} (he : PE X o ta) (c : Cls X.K C) (hm : Meth X.K C m f) (F : FnOk X.prog X.w X.K X.mg X.base CX k f fd ps sp) (hr : Room k X.A) (hb : Binds X.K fd ps ds) (hd : Vals dvs ds) (hx : Passes CX X E) (ha : PA X (e :: es) t)
    (hst : starEach (e :: es) X.env = (false, eval e X.env) :: starEach es X.env := by rfl) (hpl : (backTo pos (starEach es X.env)).any (·.1) = false := by rfl)
    (ht : eval (.Call (.Attribute o m apos) (e :: es) [] pos) X.env = (do
      let ov ← eval o X.env
      standAt apos.atName
      let (f, first) ← holding [ov] (getMethod ov m pl)
      callWith pos f first (backTo pos (starEach (e :: es) X.env)) (backToKw pos (keywordEach [] X.env))) := by rfl) :
    PE X (.Call (.Attribute o m apos) (e :: es) [] pos) (tMeth C m sp dvs E ta t) := by
  intro pins s σ H Q I h
  refine PySem.W.methodCall_KW (pl := pl) (thn (he pins s σ H _ I h) fun u s1 ⟨x, H1, I1, rx, a, dx, fs, ex, ea, l, q⟩ => ?_) ht
  subst ex
  obtain rfl : u = Value.ref a := rx
  refine getmeth_ok I1 ea c hm l ?_
  refine PySem.W.callWith_K (first := [.ref a]) (h₀ := X.base) I.ok.mod.kin hm.kp (thn (ha pos pins s1 σ H1 _ I1 q) fun us s2 ⟨vs, H2, I2, r, q2⟩ => ⟨I2.kIn, ?_⟩) hst hpl
  exact run_fn (us := .ref a :: us) (vs := .ref a :: vs) F hr hb hd hx I2 (.cons rfl r) q2
structure Mk (K : PySem.W.Frag) (C f : Addr) : Prop where
  makes : PySem.W.makesIn K C = true
  init : PySem.W.findIn K (.ref C) "__init__" = some (some (.ref f))
  fn : PySem.W.isFn K (.ref f) = true
  kp : PySem.W.keepIn K (.ref C) = true
theorem run_make {pins : List (Addr × Obj)} {σ : St} {H : Hp} {s : Shared} {Q : VK} {us : List Value} {vs : List V} (M : Mk X.K C f) (F : FnOk X.prog X.w X.K X.mg X.base CX k f fd ps sp) (hr : Room (k + 1) X.A) (hb : Binds X.K fd ps ds) (hd : Vals dvs ds)
    (hx : Passes CX X E) (I : Inv X pins σ H s) (r : Vals vs us)
    (h : ∀ x dx, H x = none → H dx = none → dx ≠ x → sp (.ref x :: (vs ++ dvs)) (upd (upd H dx (.own x)) x (.ins C dx [])) (fun v H2 => v = .non ∧ Q (.ref x) H2) E) :
    wpAny (model X.prog X.w) X.A (call (.ref C) us) (EP X pins σ Q) X.xe s := by
  have hq := h (s.heap.objs.size + 1) s.heap.objs.size (I.hok.fresh (Nat.le_succ _)) (I.hok.fresh (Nat.le_refl _)) (Nat.ne_of_lt (Nat.lt_succ_self _))
  have I2 := Inv.made (C := C) I
  have r2 : Vals (V.ref (s.heap.objs.size + 1) :: (vs ++ dvs)) (Value.ref (s.heap.objs.size + 1) :: (us ++ ds)) := .cons rfl (r.append hd)
  have hl : (Value.ref (s.heap.objs.size + 1) :: us ++ ds).length = ps.length := by
    have e := r2.length
    rw [F.len _ _ _ _ hq] at e
    exact e.symm
  refine wpAny_call (make_map (f := f) I.kIn M.makes M.init (beq_iff_eq.mp M.fn) (codeAny_mono (F.run _ X.stack _ _ ⟨Value.ref (s.heap.objs.size + 1) :: us, []⟩ (Value.ref (s.heap.objs.size + 1) :: (us ++ ds)) _ _ E (hr.make C us [])
    (I2.env0.make C us []) (hb _ (Value.ref (s.heap.objs.size + 1) :: us) I2.kIn hl) r2 hq) fun r s' hq' => ?_))
  cases r with
  | error e => exact hx pins σ _ _ e s' I2 hq'
  | ok fl =>
    cases fl with
    | ret u =>
      obtain ⟨v, H', I3, rv, ev, q3⟩ := I2.after hq'
      subst ev
      exact ⟨rv, ⟨V.ref (s.heap.objs.size + 1), H', I3, rfl, q3⟩⟩
    | next => exact False.elim hq'
    | brk => exact False.elim hq'
    | cont => exact False.elim hq'
theorem pe_make (M : Mk X.K C f) (F : FnOk X.prog X.w X.K X.mg X.base CX k f fd ps sp) (hr : Room (k + 1) X.A) (hg : Gl X x) (hm : X.mg x = some (.ref C)) (hb : Binds X.K fd ps ds) (hd : Vals dvs ds) (hx : Passes CX X E)
    (ha : PA X (e :: es) t) (hdb : (x == ("__debug__" : Str)) = false := by decide) (he : starEach (e :: es) X.env = (false, eval e X.env) :: starEach es X.env := by rfl) (hpl : (backTo pos (starEach es X.env)).any (·.1) = false := by rfl) :
    PE X (.Call (.Name x p) (e :: es) [] pos) (tMake C sp dvs E t) := by
  intro pins s σ H Q I h
  refine wpAny_Call_Name_kw (ld_glob I hg hm ?_ hdb)
  refine PySem.W.callWith_K (h₀ := X.base) I.ok.mod.kin M.kp (thn (ha pos pins s σ H _ I h) fun us s1 ⟨vs, H1, I1, r, q⟩ => ⟨I1.kIn, ?_⟩) he hpl
  exact run_make M F hr hb hd hx I1 r q
end
noncomputable def PK (X : Cx) (kws : List Keyword) (t : TA) : Prop :=
  ∀ (pos : Pos) (pins : List (Addr × Obj)) (s : Shared) (σ : St) (H : Hp) (Q : List V → Hp → Prop), Inv X pins σ H s → t σ H Q → wpAny (model X.prog X.w) X.A (evalAll ((backToKw pos (keywordEach kws X.env)).map (·.2))) (AP X pins σ Q) X.xe s
section
variable {X : Cx} {CX : CXT} {k : Nat} {f C : Addr} {fd : FuncData} {ps ks : List Str} {sp : Sp} {E : XK} {x m : Str} {p pos apos kpos : Pos} {e o : Expr} {es : List Expr} {kws : List Keyword} {te ta : TE} {t tk : TA} {nm : Option Str}
theorem pk_nil : PK X [] tNil := fun _ _ _ _ H Q I h => wpAny_evalAll_nil ⟨[], H, I, .nil, h⟩
theorem pk_cons (ha : PE X e te) (hr : PK X kws t) : PK X (⟨nm, e, kpos⟩ :: kws) (tCons te t) := by
  intro pos pins s σ H Q I h
  show wpAny _ _ (evalAll ((do let v ← eval e X.env; standAt pos; pure v) :: (backToKw pos (keywordEach kws X.env)).map (·.2))) _ _ s
  refine wpAny_evalAll_cons (wpAny_bind (thn (ha pins s σ H _ I h) fun u s1 ⟨x, H1, I1, r1, q1⟩ => wpAny_bind (wpAny_standAt (wpAny_pure ?_))))
  exact thn (hr pos pins s1 σ H1 _ I1 q1) fun us s2 ⟨xs, H2, I2, r2, q2⟩ => ⟨x :: xs, H2, I2, .cons r1 r2, q2⟩
variable {g : List Value → List Value → List Value} {gV : List V → List V → List V}
end
structure FnScope (N P : List Str) (sc : Scope) : Prop where
  kind : sc.kind = .function
  co : sc.isCoroutine = false
  gen : sc.isGenerator = false
  nd : N.Nodup
  pre : N.take P.length = P
  par : ∀ x ∈ P, sc.names.lookup x = some .local ∨ sc.names.lookup x = some .cell
  nofree : ∀ y ∈ sc.names, y.2 ≠ .free
theorem bindL_out {kindOf : Str → Option NameKind} {x : Str} : ∀ {binds : List (Str × Value)} {m : Str → Option Value}, (∀ v, (x, v) ∉ binds) → bindL kindOf binds m x = m x
  | [], _, _ => rfl
  | (n, v) :: r, m, h => by
    unfold bindL
    rw [bindL_out fun w hw => h w (List.mem_cons_of_mem _ hw)]
    split
    · have : x ≠ n := by rintro rfl; exact h v List.mem_cons_self
      simp [this]
    · rfl
theorem bindC_out {kindOf : Str → Option NameKind} {x : Str} : ∀ {binds : List (Str × Value)} {m : Str → Option Value}, (∀ v, (x, v) ∉ binds) → bindC kindOf binds m x = m x
  | [], _, _ => rfl
  | (n, v) :: r, m, h => by
    unfold bindC
    rw [bindC_out fun w hw => h w (List.mem_cons_of_mem _ hw)]
    split
    · rfl
    · have : x ≠ n := by rintro rfl; exact h v List.mem_cons_self
      simp [this]
theorem bindL_get {kindOf : Str → Option NameKind} {x : Str} {v : Value} : ∀ {P : List Str} {vs : List Value} {i : Nat} {m : Str → Option Value}, P.Nodup → P[i]? = some x → vs[i]? = some v → kindOf x = some .local →
    bindL kindOf (P.zip vs) m x = some v
  | [], _, _, _, _, h, _, _ => by simp at h
  | _ :: _, [], _, _, _, _, h, _ => by simp at h
  | p :: P, w :: vs, 0, m, nd, h1, h2, hk => by
    simp at h1 h2; subst h1; subst h2
    show bindL kindOf ((p, w) :: P.zip vs) m p = _
    unfold bindL
    rw [bindL_out fun v hv => (List.nodup_cons.mp nd).1 (List.of_mem_zip hv).1, if_pos hk]
    simp
  | p :: P, w :: vs, i + 1, m, nd, h1, h2, hk => by
    show bindL kindOf ((p, w) :: P.zip vs) m x = _
    unfold bindL
    exact bindL_get (i := i) (List.nodup_cons.mp nd).2 (by simpa using h1) (by simpa using h2) hk
theorem bindC_get {kindOf : Str → Option NameKind} {x : Str} {v : Value} : ∀ {P : List Str} {vs : List Value} {i : Nat} {m : Str → Option Value}, P.Nodup → P[i]? = some x → vs[i]? = some v → kindOf x ≠ some .local →
    bindC kindOf (P.zip vs) m x = some v
  | [], _, _, _, _, h, _, _ => by simp at h
  | _ :: _, [], _, _, _, _, h, _ => by simp at h
  | p :: P, w :: vs, 0, m, nd, h1, h2, hk => by
    simp at h1 h2; subst h1; subst h2
    show bindC kindOf ((p, w) :: P.zip vs) m p = _
    unfold bindC
    rw [bindC_out fun v hv => (List.nodup_cons.mp nd).1 (List.of_mem_zip hv).1, if_neg hk]
    simp
  | p :: P, w :: vs, i + 1, m, nd, h1, h2, hk => by
    show bindC kindOf ((p, w) :: P.zip vs) m x = _
    unfold bindC
    exact bindC_get (i := i) (List.nodup_cons.mp nd).2 (by simpa using h1) (by simpa using h2) hk
noncomputable def start (N : List Str) (vs : List V) : St := vs.map some ++ List.replicate (N.length - vs.length) none
noncomputable def cxOf (CX : CXT) (P : Program) (w : World) (K : PySem.W.Frag) (mg : Str → Option Value) (base : Heap) (N : List Str) (qual : Str) (scope : Scope) (f : Addr) (cd : Value) (A : Around) (outer : List Env) (s : Shared) (H : Hp) (E : XK) : Cx where
  prog := P
  w := w
  K := K
  mg := mg
  base := base
  A := A.deeper (envOfC qual scope s.heap.objs.size f cd)
  N := N
  s₀ := s
  H₀ := H
  env := envOfC qual scope s.heap.objs.size f cd
  outer := outer
  stack := envOfC qual scope s.heap.objs.size f cd :: outer
  ex := []
  calm := true
  fn := fun _ => true
  pn := []
  xe := fun e s' => wpAny (model P w) (A.deeper (envOfC qual scope s.heap.objs.size f cd)) (leaving (envOfC qual scope s.heap.objs.size f cd) e) (fun _ s'' => CX outer H s E e s'') (fun e' s'' => CX outer H s E e' s'') s'
theorem cell_has {sc : Scope} {n : Nat} {x : Str} (h : sc.names.lookup x = some .cell) : ∃ c, (cellsFrom n sc.names []).lookup x = some c := by
  have q := PySem.W.cellsFrom_some sc.names n [] (.inl h)
  exact Option.isSome_iff_exists.mp q
theorem inv_start {CX : CXT} {P : Program} {w : World} {K : PySem.W.Frag} {mg : Str → Option Value} {base : Heap} {N ps : List Str} {qual : Str} {scope : Scope} {f : Addr} {cd : Value} {A : Around} {outer : List Env} {s s1 : Shared} {H : Hp} {E : XK} {us : List Value} {vs : List V}
    (S : FnScope N ps scope) (hd : A.handled = none) (e0 : Env0 P w K mg base A outer s H) (hl : vs.length = ps.length) (r : Vals vs us)
    (x : InCallC s s.heap.objs.size (bindL (envOfC qual scope s.heap.objs.size f cd).kindOf (ps.zip us) fun _ => none) (cellsFrom (s.heap.objs.size + 1) scope.names []) (bindC (envOfC qual scope s.heap.objs.size f cd).kindOf (ps.zip us) fun _ => none) s1) :
    Inv (cxOf CX P w K mg base N qual scope f cd A outer s H E) [] (start N vs) H s1 := by
  have hpl : ps.length ≤ N.length := by have := congrArg List.length S.pre; rw [List.length_take] at this; omega
  obtain ⟨h1, tk, rfl, hk⟩ := x.done
  have noA : ∀ b : Addr, b ∉ (cxOf CX P w K mg base N qual scope f cd A outer s H E).ex := fun b z => absurd (show b ∈ ([] : List Addr) from z) (by simp)
  refine ⟨⟨e0.mod, S.kind, rfl, rfl, Nat.le_refl _, fun y z c h1 h2 => ?_, fun y hy => ?_, fun y c _ h => ?_, fun _ => hd, Around.frames_deeper e0.frames, .inr ⟨rfl, rfl⟩, fun b z => absurd z (noA b), e0.bs, e0.bsz, fun b _ _ => noA b, fun b z => absurd z (noA b), e0.funs, e0.frf⟩,
    rfl, e0.bare, Un.kept hk, ⟨_, x.toInCall.ns, fun i y v h1 h2 h3 => ?_⟩, fun y c h => ⟨_, x.cell y c h⟩, e0.hok.fresh (Nat.le_refl _), fun y c h => ?_, fun p hp => absurd (show p ∈ ([] : List (Addr × Obj)) from hp) (by simp), e0.hok.kept hk, ?_⟩
  · exact name_of_addr x.apart (PySem.mem_of_lookup h1) (PySem.mem_of_lookup h2)
  · have hy : scope.names.lookup y = some .cell ∨ scope.names.lookup y = some .free := hy
    rcases hy with hy | hy
    · exact cell_has hy
    · exact absurd rfl (S.nofree _ (PySem.mem_of_lookup hy))
  · exact Nat.le_of_lt (x.above y c (PySem.mem_of_lookup h))
  · have hi : i < vs.length := by
      unfold start at h2
      by_cases hi : i < vs.length
      · exact hi
      · rw [List.getElem?_append_right (by simpa using hi)] at h2
        rw [List.getElem?_replicate] at h2
        split at h2 <;> cases h2
    have ha : vs[i]? = some v := by
      unfold start at h2
      rw [List.getElem?_append_left (by simpa using hi), List.getElem?_map] at h2
      cases e : vs[i]? with
      | none => rw [e] at h2; cases h2
      | some a => rw [e] at h2; cases h2; rfl
    obtain ⟨u, hu, rv⟩ := r.get ha
    have hp : ps[i]? = some y := by
      rw [← S.pre, List.getElem?_take_of_lt (by omega)]; exact h1
    have ndP : ps.Nodup := by rw [← S.pre]; exact S.nd.sublist (List.take_sublist _ _)
    refine ⟨u, rv, ?_⟩
    rcases S.par y (List.mem_of_getElem? hp) with k | k
    · exact .inl ⟨k, bindL_get ndP hp hu k⟩
    · obtain ⟨c, e⟩ := cell_has (n := s.heap.objs.size + 1) k
      refine .inr ⟨.inl k, c, e, ?_⟩
      have q := x.cell y c e
      rw [bindC_get ndP hp hu (by show scope.names.lookup y ≠ _; rw [k]; decide)] at q
      exact q
  · exact e0.hok.fresh (Nat.le_of_lt (x.above y c (PySem.mem_of_lookup h)))
  · unfold start
    show _ = N.length
    rw [List.length_append, List.length_map, List.length_replicate]
    omega
theorem fn_of {CX : CXT} {P : Program} {w : World} {K : PySem.W.Frag} {mg : Str → Option Value} {base : Heap} {k : Nat} {f : Addr} {name qual : Str} {params : Arguments} {body : List Stmt} {scope : Scope} {dV kV doc pm cdv ct oc : Value} {an od : Option Addr}
    {osl : Array (Option Value)} {N ps : List Str} {sp : Sp} (lk : K.lookup f = some ⟨oc, od, .func (PySem.W.fnOf name qual params body scope dV kV doc pm an cdv ct), osl⟩) (hcd : PySem.W.codeIn K cdv qual = true) (S : FnScope N ps scope)
    (len : ∀ vs H Q E, sp vs H Q E → vs.length = ps.length)
    (hbody : ∀ (A : Around) (outer : List Env) (s : Shared) (H : Hp) (vs : List V) (Q : VK) (E : XK), Room k (A.deeper (envOfC qual scope s.heap.objs.size f cdv)) → sp vs H Q E →
      ∃ t, PSs (cxOf CX P w K mg base N qual scope f cdv A outer s H E) body t ∧ t { nx := fun _ H' => Q .non H', rt := Q } (start N vs) H) :
    FnOk P w K mg base CX (k + 1) f (PySem.W.fnOf name qual params body scope dV kV doc pm an cdv ct) ps sp := by
  refine ⟨len, fun A outer s H args us vs Q E hr e0 hb r hsp => ?_⟩
  have hl := len _ _ _ _ hsp
  have KX : K.In s.heap := e0.mod.kin.keeps fun b o e => (e0.bs b o e).1
  have lim : s.heap.NoLimit := e0.mod.nolimit.keeps fun b o e => (e0.bs b o e).1
  have hkind : ∀ y ∈ ps.zip us, scope.names.lookup y.1 = some .local ∨ (scope.names.lookup y.1 = some .cell ∧ ((cellsFrom (s.heap.objs.size + 1) scope.names []).lookup y.1).isSome = true) := fun ⟨n, v⟩ hy => by
    rcases S.par n (List.of_mem_zip hy).1 with q | q
    · exact .inl q
    · exact .inr ⟨q, PySem.W.cellsFrom_some _ _ _ (.inl q)⟩
  refine codeAny_call_function hr.depth (KX _ _ lk) rfl S.co S.gen rfl (PySem.W.codeRec_of KX hcd) (hb _ _ _ _ ?_)
  refine wpAny_newFunctionEnv_cells S.kind hkind fun env he s1 x => ?_
  subst he
  refine ⟨lim.keeps x.toInCall.keep, codeAny_func ?_⟩
  obtain ⟨t, ht, hq⟩ := hbody A outer s H vs Q E (hr.deeper _) hsp
  have I : Inv (cxOf CX P w K mg base N qual scope f cdv A outer s H E) [] (start N vs) H s1 := inv_start S hr.hd e0 hl r x
  refine wpAny_mono (ht [] s1 (start N vs) H _ I hq) (fun fl s' hs => ?_) fun e s' hs => hs
  have fin : ∀ {σ' : St} {H' : Hp} {v : V} {u : Value}, Inv (cxOf CX P w K mg base N qual scope f cdv A outer s H E) [] σ' H' s' → RelV v u → Q v H' → CE outer P w H s Q u s' :=
    fun {σ' H' v u} J rv q => ⟨v, H', J.os, J.bare, J.base, J.hok, rv, q⟩
  cases fl with
  | ret u =>
    obtain ⟨v, σ', H', J, rv, q⟩ := hs
    exact fin J rv q
  | next =>
    obtain ⟨σ', H', J, q⟩ := hs
    exact fin (v := V.non) (u := Value.none) J rfl q
  | brk =>
    obtain ⟨_, _, _, q⟩ := hs
    exact False.elim q
  | cont =>
    obtain ⟨_, _, _, q⟩ := hs
    exact False.elim q
end L2
namespace L2
open PySem PySem.Spec PyProof.Rows
section
variable {X : Cx} {x : Str} {p pos : Pos} {e : Expr} {es : List Expr} {t : TA} {id T : String} {r : List V → Hp → VK → Prop}
noncomputable def tCB (r : List V → Hp → VK → Prop) (t : TA) : TE := fun σ H Q => t σ H fun vs H1 => r vs H1 Q
theorem pe_callB (hc : CallR X (.builtin id) r) (hg : Gl X x) (hm : X.mg x = none) (hv : bootBuiltins x = some (.builtin id)) (ha : PA X (e :: es) t) (hn : x ≠ "__name__" := by decide) (hdb : (x == ("__debug__" : Str)) = false := by decide)
    (he : starEach (e :: es) X.env = (false, eval e X.env) :: starEach es X.env := by rfl) (hpl : (backTo pos (starEach es X.env)).any (·.1) = false := by rfl) : PE X (.Call (.Name x p) (e :: es) [] pos) (tCB r t) := by
  intro pins s σ H Q I h
  refine wpAny_Call_Name_kw (ld_blt I hg hm hv ?_ hn hdb)
  exact PyProof.Rows.callWith_builtin1 (thn (ha pos pins s σ H _ I h) fun us s1 ⟨vs, H1, I1, r1, q1⟩ => hc pins s1 σ H1 vs us Q I1 r1 q1) he hpl
theorem pe_callTy (hc : CallR X (.type T) r) (hg : Gl X x) (hm : X.mg x = none) (hv : bootBuiltins x = some (.type T)) (ha : PA X (e :: es) t) (hn : x ≠ "__name__" := by decide) (hdb : (x == ("__debug__" : Str)) = false := by decide)
    (he : starEach (e :: es) X.env = (false, eval e X.env) :: starEach es X.env := by rfl) (hpl : (backTo pos (starEach es X.env)).any (·.1) = false := by rfl) : PE X (.Call (.Name x p) (e :: es) [] pos) (tCB r t) := by
  intro pins s σ H Q I h
  refine wpAny_Call_Name_kw (ld_blt I hg hm hv ?_ hn hdb)
  exact PyProof.Rows.callWith_type1 (thn (ha pos pins s σ H _ I h) fun us s1 ⟨vs, H1, I1, r1, q1⟩ => hc pins s1 σ H1 vs us Q I1 r1 q1) he hpl
end
end L2
namespace HT
open PySem PyProof.Rows
noncomputable def lexLt : List Int → List Int → Bool
  | [], [] => false
  | [], _ :: _ => true
  | _ :: _, [] => false
  | x :: xs, y :: ys => if x = y then lexLt xs ys else decide (x < y)
theorem eqAt_int (A : Around) (s : Shared) (a : Int) (t : Tok) (c : Int) (u : Tok) : ∃ e, SeqAt.EqAt A s (.int a t) (.int c u) e ∧ (e = true ↔ a = c) :=
  ⟨(a == c), SeqAt.EqAt.int_int a t c u, by simp⟩
section
open PySem.SeqAt
open PySem.AutoSeq1 (wpAny_loadPart')
open PySem.MeetsSeq PySem.MeetsSeq2 PySem.MeetsSeq3
end
section
variable {prog : Program} {w : World} {A : Around} {E : Value → Shared → Prop} {s : Shared}
theorem cat_tup {t b : Addr} {vs ws : List Value} {Q : Value → Shared → Prop} (ht : IsTup s.heap t vs.toArray) (hb : IsTup s.heap b ws.toArray) (hv : vs ≠ [])
    (h1 : ws = [] → Q (.ref t) s) (h2 : ws ≠ [] → Q (.ref s.heap.objs.size) { s with heap := s.heap.push { cls := .type "tuple", data := .seq (vs ++ ws).toArray } })
    (hsz : vs.length + ws.length ≤ sizeLine) : wpAny (model prog w) A (binaryOp .Add (.ref t) (.ref b)) Q E s := by
  obtain ⟨⟨cls, dd, data, sl⟩, ho, hc, n, hd⟩ := id ht
  obtain ⟨⟨cls2, dd2, data2, sl2⟩, ho2, hc2, n2, hd2⟩ := id hb
  simp only at hc hd hc2 hd2
  subst hc hd hc2 hd2
  have e : vs.toArray ++ ws.toArray = (vs ++ ws).toArray := by simp
  by_cases hw : ws = []
  · exact concat_meets ⟨_, ho, rfl⟩ ⟨_, ho2, rfl⟩ noFill_tuple_add seq_tuple_add PySem.F.slot_tuple_add PySem.F.entry_tuple_add (PySem.F.args_tuple_add_2 _ _)
      (tuple_addW1 t b vs.toArray ws.toArray n n2 dd dd2 sl sl2 (by simpa using hv) (by simp [hw])) ⟨ho, ho2, h1 hw⟩
  · refine concat_meets ⟨_, ho, rfl⟩ ⟨_, ho2, rfl⟩ noFill_tuple_add seq_tuple_add PySem.F.slot_tuple_add PySem.F.entry_tuple_add (PySem.F.args_tuple_add_2 _ _)
      (tuple_addW2 t b vs.toArray ws.toArray n n2 dd dd2 sl sl2 (by simpa using hv) (by simpa using hw) (by rw [List.size_toArray, List.size_toArray]; exact hsz)) ⟨ho, ho2, ?_⟩
    rw [e]
    exact h2 hw
noncomputable def sIx (n d : Nat) : Option Int → Nat
  | none => d
  | some v => if v < 0 then (v + (n : Int)).toNat else min v.toNat n
theorem sIx_le (n d : Nat) (hd : d ≤ n) (o : Option Int) : sIx n d o ≤ n := by
  cases o with
  | none => exact hd
  | some v =>
    show (if v < 0 then (v + (n : Int)).toNat else min v.toNat n) ≤ n
    by_cases hv : v < 0
    · rw [if_pos hv]; omega
    · rw [if_neg hv]; exact Nat.min_le_right _ _
theorem clip_eq (v : Int) (n d : Nat) : (if v < 0 then max (v + (n : Int)) 0 else min v (n : Int)) = ((sIx n d (some v) : Nat) : Int) := by
  show (if v < 0 then max (v + (n : Int)) 0 else min v (n : Int)) = (((if v < 0 then (v + (n : Int)).toNat else min v.toNat n) : Nat) : Int)
  by_cases hv : v < 0
  · simp only [if_pos hv]; omega
  · simp only [if_neg hv]; omega
theorem adjust_gen (lo hi : Option Int) (n : Nat) : Builtin.Slice.sliceAdjust lo hi 1 (n : Int) = (((sIx n 0 lo : Nat) : Int), ((sIx n n hi : Nat) : Int)) := by
  have h1 : ¬ ((1 : Int) < 0) := by omega
  unfold Builtin.Slice.sliceAdjust
  simp only [h1, if_false]
  refine Prod.ext ?_ ?_
  · cases lo with
    | none => rfl
    | some v => exact clip_eq v n 0
  · cases hi with
    | none => rfl
    | some v => exact clip_eq v n n
theorem places_gen (i j : Nat) : Builtin.Slice.slicePlaces (i : Int) (j : Int) 1 = j - i := by
  unfold Builtin.Slice.slicePlaces
  have h1 : (1 : Int) > 0 := by omega
  simp only [h1, if_true, Int.ediv_one]
  split <;> omega
theorem slicePart_ {v : Value} {o : Option Int} {Q : Option Int → Shared → Prop} (p : IsPart v o) (h : Q o s) : wpAny (model prog w) A (Builtin.Slice.slicePartIndex v) Q E s := by
  cases p with
  | none => exact slicePart_none h
  | int i t => exact slicePart_int h
theorem sliceApplied_gen {sl : Addr} {vl vu : Value} {lo hi : Option Int} {n : Nat} {Q : Int × Int × Nat → Shared → Prop} (hs : s.heap.IsSliceOf sl vl vu .none) (pl : IsPart vl lo) (pu : IsPart vu hi)
    (h : Q (((sIx n 0 lo : Nat) : Int), 1, sIx n n hi - sIx n 0 lo) s) : wpAny (model prog w) A (Builtin.Slice.sliceApplied (.ref sl) (pure (n : Int))) Q E s := by
  obtain ⟨os, hos, hcs, hds⟩ := id hs
  unfold Builtin.Slice.sliceApplied Builtin.Slice.sliceFields
  refine wpAny_bind (wpAny_bind (wpAny_field hos hds (x := vl) rfl (wpAny_bind (wpAny_field hos hds (x := vu) rfl (wpAny_bind (wpAny_field hos hds (x := .none) rfl (wpAny_pure ?_)))))))
  refine wpAny_bind (slicePart_none ?_)
  show wpAny _ _ (if ((1 : Int) == 0) = true then _ else _) _ _ s
  rw [if_neg (by decide)]
  refine wpAny_bind (slicePart_ pl (wpAny_bind (slicePart_ pu (wpAny_bind (wpAny_pure ?_)))))
  show wpAny _ _ (match Builtin.Slice.sliceAdjust lo hi 1 (n : Int) with | (lo, hi) => pure (lo, (1 : Int), Builtin.Slice.slicePlaces lo hi 1)) _ _ s
  rw [adjust_gen lo hi n]
  show wpAny _ _ (pure (((sIx n 0 lo : Nat) : Int), (1 : Int), Builtin.Slice.slicePlaces ((sIx n 0 lo : Nat) : Int) ((sIx n n hi : Nat) : Int) 1)) _ _ s
  rw [places_gen]
  exact wpAny_pure h
theorem pick_gen (xs : Array Value) (i k : Nat) : ((List.range k).filterMap fun (m : Nat) => xs[((i : Int) + (m : Int) * 1).toNat]?).toArray = ((xs.toList.drop i).take k).toArray := by
  have e : (fun (m : Nat) => xs[((i : Int) + (m : Int) * 1).toNat]?) = fun m => xs[i + m]? := by
    funext m
    have : ((i : Int) + (m : Int) * 1).toNat = i + m := by omega
    rw [this]
  rw [e]
  have := pick_run xs i k
  rw [List.filterMap_map] at this
  have e2 : ((fun x => xs[x]?) ∘ fun x => i + x) = fun m => xs[i + m]? := rfl
  rw [e2] at this
  rw [this]
theorem getItem_tuple_cut {t sl : Addr} {items : Array Value} {vl vu : Value} {lo hi : Option Int} {Q : Value → Shared → Prop} (ht : IsTup s.heap t items) (hs : s.heap.IsSliceOf sl vl vu .none) (pl : IsPart vl lo) (pu : IsPart vu hi)
    (hw : ¬ (sIx items.size 0 lo = 0 ∧ sIx items.size items.size hi = items.size))
    (h : Q (.ref s.heap.objs.size) { s with heap := s.heap.push { cls := .type "tuple", data := .seq ((items.toList.drop (sIx items.size 0 lo)).take (sIx items.size items.size hi - sIx items.size 0 lo)).toArray } })
    (hsz : items.size ≤ sizeLine) : wpAny (model prog w) A (getItem (.ref t) (.ref sl)) Q E s := by
  have htake : sizeOk (.seq ((items.toList.drop (sIx items.size 0 lo)).take (sIx items.size items.size hi - sIx items.size 0 lo)).toArray) := by
    show ((items.toList.drop (sIx items.size 0 lo)).take (sIx items.size items.size hi - sIx items.size 0 lo)).toArray.size ≤ sizeLine
    rw [List.size_toArray, List.length_take, List.length_drop, Array.length_toList]
    omega
  have hj : sIx items.size items.size hi ≤ items.size := sIx_le _ _ (Nat.le_refl _) hi
  obtain ⟨os, hos, hcs, hds⟩ := id hs
  have hTs : s.TypeIs (.ref sl) "slice" := ⟨os, hos, hcs⟩
  unfold getItem
  try with_reducible refine wpAny_holding ?_
  first | refine wpAny_bind (wpAny_pure ?_) | skip
  refine wpAny_bind (wpAny_sequenceKey ht.typeIs (by decide) ?_)
  refine wpAny_bind (wpAny_callSpecial?_slot (name := Str.ofString "__getitem__") ht.typeIs PyProof.Rows.slot_tuple_getitem
    (wpAny_call_entry PyProof.Rows.slot_tuple_getitem ht.typeIs entry_tuple_getitem ?_ (args_tuple_getitem _ _)))
  show wpAny _ _ (Builtin.Tuple.tupleItemsOf (.ref t) >>= _) _ _ s
  refine wpAny_bind (tupleItemsOf_ ht ?_)
  refine wpAny_bind (wpAny_typeOf hTs ?_)
  rw [if_pos (by decide)]
  refine wpAny_bind (sliceApplied_gen hs pl pu ?_)
  have hno : ¬ ((((sIx items.size 0 lo : Nat) : Int) == 0 && (1 : Int) == 1 && (sIx items.size items.size hi - sIx items.size 0 lo) == items.size) = true) := by
    intro q
    rw [Bool.and_eq_true, Bool.and_eq_true] at q
    have q1 : ((sIx items.size 0 lo : Nat) : Int) = 0 := eq_of_beq q.1.1
    have q2 : sIx items.size items.size hi - sIx items.size 0 lo = items.size := eq_of_beq q.2
    exact hw ⟨by omega, by omega⟩
  show wpAny _ _ (if (((sIx items.size 0 lo : Nat) : Int) == 0 && (1 : Int) == 1 && (sIx items.size items.size hi - sIx items.size 0 lo) == items.size) = true then _ else _) _ _ s
  rw [if_neg hno, pick_gen]
  first
    | exact wpAny_bind (m := Builtin.Tuple.tupleExact _) (wpAny_newObj_type (wpAny_pure ⟨_, rfl, wpAny_pure h⟩) htake)
    | exact wpAny_bind (m := Builtin.Tuple.tupleExact _) (wpAny_newObj_type (wpAny_bind (wpAny_pure (wpAny_pure ⟨_, rfl, wpAny_pure h⟩))) htake)
    | exact wpAny_bind (wpAny_bind (m := Builtin.Tuple.tupleExact _) (wpAny_newObj_type (wpAny_pure (wpAny_pure ⟨_, rfl, wpAny_pure h⟩)) htake))
    | exact wpAny_bind (wpAny_bind (m := Builtin.Tuple.tupleExact _) (wpAny_newObj_type (wpAny_pure ⟨_, rfl, wpAny_pure h⟩) htake))
end
end HT
namespace L2
open PySem PySem.Spec PyProof.Rows
noncomputable abbrev TO := St → Hp → (Option Int → Hp → Prop) → Prop
noncomputable def PO (X : Cx) (e : Option Expr) (t : TO) : Prop :=
  ∀ (pins : List (Addr × Obj)) (s : Shared) (σ : St) (H : Hp) (Q : Option Int → Hp → Prop), Inv X pins σ H s → t σ H Q →
    wpAny (model X.prog X.w) X.A (evalPart e X.env) (fun u s' => ∃ o H', Inv X pins σ H' s' ∧ IsPart u o ∧ Q o H') X.xe s
noncomputable def tNoPart : TO := fun _ H Q => Q none H
noncomputable def tPart (t : TE) : TO := fun σ H Q => t σ H fun x H1 => ∃ i, x = .int i ∧ Q (some i) H1
theorem intsAre_of {ns : List Int} : ∀ {us : List Value}, Vals (ns.map V.int) us → IntsAre us ns := by
  induction ns with
  | nil => intro us r; rw [List.map_nil] at r; cases r; exact .nil
  | cons n ns ih =>
    intro us r
    rw [List.map_cons] at r
    cases r with
    | cons r1 r2 =>
      obtain ⟨t, e⟩ := r1
      subst e
      exact .cons n t (ih r2)
section
variable {X : Cx} {e : Expr} {te : TE} {lo hi : Option Expr} {tl th : TO} {pos p2 : Pos}
theorem po_none : PO X none tNoPart := by
  intro pins s σ H Q I h
  rw [evalPart_none]
  exact wpAny_pure ⟨none, H, I, .none, h⟩
theorem po_some (h : PE X e te) : PO X (some e) (tPart te) := by
  intro pins s σ H Q I hw
  rw [evalPart_some]
  refine thn (h pins s σ H _ I hw) fun u s1 ⟨x, H1, I1, r1, q1⟩ => ?_
  obtain ⟨i, rfl, q⟩ := q1
  obtain ⟨t, rfl⟩ := r1
  exact ⟨some i, H1, I1, .int i t, q⟩
noncomputable def SlR (X : Cx) (r : V → Option Int → Option Int → Hp → VK → Prop) : Prop :=
  ∀ (pins : List (Addr × Obj)) (s : Shared) (σ : St) (H : Hp) (x : V) (v vl vu : Value) (lo hi : Option Int) (sl : Addr) (Q : VK), Inv X pins σ H s → RelV x v → s.heap.IsSliceOf sl vl vu .none → IsPart vl lo → IsPart vu hi → r x lo hi H Q →
    ∃ T id, typeLookup (.type T) "__getitem__" = pure (some (.builtin id)) ∧ s.TypeIs v T ∧ wpAny (model X.prog X.w) X.A (getItem v (.ref sl)) (EP X pins σ Q) X.xe s
theorem SlR.or {r r' : V → Option Int → Option Int → Hp → VK → Prop} (h : SlR X r) (h' : SlR X r') : SlR X (fun x lo hi H Q => r x lo hi H Q ∨ r' x lo hi H Q) := by
  intro pins s σ H x v vl vu lo hi sl Q I rx hs pl pu q
  rcases q with q | q
  · exact h pins s σ H x v vl vu lo hi sl Q I rx hs pl pu q
  · exact h' pins s σ H x v vl vu lo hi sl Q I rx hs pl pu q
noncomputable def tSl (r : V → Option Int → Option Int → Hp → VK → Prop) (te : TE) (tl th : TO) : TE := fun σ H Q => te σ H fun x H1 => tl σ H1 fun l H2 => th σ H2 fun u H3 => r x l u H3 Q
theorem pe_slice {r : V → Option Int → Option Int → Hp → VK → Prop} (hr : SlR X r) (he : PE X e te) (hl : PO X lo tl) (hu : PO X hi th) : PE X (.Subscript e (.Slice lo hi none p2) pos) (tSl r te tl th) := by
  intro pins s σ H Q I h
  refine Subscript_ (thn (he pins s σ H _ I h) fun v s1 ⟨x, H1, I1, r1, q1⟩ => ?_)
  refine wpAny_Slice (thn (hl pins s1 σ H1 _ I1 q1) fun vl s2 ⟨l, H2, I2, pl, q2⟩ => thn (hu pins s2 σ H2 _ I2 q2) fun vu s3 ⟨u, H3, I3, pu, q3⟩ => ?_)
  rw [evalPart_none]
  refine wpAny_pure ?_
  have I4 : Inv X pins σ H3 { s3 with heap := s3.heap.push { cls := .type "slice", data := .fields #[vl, vu, .none] } } := I3.kept (t' := s3.toks) fun b ob q => Heap.get?_push_of_some _ q
  obtain ⟨T, id, hT, ht, hg⟩ := hr pins { s3 with heap := s3.heap.push { cls := .type "slice", data := .fields #[vl, vu, .none] } } σ H3 x v vl vu l u s3.heap.objs.size Q I4 r1 (Heap.IsSliceOf.new ..) pl pu q3
  show wpAny (model X.prog X.w) X.A (subscriptTail e (.Slice lo hi none p2) v (.ref s3.heap.objs.size)) (EP X pins σ Q) X.xe { s3 with heap := s3.heap.push { cls := .type "slice", data := .fields #[vl, vu, .none] } }
  exact tail_any (ops := [.ref s3.heap.objs.size, v]) ht hT hg (by with_unfolding_all rfl)
noncomputable def cutV (xs : List V) (lo hi : Option Int) : List V := (xs.drop (HT.sIx xs.length 0 lo)).take (HT.sIx xs.length xs.length hi - HT.sIx xs.length 0 lo)
theorem cutV_length (xs : List V) (lo hi : Option Int) : (cutV xs lo hi).length ≤ xs.length := by
  unfold cutV
  rw [List.length_take, List.length_drop]
  omega
noncomputable def rSlT (K : PySem.W.Frag) : V → Option Int → Option Int → Hp → VK → Prop := fun x lo hi H Q => ∃ a xs, x = .ref a ∧ SqT K H a xs ∧
  ¬ (HT.sIx xs.length 0 lo = 0 ∧ HT.sIx xs.length xs.length hi = xs.length) ∧ ∀ p, H p = none → Q (.ref p) (upd H p (.tup (cutV xs lo hi)))
theorem sl_tup : SlR X (rSlT X.K) := by
  intro pins s σ H x v vl vu lo hi sl Q I rx hs pl pu h
  obtain ⟨a, xs, rfl, hx, hw, q⟩ := h
  cases rx
  obtain ⟨its, r, ht, hz⟩ := I.tuple hx
  have hlen : its.toArray.size = xs.length := by rw [List.size_toArray]; exact r.length.symm
  refine ⟨"tuple", _, PyProof.Rows.slot_tuple_getitem.lookup, ht.typeIs, ?_⟩
  refine HT.getItem_tuple_cut ht hs pl pu (by rw [hlen]; exact hw) ?_ (by rw [hlen]; exact hz)
  rw [hlen]
  refine ⟨.ref s.heap.objs.size, _, I.laid (t' := s.toks) (o := .tup (cutV xs lo hi)) (fun b ob q => Heap.get?_push_of_some _ q) (Nat.le_refl _) ?_, rfl, q _ (I.hok.fresh (Nat.le_refl _))⟩
  exact ⟨Nat.le_trans (cutV_length xs lo hi) hz, _, (r.drop (HT.sIx xs.length 0 lo)).take (HT.sIx xs.length xs.length hi - HT.sIx xs.length 0 lo), IsTup.new _ _⟩
noncomputable def rCatT (K : PySem.W.Frag) : R2 := fun x y H Q => ∃ a b xs ys, x = .ref a ∧ y = .ref b ∧ SqT K H a xs ∧ SqT K H b ys ∧ xs ≠ [] ∧ xs.length + ys.length ≤ sizeLine ∧
  (ys = [] → Q (.ref a) H) ∧ (ys ≠ [] → ∀ p, H p = none → Q (.ref p) (upd H p (.tup (xs ++ ys))))
theorem Vals.nil_iff {xs : List V} {us : List Value} (r : Vals xs us) : us = [] ↔ xs = [] := by
  cases r with
  | nil => simp
  | cons _ _ => simp
theorem op_catT : OpR X (binaryOp .Add) (rCatT X.K) := by
  intro pins s σ H x y v u Q I rx ry h
  obtain ⟨a, b, xs, ys, rfl, rfl, ha, hb, hx, hz, q1, q2⟩ := h
  cases rx
  cases ry
  obtain ⟨its, r1, p1, _⟩ := I.tuple ha
  obtain ⟨its2, r2, p2, _⟩ := I.tuple hb
  refine HT.cat_tup p1 p2 (fun z => hx (r1.nil_iff.mp z)) (fun z => ⟨.ref a, H, I, rfl, q1 (r2.nil_iff.mp z)⟩) (fun z => ?_) (by rw [← r1.length, ← r2.length]; exact hz)
  refine ⟨.ref s.heap.objs.size, _, I.laid (t' := s.toks) (o := .tup (xs ++ ys)) (fun b ob q => Heap.get?_push_of_some _ q) (Nat.le_refl _) ?_, rfl, q2 (fun w => z (r2.nil_iff.mpr w)) _ (I.hok.fresh (Nat.le_refl _))⟩
  exact ⟨by rw [List.length_append]; exact hz, _, r1.append r2, IsTup.new _ _⟩
end
end L2
namespace L2
open PySem PySem.Spec PyProof.Rows
noncomputable def ixN (n : Nat) (i : Int) : Option Nat := if 0 ≤ i then (if i < n then some i.toNat else none) else if -(n : Int) ≤ i then some (i + n).toNat else none
noncomputable def atI {α : Type} (xs : List α) (i : Int) : Option α := (ixN xs.length i).bind fun j => xs[j]?
theorem ixN_seq {n : Nat} {i : Int} {j : Nat} (h : ixN n i = some j) : seqIndex? i n = some j ∧ j < n ∧ -(n : Int) ≤ i ∧ i < n := by
  unfold ixN at h
  by_cases h0 : 0 ≤ i
  · rw [if_pos h0] at h
    by_cases h1 : i < n
    · rw [if_pos h1] at h
      have e : i.toNat = j := Option.some.inj h
      exact ⟨by rw [seqIndex_of h0 h1, e], by omega, by omega, h1⟩
    · rw [if_neg h1] at h; cases h
  · rw [if_neg h0] at h
    by_cases h1 : -(n : Int) ≤ i
    · rw [if_pos h1] at h
      have e : (i + n).toNat = j := Option.some.inj h
      exact ⟨by rw [seqIndex_neg (by omega) h1, e], by omega, h1, by omega⟩
    · rw [if_neg h1] at h; cases h
theorem atI_get {α : Type} {xs : List α} {i : Int} {v : α} (h : atI xs i = some v) : ∃ j, seqIndex? i xs.length = some j ∧ xs[j]? = some v ∧ j < xs.length ∧ -(xs.length : Int) ≤ i ∧ i < xs.length := by
  unfold atI at h
  cases e : ixN xs.length i with
  | none => rw [e] at h; cases h
  | some j =>
    rw [e] at h
    obtain ⟨h1, h2, h3, h4⟩ := ixN_seq e
    exact ⟨j, h1, h, h2, h3, h4⟩
noncomputable def PlainIx (b : Expr) : Prop := ∀ o i, subscripted b false o i = operate [o, i] (getItem o i)
noncomputable def IxR (X : Cx) (r : R2) : Prop :=
  ∀ (value slice : Expr) (pins : List (Addr × Obj)) (s : Shared) (σ : St) (H : Hp) (x y : V) (v u : Value) (Q : VK), Inv X pins σ H s → RelV x v → RelV y u → r x y H Q →
    subscripted slice false v u = operate [v, u] (getItem v u) → wpAny (model X.prog X.w) X.A (subscriptTail value slice v u) (EP X pins σ Q) X.xe s
noncomputable def MtR (X : Cx) (id : String) (r : V → List V → Hp → VK → Prop) : Prop :=
  ∀ (pins : List (Addr × Obj)) (s : Shared) (σ : St) (H : Hp) (x : V) (xs : List V) (v : Value) (us : List Value) (Q : VK), Inv X pins σ H s → RelV x v → Vals xs us → r x xs H Q →
    wpAny (model X.prog X.w) X.A (call (.builtin id) (v :: us)) (EP X pins σ Q) X.xe s
section
variable {X : Cx} {a b : Expr} {ta tb : TE} {pos : Pos}
theorem IxR.or {r r' : R2} (h : IxR X r) (h' : IxR X r') : IxR X (fun x y H Q => r x y H Q ∨ r' x y H Q) := by
  intro value slice pins s σ H x y v u Q I rx ry q hs
  rcases q with q | q
  · exact h value slice pins s σ H x y v u Q I rx ry q hs
  · exact h' value slice pins s σ H x y v u Q I rx ry q hs
theorem MtR.or {id : String} {r r' : V → List V → Hp → VK → Prop} (h : MtR X id r) (h' : MtR X id r') : MtR X id (fun x xs H Q => r x xs H Q ∨ r' x xs H Q) := by
  intro pins s σ H x xs v us Q I rx rs q
  rcases q with q | q
  · exact h pins s σ H x xs v us Q I rx rs q
  · exact h' pins s σ H x xs v us Q I rx rs q
theorem pe_ix {r : R2} (hr : IxR X r) (ha : PE X a ta) (hb : PE X b tb) (hs : PlainIx b) : PE X (.Subscript a b pos) (tOp r ta tb) := by
  intro pins s σ H Q I h
  exact Subscript_ (binT ha hb I h fun v u s2 x y H2 I2 rx ry q => hr a b pins s2 σ H2 x y v u Q I2 rx ry q (hs _ _))
noncomputable def rIxL (K : PySem.W.Frag) : R2 := fun x y H Q => ∃ p xs i v, x = .ref p ∧ y = .int i ∧ SqL K H p xs ∧ atI xs i = some v ∧ Q v H
noncomputable def rIxT (K : PySem.W.Frag) : R2 := fun x y H Q => ∃ p xs i v, x = .ref p ∧ y = .int i ∧ SqT K H p xs ∧ atI xs i = some v ∧ Q v H
theorem ix_list : IxR X (rIxL X.K) := by
  intro value slice pins s σ H x y v u Q I rx ry h hs
  obtain ⟨p, xs, i, z, rfl, rfl, hq, he, q⟩ := h
  cases rx
  obtain ⟨t, rfl⟩ := ry
  obtain ⟨its, r, pl, hz⟩ := I.list hq
  obtain ⟨j, h1, h2, h3, h4, h5⟩ := atI_get he
  obtain ⟨w, ew, rw'⟩ := r.get h2
  have hl := r.length
  have hn := line63
  have fin : EP X pins σ Q w s := ⟨z, H, I, rw', q⟩
  by_cases h0 : 0 ≤ i
  · have hj : i.toNat = j := by
      rw [seqIndex_of h0 h5] at h1
      exact Option.some.inj h1
    exact item_listR pl.isList h0 (by omega) (by rw [hj]; simpa using ew) fin hs
  · have hj : (i + (its.toArray.size : Int)).toNat = j := by
      rw [seqIndex_neg (by omega) h4] at h1
      rw [List.size_toArray, ← hl]
      exact Option.some.inj h1
    exact subscriptTail_builtinR (x := w) pl.isList.typeIs slot_list_getitem.lookup
      (wpAny_getItem_list_neg (Q := fun r s' => r = w ∧ EP X pins σ Q r s') pl.isList (by omega) (by rw [List.size_toArray] <;> omega) (by omega) (by rw [hj]; simpa using ew) ⟨rfl, fin⟩) hs
theorem ix_tup : IxR X (rIxT X.K) := by
  intro value slice pins s σ H x y v u Q I rx ry h hs
  obtain ⟨p, xs, i, z, rfl, rfl, hq, he, q⟩ := h
  cases rx
  obtain ⟨t, rfl⟩ := ry
  obtain ⟨its, r, pl, hz⟩ := I.tuple hq
  obtain ⟨j, h1, h2, h3, h4, h5⟩ := atI_get he
  obtain ⟨w, ew, rw'⟩ := r.get h2
  have hl := r.length
  have hn := line63
  have fin : EP X pins σ Q w s := ⟨z, H, I, rw', q⟩
  exact subscriptTail_builtinR (x := w) pl.typeIs slot_tuple_getitem.lookup
    (getItem_tuple (j := j) (Q := fun r s' => r = w ∧ EP X pins σ Q r s') pl (by omega) (by omega) (by rw [List.size_toArray, ← hl]; exact h1) (by simpa using ew) ⟨rfl, fin⟩) hs
theorem Inv.lst {pins : List (Addr × Obj)} {σ : St} {H : Hp} {s : Shared} {p : Addr} {xs : List V} (I : Inv X pins σ H s) (h : H p = some (.lst xs)) :
    ∃ (its : List Value) (n : Nat), Vals xs its ∧ s.heap.get? p = some { cls := .type "list", data := .seq its.toArray n } ∧ xs.length ≤ sizeLine := by
  obtain ⟨z, its, n, r, e⟩ := I.hok p _ h
  exact ⟨its, n, r, e, z⟩
theorem slice_bounds (lo hi : Option Int) (n : Nat) : (sliceBounds lo hi none n).1 = ((HT.sIx n 0 lo : Nat) : Int) ∧ (sliceBounds lo hi none n).2.1 = ((HT.sIx n n hi : Nat) : Int) ∧ (sliceBounds lo hi none n).2.2 = 1 := by
  refine ⟨?_, ?_, rfl⟩
  · cases lo with
    | none => simp [sliceBounds, HT.sIx]
    | some i =>
      simp only [sliceBounds, HT.sIx, Option.getD_none, show (1 : Int) > 0 by decide, if_true]
      by_cases h : i < 0
      · simp only [h, if_true] <;> omega
      · simp only [h, if_false] <;> omega
  · cases hi with
    | none => simp [sliceBounds, HT.sIx]
    | some i =>
      simp only [sliceBounds, HT.sIx, Option.getD_none, show (1 : Int) > 0 by decide, if_true]
      by_cases h : i < 0
      · simp only [h, if_true] <;> omega
      · simp only [h, if_false] <;> omega
theorem slicePick_cut (its : List Value) (lo hi : Option Int) : slicePick its.toArray lo hi none = ((its.drop (HT.sIx its.length 0 lo)).take (HT.sIx its.length its.length hi - HT.sIx its.length 0 lo)).toArray := by
  obtain ⟨h1, h2, h3⟩ := slice_bounds lo hi its.toArray.size
  unfold slicePick
  rw [h1, h2, h3]
  simp only [sliceRange_one, pick_run, List.size_toArray] <;> rfl
noncomputable def rSlL (K : PySem.W.Frag) : V → Option Int → Option Int → Hp → VK → Prop := fun x lo hi H Q => ∃ a xs, x = .ref a ∧ SqL K H a xs ∧ ∀ p, H p = none → Q (.ref p) (upd H p (.lst (cutV xs lo hi)))
theorem sl_list : SlR X (rSlL X.K) := by
  intro pins s σ H x v vl vu lo hi sl Q I rx hs pl pu h
  obtain ⟨a, xs, rfl, hx, q⟩ := h
  cases rx
  obtain ⟨its, r, ht, hz⟩ := I.list hx
  have hlen := r.length
  refine ⟨"list", _, slot_list_getitem.lookup, ht.isList.typeIs, ?_⟩
  refine wpAny_getItem_list_slice ht.isList hs pl pu .none (by simp) ?_ (by rw [List.size_toArray] <;> omega)
  rw [slicePick_cut, ← hlen]
  refine ⟨.ref s.heap.objs.size, _, I.laid (t' := s.toks) (o := .lst (cutV xs lo hi)) (fun b ob q => Heap.get?_push_of_some _ q) (Nat.le_refl _) ?_, rfl, q _ (I.hok.fresh (Nat.le_refl _))⟩
  exact ⟨Nat.le_trans (cutV_length xs lo hi) hz, _, 0, (r.drop (HT.sIx xs.length 0 lo)).take (HT.sIx xs.length xs.length hi - HT.sIx xs.length 0 lo), Heap.get?_push_size _ rfl⟩
noncomputable def flatV : V → Bool
  | .non => true
  | .bl _ => true
  | .int _ => true
  | .str _ => true
  | _ => false
noncomputable def eqV : V → V → Bool
  | .non, .non => true
  | .bl a, .bl b => a == b
  | .bl a, .int b => (if a then 1 else 0) == b
  | .int a, .bl b => a == (if b then 1 else 0)
  | .int a, .int b => a == b
  | .str a, .str b => a == b
  | _, _ => false
theorem eqAt_V {A : Around} {s : Shared} {y x : V} {u v : Value} (ry : RelV y u) (rx : RelV x v) (fy : flatV y = true) (fx : flatV x = true) : SeqAt.EqAt A s u v (eqV y x) := by
  cases y with
  | non =>
    cases ry
    cases x with
    | non => cases rx; exact SeqAt.EqAt.same _
    | bl b => cases rx; exact SeqAt.EqAt.none_bool b
    | int b => obtain ⟨t, rfl⟩ := rx; exact SeqAt.EqAt.none_int b t
    | str b => obtain ⟨t, rfl⟩ := rx; exact SeqAt.EqAt.none_str b t
    | _ => exact absurd (show false = true from fx) Bool.false_ne_true
  | bl a =>
    cases ry
    cases x with
    | non => cases rx; exact SeqAt.EqAt.bool_none a
    | bl b => cases rx; exact SeqAt.EqAt.bool_bool a b
    | int b => obtain ⟨t, rfl⟩ := rx; exact SeqAt.EqAt.bool_int a b t
    | str b => obtain ⟨t, rfl⟩ := rx; exact SeqAt.EqAt.bool_str a b t
    | _ => exact absurd (show false = true from fx) Bool.false_ne_true
  | int a =>
    obtain ⟨t', rfl⟩ := ry
    cases x with
    | non => cases rx; exact SeqAt.EqAt.int_none a t'
    | bl b => cases rx; exact SeqAt.EqAt.int_bool a t' b
    | int b => obtain ⟨t, rfl⟩ := rx; exact SeqAt.EqAt.int_int a t' b t
    | str b => obtain ⟨t, rfl⟩ := rx; exact SeqAt.EqAt.int_str a t' b t
    | _ => exact absurd (show false = true from fx) Bool.false_ne_true
  | str a =>
    obtain ⟨t', rfl⟩ := ry
    cases x with
    | non => cases rx; exact SeqAt.EqAt.str_none a t'
    | bl b => cases rx; exact SeqAt.EqAt.str_bool a t' b
    | int b => obtain ⟨t, rfl⟩ := rx; exact SeqAt.EqAt.str_int a t' b t
    | str b => obtain ⟨t, rfl⟩ := rx; exact SeqAt.EqAt.str_str a t' b t
    | _ => exact absurd (show false = true from fx) Bool.false_ne_true
  | _ => exact absurd (show false = true from fy) Bool.false_ne_true
theorem call_len_seq : CallR X (.builtin "len") (fun xs H Q => ∃ p ys, xs = [.ref p] ∧ (SqL X.K H p ys ∨ SqT X.K H p ys) ∧ Q (.int ys.length) H) := by
  intro pins s σ H xs us Q I r h
  obtain ⟨p, ys, rfl, hq, q⟩ := h
  obtain ⟨u, rfl, rx⟩ := vals1 r
  cases rx
  have hn := line63
  rcases hq with hq | hq
  · obtain ⟨its, r', pl, hz⟩ := I.list hq
    have hlen := r'.length
    exact Calls.call_len_list pl.isList (by simp only [List.size_toArray] <;> omega) ⟨.int ys.length, H, I.tok _, ⟨s.toks + 1, by rw [List.size_toArray, hlen]⟩, q⟩
  · obtain ⟨its, r', pl, hz⟩ := I.tuple hq
    have hlen := r'.length
    exact len_tuple pl (by simp only [List.size_toArray] <;> omega) ⟨.int ys.length, H, I.tok _, ⟨s.toks + 1, by rw [List.size_toArray, hlen]⟩, q⟩
theorem CallR.or {f : Value} {r r' : List V → Hp → VK → Prop} (h : CallR X f r) (h' : CallR X f r') : CallR X f (fun xs H Q => r xs H Q ∨ r' xs H Q) := by
  intro pins s σ H xs us Q I rs q
  rcases q with q | q
  · exact h pins s σ H xs us Q I rs q
  · exact h' pins s σ H xs us Q I rs q
theorem call_list_of : CallR X (.type "list") (fun xs H Q => ∃ p ys, xs = [.ref p] ∧ (SqL X.K H p ys ∨ SqT X.K H p ys) ∧ ∀ l, H l = none → Q (.ref l) (upd H l (.lst ys))) := by
  intro pins s σ H xs us Q I r h
  obtain ⟨p, ys, rfl, hq, q⟩ := h
  obtain ⟨u, rfl, rx⟩ := vals1 r
  cases rx
  have fin : ∀ (its : List Value), Vals ys its → ys.length ≤ sizeLine → ∀ (h' : Heap) (c' : Nat), (∀ b o', s.heap.get? b = some o' → h'.get? b = some o') →
      h'.get? s.heap.objs.size = some { cls := .type "list", dict := none, data := .seq its.toArray c', slots := #[] } → EP X pins σ Q (.ref s.heap.objs.size) { s with heap := h' } := fun its r' hz h' c' kp e =>
    ⟨.ref s.heap.objs.size, _, I.laid (t' := s.toks) kp (Nat.le_refl _) (show ObjOk X.prog X.w _ h' _ (.lst ys) from ⟨hz, its, c', r', e⟩), rfl, q _ (I.hok.fresh (Nat.le_refl _))⟩
  rcases hq with hq | hq
  · obtain ⟨its, r', pl, hz⟩ := I.list hq
    have hlen := r'.length
    obtain ⟨o, ho, hc, n, hd⟩ := pl.isList
    exact call_list_seq p (.inl rfl) ho hc hd (fun h' c' kp e => fin its r' hz h' c' kp e) (by simp only [List.size_toArray] <;> omega)
  · obtain ⟨its, r', pl, hz⟩ := I.tuple hq
    have hlen := r'.length
    obtain ⟨o, ho, hc, n, hd⟩ := pl
    exact call_list_seq p (.inr rfl) ho hc hd (fun h' c' kp e => fin its r' hz h' c' kp e) (by simp only [List.size_toArray] <;> omega)
noncomputable def tyV (K : PySem.W.Frag) (T : String) (x : V) (H : Hp) : Prop := match x with
  | .str _ => T = "str"
  | .int _ => T = "int"
  | .ref p => (T = "list" ∧ ∃ xs, SqL K H p xs) ∨ (T = "tuple" ∧ ∃ o, K.lookup p = some o ∧ o.cls = .type "tuple" ∧ o.dict = none) ∨
      (T = "dict" ∧ ((∃ kvs, H p = some (.dK kvs)) ∨ ∃ kvs, H p = some (.dT kvs))) ∨ (T = "set" ∧ ∃ S n, H p = some (.set S n))
  | _ => False
theorem tyV_is {pins : List (Addr × Obj)} {σ : St} {H : Hp} {s : Shared} {T : String} {x : V} {v : Value} (I : Inv X pins σ H s) (r : RelV x v) (ty : tyV X.K T x H) :
    s.TypeIs v T ∧ ∀ a, v = .ref a → ∃ ob, s.heap.get? a = some ob ∧ ob.dict = none := by
  cases x with
  | str z =>
    obtain ⟨t, rfl⟩ := r
    cases (show T = "str" from ty)
    exact ⟨typeIs_str s z t, fun _ e => nomatch e⟩
  | int i =>
    obtain ⟨t, rfl⟩ := r
    cases (show T = "int" from ty)
    exact ⟨typeIs_int s i t, fun _ e => nomatch e⟩
  | ref p =>
    cases r
    rcases ty with ⟨rfl, xs, hq⟩ | ⟨rfl, o, hk, hc, hd⟩ | ⟨rfl, hk⟩ | ⟨rfl, S, n, hk⟩
    · obtain ⟨its, _, pl, _⟩ := I.list hq
      refine ⟨pl.isList.typeIs, fun a e => ?_⟩
      cases e
      obtain ⟨o, n, e, c, hd, _⟩ := pl
      exact ⟨o, e, hd⟩
    · refine ⟨⟨o, I.kIn p o hk, hc⟩, fun a e => ?_⟩
      cases e
      exact ⟨o, I.kIn _ o hk, hd⟩
    · have z : ∃ o, s.heap.get? p = some o ∧ o.ExactDict := by
        rcases hk with ⟨kvs, hk⟩ | ⟨kvs, hk⟩
        · obtain ⟨_, _, _, _, o, _, _, e, ex, _⟩ := I.hok p _ hk
          exact ⟨o, e, ex⟩
        · obtain ⟨_, _, _, _, o, _, _, e, ex, _⟩ := I.hok p _ hk
          exact ⟨o, e, ex⟩
      obtain ⟨o, e, ex⟩ := z
      refine ⟨⟨o, e, ex.1⟩, fun a e2 => ?_⟩
      cases e2
      exact ⟨o, e, ex.2.1⟩
    · obtain ⟨o, _, _, _, e, ex, _⟩ := I.hok p _ hk
      refine ⟨⟨o, e, ex.1⟩, fun a e2 => ?_⟩
      cases e2
      exact ⟨o, e, ex.2.1⟩
  | _ => exact False.elim ty
noncomputable def tBM (K : PySem.W.Frag) (T : String) (r : V → List V → Hp → VK → Prop) (to : TE) (t : TA) : TE := fun σ H Q => to σ H fun x H1 => tyV K T x H1 ∧ t σ H1 fun xs H2 => r x xs H2 Q
variable {o e : Expr} {es : List Expr} {to : TE} {t : TA} {name : Str} {apos cpos : Pos} {T id : String} {r : V → List V → Hp → VK → Prop}
theorem pe_bm (pa : PlainAttrs T) (slot : Slot T name id) (hty : typeOf (.builtin id) = pure (.type "method_descriptor")) (hm : MtR X id r) (ho : PE X o to) (ha : PA X (e :: es) t)
    (hbase : attributeBase o name X.env (eval o X.env) = eval o X.env := by rfl)
    (hfew : ((backTo cpos (starEach (e :: es) X.env)).all (fun x => !x.1) && (backToKw cpos (keywordEach [] X.env)).all (fun x => x.1.isSome)
      && decide ((e :: es).length + ([] : List Keyword).length + (if ([] : List Keyword).isEmpty then 0 else 1) < 30)) = true := by rfl)
    (hline : (apos.endLine == cpos.line) = true := by rfl) (hs : starEach (e :: es) X.env = (false, eval e X.env) :: starEach es X.env := by rfl) (hplain : (backTo cpos (starEach es X.env)).any (·.1) = false := by rfl) :
    PE X (.Call (.Attribute o name apos) (e :: es) [] cpos) (tBM X.K T r to t) := by
  intro pins s σ H Q I h
  refine wpAny_Call_method_late hbase hfew hline rfl (thn (ho pins s σ H _ I h) fun v s1 ⟨x, H1, I1, r1, ty, q1⟩ => ?_)
  obtain ⟨h1, h2⟩ := tyV_is I1 r1 ty
  refine ⟨T, id, pa, slot, hty, h1, h2, ?_⟩
  have hA := ha cpos pins s1 σ H1 _ I1 q1
  rw [hs] at hA ⊢
  refine Calls.callWith_builtin (by show (false || (backTo cpos (starEach es X.env)).any (·.1)) = false; rw [hplain] <;> rfl) (Calls.evalArgs_plain ?_)
  exact thn hA fun us s2 ⟨vs, H2, I2, r2, q2⟩ => hm pins s2 σ H2 x vs v us Q I2 r1 r2 q2
/- xs.append(e), list.index on a module's tuple .. are MtR facts of 06m -/
end
end L2
namespace L2
open PySem PySem.Spec PyProof.Rows
noncomputable def MtM (X : Cx) (id : String) (r : V → List V → Hp → VK → Prop) : Prop :=
  ∀ (pins : List (Addr × Obj)) (s : Shared) (σ : St) (H : Hp) (x : V) (xs : List V) (v : Value) (us : List Value) (Q : VK), Inv X pins σ H s → RelV x v → Vals xs us → r x xs H Q →
    wpAny (model X.prog X.w) X.A (call (.builtin id) (v :: us)) (EP X pins σ Q) X.xe s
theorem Vals.one : ∀ {x : V} {us : List Value}, Vals [x] us → ∃ u, us = [u] ∧ RelV x u
  | _, _, .cons r .nil => ⟨_, rfl, r⟩
theorem Vals.zero : ∀ {us : List Value}, Vals [] us → us = []
  | _, .nil => rfl
theorem Vals.dropLast {xs : List V} {us : List Value} (h : Vals xs us) : Vals xs.dropLast us.dropLast := by
  induction h with
  | nil => exact .nil
  | cons r t ih =>
    cases t with
    | nil => exact .nil
    | cons q t' => exact .cons r ih
theorem Vals.eraseIdx : ∀ {xs : List V} {us : List Value} (i : Nat), Vals xs us → Vals (xs.eraseIdx i) (us.eraseIdx i)
  | _, _, _, .nil => .nil
  | _, _, 0, .cons _ t => t
  | _, _, i + 1, .cons r t => .cons r (Vals.eraseIdx i t)
theorem Vals.reverse {xs : List V} {us : List Value} (h : Vals xs us) : Vals xs.reverse us.reverse := by
  induction h with
  | nil => exact .nil
  | cons r t ih => rw [List.reverse_cons, List.reverse_cons]; exact Vals.append ih (.cons r .nil)
theorem len_erase {α : Type} : ∀ (l : List α) (i : Nat), (l.eraseIdx i).length ≤ l.length
  | [], _ => Nat.le_refl _
  | _ :: _, 0 => Nat.le_succ _
  | _ :: r, i + 1 => Nat.succ_le_succ (len_erase r i)
section
variable {X : Cx} {pins : List (Addr × Obj)} {σ : St} {H : Hp} {s : Shared} {l b : Addr} {xs ys zs : List V}
theorem Inv.lset {its its' : List Value} {n : Nat} {f : Array Value → Array Value} {t' : Nat} (I : Inv X pins σ H s) (hH : H l = some (.lst xs))
    (e : s.heap.get? l = some { cls := .type "list", data := .seq its.toArray n }) (hf : f its.toArray = its'.toArray) (hv : Vals ys its') (hz : ys.length ≤ sizeLine) :
    Inv X pins σ (upd H l (.lst ys)) { s with heap := s.heap.update l (Obj.mapSeq f), toks := t' } := by
  have q := PySem.IsL.update e f
  rw [hf] at q
  refine I.write (x := l) (e := l) (by rw [hH]; exact trivial) (.inl rfl) (fun b' u hb hu => (Heap.get?_update_other s.heap (Obj.mapSeq f) (Ne.symm hb)).trans hu) ⟨_, q⟩ ?_
  exact ⟨hz, its', _, hv, q⟩
theorem Inv.lnew {its : List Value} {t' : Nat} (I : Inv X pins σ H s) (hv : Vals ys its) (hz : ys.length ≤ sizeLine) :
    Inv X pins σ (upd H s.heap.objs.size (.lst ys)) { s with heap := s.heap.push { cls := .type "list", data := .seq its.toArray }, toks := t' } :=
  I.laid (fun _ _ q => Heap.get?_push_of_some _ q) (Nat.le_refl _) ⟨hz, its, 0, hv, Heap.get?_push_size _ rfl⟩
theorem Inv.fresh (I : Inv X pins σ H s) : H s.heap.objs.size = none := I.hok.fresh (Nat.le_refl _)
theorem Inv.lstM (I : Inv X pins σ H s) (hH : H l = some (.lst xs)) : xs.length ≤ sizeLine ∧ ∃ (its : List Value) (n : Nat), Vals xs its ∧ xs.length = its.length ∧ s.heap.get? l = some { cls := .type "list", data := .seq its.toArray n } := by
  obtain ⟨z, its, n, r, e⟩ := I.hok l _ hH
  exact ⟨z, its, n, r, r.length, e⟩
theorem notLongL {n : Nat} (h : n ≤ sizeLine) : Builtin.List.listTooLong n = false := by
  unfold Builtin.List.listTooLong
  exact decide_eq_false (by omega)
end
section
variable {X : Cx}
noncomputable def rAppend : V → List V → Hp → VK → Prop := fun x vs H Q => ∃ l xs y, x = .ref l ∧ vs = [y] ∧ H l = some (.lst xs) ∧ xs.length < sizeLine ∧ Q .non (upd H l (.lst (xs ++ [y])))
theorem mt_append : MtM X "list.append" rAppend := by
  intro pins s σ H x vs v us Q I rx rv h
  obtain ⟨l, xs, y, rfl, rfl, hH, hz, q⟩ := h
  cases rx
  obtain ⟨u, rfl, ru⟩ := rv.one
  obtain ⟨z, its, n, r, hl, e⟩ := I.lstM hH
  refine call_meets F.slot_list_append ⟨_, e, rfl⟩ F.entry_list_append (F.args_list_append_2 _ _) (PySem.list_append l its.toArray n u (by rw [List.size_toArray]; omega)) ⟨e, ?_⟩
  refine ⟨.non, _, I.lset (its' := its ++ [u]) hH e (by simp) (r.append (.cons ru .nil)) ?_, rfl, q⟩
  rw [List.length_append, List.length_singleton]
  omega
noncomputable def rExtend : V → List V → Hp → VK → Prop := fun x vs H Q => ∃ l b xs zs, x = .ref l ∧ vs = [.ref b] ∧ H l = some (.lst xs) ∧ H b = some (.lst zs) ∧ xs.length + zs.length ≤ sizeLine ∧ Q .non (upd H l (.lst (xs ++ zs)))
theorem mt_extend : MtM X "list.extend" rExtend := by
  intro pins s σ H x vs v us Q I rx rv h
  obtain ⟨l, b, xs, zs, rfl, rfl, hH, hB, hz, q⟩ := h
  cases rx
  obtain ⟨u, rfl, ru⟩ := rv.one
  cases ru
  obtain ⟨z, its, n, r, hl, e⟩ := I.lstM hH
  obtain ⟨z2, its2, n2, r2, hl2, e2⟩ := I.lstM hB
  have hsz : its.toArray.size + its2.toArray.size ≤ sizeLine := by rw [List.size_toArray, List.size_toArray]; omega
  have hlong : ¬ (!its.toArray.isEmpty && Builtin.List.listTooLong (its.toArray.size + its2.toArray.size)) = true := by
    rw [notLongL hsz, Bool.and_false]
    exact Bool.false_ne_true
  refine call_meets F.slot_list_extend ⟨_, e, rfl⟩ F.entry_list_extend (F.args_list_extend_2 _ _)
    (AutoSeq1.list_extend_list_list_0 l its.toArray n b its2.toArray n2 hlong (by rw [List.size_toArray]; omega) (by omega)) ⟨e, e2, ?_⟩
  refine ⟨.non, _, I.lset (its' := its ++ its2) hH e (by simp) (r.append r2) ?_, rfl, q⟩
  rw [List.length_append]
  omega
noncomputable def rPopAt : V → List V → Hp → VK → Prop := fun x vs H Q => ∃ l xs i k y, x = .ref l ∧ vs = [.int i] ∧ H l = some (.lst xs) ∧ -(2 ^ 63) ≤ i ∧ i < 2 ^ 63 ∧ seqIndex? i xs.length = some k ∧ xs[k]? = some y ∧ Q y (upd H l (.lst (xs.eraseIdx k)))
theorem mt_popAt : MtM X "list.pop" rPopAt := by
  intro pins s σ H x vs v us Q I rx rv h
  obtain ⟨l, xs, i, k, y, rfl, rfl, hH, h1, h2, hk, hy, q⟩ := h
  cases rx
  obtain ⟨u, rfl, ru⟩ := rv.one
  obtain ⟨t, rfl⟩ := ru
  obtain ⟨z, its, n, r, hl, e⟩ := I.lstM hH
  obtain ⟨w, hw, rw'⟩ := r.get hy
  refine call_meets F.slot_list_pop ⟨_, e, rfl⟩ F.entry_list_pop (F.args_list_pop_2 _ _)
    (MeetsSeq.list_pop_at l its.toArray n i t k w (fitsIndex_both h1 h2) (by rw [List.size_toArray, ← hl]; exact hk) (by rw [← Array.getElem?_toList]; exact hw) (by rw [List.size_toArray]; omega)) ⟨e, ?_⟩
  refine ⟨y, _, I.lset (its' := its.eraseIdx k) hH e ?_ (r.eraseIdx k) ?_, rw', q⟩
  · show its.toArray.eraseIdxIfInBounds k = (its.eraseIdx k).toArray
    rw [List.eraseIdxIfInBounds_toArray]
  · have := len_erase xs k
    omega
noncomputable def rCat : R2 := fun x y H Q => ∃ l b xs zs, x = .ref l ∧ y = .ref b ∧ H l = some (.lst xs) ∧ H b = some (.lst zs) ∧ xs.length + zs.length ≤ sizeLine ∧ ∀ p, H p = none → Q (.ref p) (upd H p (.lst (xs ++ zs)))
theorem op_cat : OpR X (binaryOp .Add) rCat := by
  intro pins s σ H x y v u Q I rx ry h
  obtain ⟨l, b, xs, zs, rfl, rfl, hH, hB, hz, q⟩ := h
  cases rx
  cases ry
  obtain ⟨z, its, n, r, hl, e⟩ := I.lstM hH
  obtain ⟨z2, its2, n2, r2, hl2, e2⟩ := I.lstM hB
  refine PySem.P.add_list e e2 ?_ (by rw [List.size_toArray, List.size_toArray]; omega)
  have ea : its.toArray ++ its2.toArray = (its ++ its2).toArray := by simp
  rw [ea]
  exact ⟨.ref _, _, I.lnew (t' := s.toks) (r.append r2) (by rw [List.length_append]; omega), rfl, q _ I.fresh⟩
end
section
variable {prog : Program} {w : World} {A : Around} {E : Value → Shared → Prop} {s : Shared}
end
section
variable {X : Cx}
end
end L2
namespace Att
open PySem PySem.W PySem.Calls PyProof.Rows
theorem ints_of_wellAll {P : Params} {h : Heap} : ∀ (ns : List Int) (vs : List Value), WellAll P h vs (ns.map WData.int) → IntsAre vs ns := by
  intro ns
  induction ns with
  | nil =>
    intro vs w
    rw [List.map_nil] at w
    cases w
    exact .nil
  | cons n ns ih =>
    intro vs w
    rw [List.map_cons] at w
    cases w with
    | cons a b =>
      cases a
      exact .cons _ _ (ih _ b)
theorem script_of {l : OpenLaw} {n : Nat} (hn : l.most = some n) {P : Params} {h : Heap} {args : List WData} {vals : List Value}
    (hpre : l.row.toRowW.claim.pre args = true) (hwl : WellAll P h vals args) :
    ∃ a vs ns, vals = [Value.ref a] ∧ args = [WData.list (ns.map WData.int)] ∧ h.get? a = some { cls := .type "list", data := .seq vs.toArray } ∧ IntsAre vs ns ∧ ns.length ≤ n := by
  have hsh : WShape.hasAll [] args [.list .int] = true := (pre_splitW hpre).1
  have hc : l.pre.holds [] { args := args } = true := (pre_splitW hpre).2
  obtain ⟨d, r, rfl, h1, h2⟩ := hasAllW_cons hsh
  obtain rfl := hasAllW_nil h2
  obtain ⟨xs, rfl, h3⟩ := hasW_list h1
  obtain ⟨ns, rfl⟩ := items_int h3
  have hlen : ns.length ≤ n := by
    unfold OpenLaw.pre at hc
    have h4 : (WTm.not (.lt (.lit (.int (n : Int))) (.len (.arg 0)))).holds [] { args := [.list (ns.map .int)] } = true := by
      have h4 := (holds_andW hc).1
      rw [hn] at h4
      exact h4
    have h5 := condW_of h4 (w_not (w_lt w_lit (w_len_list (w_arg rfl))))
    rw [List.length_map] at h5
    refine Nat.le_of_not_lt fun q => ?_
    have q' : (n : Int) < ((ns.length : Nat) : Int) := by omega
    first
      | (rw [decide_eq_true q'] at h5; exact absurd h5 (by decide))
      | (simp at h5; omega)
  cases hwl with
  | cons w1 w2 =>
    cases w2
    cases w1 with
    | list ho hall => exact ⟨_, _, ns, rfl, rfl, ho, ints_of_wellAll ns _ hall, hlen⟩
theorem post_true (l : OpenLaw) (args : List WData) : l.row.toRowW.claim.post args (.bool true) args = true :=
  postW_of (r := l.row.toRowW) (X := (true == true))
    (show WShape.has [] (.bool true) .bool = true by first | rfl | decide | simp [WShape.has, WShape.arms, WShape.armsAll])
    (show (WTm.eq .res (.lit (.bool true))).value [] { args := args, res := some (.bool true), after := args } = some (.bool (true == true)) from w_eq_bool (w_res rfl) w_lit) rfl
theorem attach_call {l : OpenLaw} {n : Nat} {q : Program} {loose : List Str} {XP : (Str → Option Value) → Heap → Prop} {YP : World → Heap → Prop} {d : DefRec}
    (hn : l.most = some n) (hdf : d.params.defaults = [])
    (call : ∀ (w : World) (s₀ s₁ : Shared) (mg mb : Str → Option Value) (fa : Addr) (o : Obj) (pm cd doc : Value) (a : Addr) (vs : List Value) (ns : List Int),
      Ground q loose [] XP w s₀ mg mb s₁.heap → YP w s₁.heap →
      s₁.heap.get? fa = some o → o.data = .func (docDef d.name d.params d.body d.scope pm cd doc) → s₁.heap.CodeRec cd d.name → mg d.name = some (.ref fa) →
      s₁.heap.get? a = some { cls := .type "list", data := .seq vs.toArray } → IntsAre vs ns → ns.length ≤ n → s₁.gens = #[] →
      codeAny (model l.prog w) callerA (.call (.ref fa) ⟨[.ref a], []⟩) (fun r s' => r = .ok (.ret (.bool true)) ∧ OldK s₁.heap s'.heap ∧ s'.os = s₁.os ∧ AllBare s'.gens) s₁) :
    WalkO q loose XP YP l.row.toRowW d [] (fun f vs => PySem.call f vs) := by
  intro w s₀ s₁ mg mb G Y fa o pm cd doc dV kV ho hd hcd hD hmg hg args vals as hpre hlay hrd hwl hlo
  obtain rfl : dV = .none := Dflts.none hD hdf
  obtain rfl : kV = .none := Dflts.noKw hD
  obtain ⟨a, vs, ns, rfl, rfl, hobj, hints, hlen⟩ := script_of hn hpre hwl
  refine enter_call (codeAny_mono (call w s₀ s₁ mg mb fa o pm cd doc a vs ns G Y ho (fd_plain hd) hcd hmg hobj hints hlen hg) fun r s' hq => ?_)
  obtain ⟨rfl, h2, h3, h4⟩ := hq
  exact ⟨.inl ⟨.bool true, .bool true, [], rfl, fun _ => rfl, .bool true, post_true l _, fun _ => ⟨List.Pairwise.nil, fun _ hm => (nomatch hm)⟩⟩, h2, h3, h4⟩
section
variable {prog : Program} {w : World} {A : Around} {E : Value → Shared → Prop} {s : Shared} {K : Frag}
noncomputable def ledger (h : Heap) (L d : Addr) : List (Addr × Obj) := (List.range h.objs.size).filterMap fun a => if a = L ∨ a = d then none else (h.get? a).map fun o => (a, o)
end
end Att
namespace L2
open PySem PySem.Spec PyProof.Rows
theorem vals_ints : ∀ {vs : List Value} {ns : List Int}, IntsAre vs ns → Vals (ns.map V.int) vs
  | _, _, .nil => .nil
  | _, _, .cons n t h => .cons ⟨t, rfl⟩ (vals_ints h)
noncomputable def Only (H : Hp) : Prop := ∀ b, H b = none ∨ ∃ o xs, H b = some (.frz o (.lst xs))
theorem law_call {P : Program} {w : World} {K : PySem.W.Frag} {mg mb : Str → Option Value} {CX : CXT} {k : Nat} {fa a : Addr} {fd : FuncData} {x : Str} {sp : Sp} {s₁ : Shared} {vs : List Value} {ns : List Int}
    (KX : K.In s₁.heap) (hns : s₁.heap.Ns mainGlobals mg) (hb : s₁.heap.Ns builtinsNs mb) (hbb : ∀ x : Str, x ≠ "__name__" → mb x = bootBuiltins x) (hlim : s₁.heap.NoLimit) (hg : s₁.gens = #[])
    (ha : s₁.heap.get? a = some { cls := .type "list", data := .seq vs.toArray }) (hi : IntsAre vs ns) (hl : ns.length ≤ sizeLine) (hr : Room k callerA)
    (F : ∀ base : Heap, K.In base → base.Ns mainGlobals mg → FnOk P w K mg base CX k fa fd [x] sp) (hbind : ∀ (s : Shared) (u : Value), BindsTo s fd ⟨[u], []⟩ [(x, u)])
    (hsp : ∀ H : Hp, Only H → SqL K H a (ns.map V.int) → sp [.ref a] H (fun v _ => v = .bl true) fun _ _ _ => False)
    (hCX : ∀ H e s', CX [] H s₁ (fun _ _ _ => False) e s' → False) :
    codeAny (model P w) callerA (.call (.ref fa) ⟨[.ref a], []⟩) (fun r s' => r = .ok (.ret (.bool true)) ∧ OldK s₁.heap s'.heap ∧ s'.os = s₁.os ∧ AllBare s'.gens) s₁ := by
  have rv := vals_ints hi
  have lenV := hi.length
  have core : ∀ H : Hp, Only H → SqL K H a (ns.map V.int) → HOk P w H s₁.heap → (∀ b, H b ≠ none → b = a) → (H a ≠ none → K.lookup a = none) →
      codeAny (model P w) callerA (.call (.ref fa) ⟨[.ref a], []⟩) (fun r s' => r = .ok (.ret (.bool true)) ∧ OldK s₁.heap s'.heap ∧ s'.os = s₁.os ∧ AllBare s'.gens) s₁ := by
    intro H hO hS hok hA hK
    have base_of : ∀ {b : Addr} {o : Obj}, s₁.heap.get? b = some o → H b = none → (hidT s₁.heap H).get? b = some o := fun e n => hidT_get e n
    have noA : ∀ {b : Addr} {o : Obj} {es : Array DictEntry} {ep : Nat}, s₁.heap.get? b = some o → o.data = .dict es ep → H b = none := fun {b o es ep} e d => by
      cases q : H b with
      | none => rfl
      | some u =>
        have e' : b = a := hA b (by rw [q]; simp)
        subst e'
        rw [ha] at e; cases e
        have d' : Data.seq vs.toArray _ = Data.dict es ep := d
        cases d'
    have nsK : ∀ {b : Addr} {m : Str → Option Value}, s₁.heap.Ns b m → (hidT s₁.heap H).Ns b m := fun {b m} ⟨o, es, ep, e, d, r⟩ => ⟨o, es, ep, base_of e (noA e d), d, r⟩
    have hKb : K.In (hidT s₁.heap H) := fun b o e => base_of (KX b o e) (by
      cases q : H b with
      | none => rfl
      | some u =>
        have e' : b = a := hA b (by rw [q]; simp)
        subst e'
        rw [hK (by rw [q]; simp)] at e; cases e)
    have hM : Mod K mg (hidT s₁.heap H) := ⟨hKb, nsK hns, ⟨mb, nsK hb, hbb⟩, let ⟨mc, h1, h2⟩ := hlim; ⟨mc, nsK h1, h2⟩⟩
    have e0 : Env0 P w K mg (hidT s₁.heap H) callerA [] s₁ H := ⟨rfl, hM, fun b o e => of_hidT e, Nat.le_of_eq (hidT_size _ _), trivial, fun b hb => absurd (show b ∈ ([] : List Addr) from hb) (by simp), hok, .of_eq hg⟩
    refine codeAny_mono ((F _ hKb (nsK hns)).run callerA [] s₁ H ⟨[.ref a], []⟩ [.ref a] [.ref a] _ _ hr e0 (hbind s₁ (.ref a)) (.cons rfl .nil) (hsp H hO hS)) fun r s' h => ?_
    cases r with
    | error e => exact (hCX H e s' h).elim
    | ok fl =>
      cases fl with
      | next => exact False.elim h
      | brk => exact False.elim h
      | cont => exact False.elim h
      | ret u =>
        obtain ⟨v, H', os, bare, un, hok', r', q⟩ := h
        have q' : v = .bl true := q
        subst q'
        obtain rfl : u = Value.bool true := r'
        refine ⟨rfl, OldK.of_keep fun b o e => ?_, os, bare⟩
        cases q : H b with
        | none => exact un.keep b o e q (by intro z; exact absurd (show b ∈ ([] : List Addr) from z) (by simp)) (by simp)
        | some u =>
          rcases hO b with z | ⟨ob, xs, z⟩
          · rw [q] at z; cases z
          · have z2 := un.frzs b ob _ z
            obtain ⟨e1, _⟩ := hok b _ z
            obtain ⟨e2, _⟩ := hok' b _ z2
            rw [e] at e1; cases e1
            exact e2
  cases hk : K.lookup a with
  | some o =>
    have e := KX a o hk
    rw [ha] at e
    cases e
    refine core (fun _ => none) (fun _ => .inl rfl) (.inr ⟨_, vs.toArray, _, hk, rfl, rfl, rfl, by rw [List.size_toArray, lenV]; exact hl, by simpa using rv⟩) (fun b u z => by have z' : (none : Option HO) = some u := z; cases z') (fun b z => absurd rfl z) fun z => absurd rfl z
  | none =>
    refine core (fun b => if b = a then some (.frz { cls := .type "list", data := .seq vs.toArray } (.lst (ns.map V.int))) else none) (fun b => ?_) (.inl (.inr ⟨{ cls := .type "list", data := .seq vs.toArray }, if_pos rfl⟩)) (fun b u z => ?_) (fun b z => ?_) fun _ => hk
    · by_cases hb : b = a
      · exact .inr ⟨_, _, if_pos hb⟩
      · exact .inl (if_neg hb)
    · by_cases hb : b = a
      · have z' := (if_pos hb).symm.trans z
        cases z'
        subst hb
        exact ⟨ha, by rw [List.length_map]; exact hl, vs, _, rv, ha⟩
      · have z' := (if_neg hb).symm.trans z
        cases z'
    · by_cases hb : b = a
      · exact hb
      · exact absurd (if_neg hb) z
end L2
namespace L2
open PySem PySem.Spec PyProof.Rows
theorem walk_of {l : PySem.W.OpenLaw} {n k : Nat} {q : Program} {loose : List Str} {XP : (Str → Option Value) → Heap → Prop} {YP : World → Heap → Prop} {d : DefRec} {K : Params → PySem.W.Frag} {CX : World → CXT} {sp : World → Sp} {x : Str}
    (hn : l.most = some n) (hn2 : n ≤ sizeLine) (hdf : d.params.defaults = []) (hr : Room k callerA)
    (hY : ∀ (w : World) (h : Heap), YP w h → (K w.params).In h)
    (F : ∀ (w : World) (mg : Str → Option Value) (fa : Addr) (h : Heap), (K w.params).In h → h.Ns mainGlobals mg → mg d.name = some (.ref fa) →
      ∃ fd : FuncData, (∀ (s : Shared) (u : Value), BindsTo s fd ⟨[u], []⟩ [(x, u)]) ∧
        ∀ base : Heap, (K w.params).In base → base.Ns mainGlobals mg → FnOk l.prog w (K w.params) mg base (CX w) k fa fd [x] (sp w))
    (hsp : ∀ (w : World) (H : Hp) (a : Addr) (ns : List Int), ns.length ≤ n → Only H → SqL (K w.params) H a (ns.map V.int) → sp w [.ref a] H (fun v _ => v = .bl true) fun _ _ _ => False)
    (hCX : ∀ (w : World) (H : Hp) (s : Shared) (e : Value) (s' : Shared), CX w [] H s (fun _ _ _ => False) e s' → False) :
    PySem.W.WalkO q loose XP YP l.row.toRowW d [] (fun f vs => PySem.call f vs) := by
  refine Att.attach_call hn hdf fun w s₀ s₁ mg mb fa o pm cd doc a vs ns G Y ho hd hcd hmg hobj hints hlen hg => ?_
  have KX := hY w _ Y
  obtain ⟨fd, hb, hF⟩ := F w mg fa _ KX G.T.g hmg
  exact law_call KX G.T.g G.T.b G.T.builtins G.T.nolimit hg hobj hints (Nat.le_trans hlen hn2) hr hF hb (fun H hO hS => hsp w H a ns hlen hO hS) fun H e s' => hCX w H s₁ e s'
end L2
namespace L2
open PySem PySem.Spec PyProof.Rows
noncomputable def inClass (s : Stmt) (j : Nat) : Stmt := match s with
  | .ClassDef _ _ _ body _ _ _ _ _ _ _ => body.getD j (.Pass ⟨0, 0, 0, 0⟩)
  | _ => .Pass ⟨0, 0, 0, 0⟩
noncomputable def defArgs (s : Stmt) : Arguments := match s with
  | .FunctionDef _ a _ _ _ _ _ _ _ _ => a
  | _ => { posonlyargs := [], args := [], vararg := none, kwonlyargs := [], kw_defaults := [], kwarg := none, defaults := [] }
noncomputable def defBody (s : Stmt) : List Stmt := match s with
  | .FunctionDef _ _ b _ _ _ _ _ _ _ => b
  | _ => []
noncomputable def defScope (s : Stmt) : Scope := match s with
  | .FunctionDef _ _ _ _ _ _ sc _ _ _ => sc
  | _ => { kind := .function, names := [], isGenerator := false, isCoroutine := false }
noncomputable abbrev CX0 : CXT := fun _ _ _ _ _ _ => False
noncomputable abbrev E0 : XK := fun _ _ _ => False
theorem pass0 {X : Cx} : Passes CX0 X E0 := fun _ _ _ _ _ _ _ h => h.elim
structure Fun (K : PySem.W.Frag) (x qual : Str) (st : Stmt) (f : Addr) (fd : FuncData) : Prop where
  ex : ∃ (oc : Value) (od : Option Addr) (kV doc pm : Value) (an : Option Addr) (cdv ct : Value) (osl : Array (Option Value)),
    fd = PySem.W.fnOf x qual (defArgs st) (defBody st) (defScope st) .none kV doc pm an cdv ct ∧ K.lookup f = some ⟨oc, od, .func fd, osl⟩ ∧ PySem.W.codeIn K cdv qual = true
  kp : PySem.W.keepIn K (.ref f) = true
section
variable {P : Program} {w : World} {K : PySem.W.Frag} {mg : Str → Option Value} {base : Heap}
theorem Fun.ok {x qual : Str} {st : Stmt} {f : Addr} {fd : FuncData} {N ps : List Str} {k : Nat} {sp : Sp} (F : Fun K x qual st f fd) (S : FnScope N ps (defScope st)) (len : ∀ vs H Q E, sp vs H Q E → vs.length = ps.length)
    (hbody : ∀ (cdv : Value) (A : Around) (outer : List Env) (s : Shared) (H : Hp) (vs : List V) (Q : VK) (E : XK), Room k (A.deeper (envOfC qual (defScope st) s.heap.objs.size f cdv)) → sp vs H Q E →
      ∃ t, PSs (cxOf CX0 P w K mg base N qual (defScope st) f cdv A outer s H E).nox (defBody st) t ∧ t { nx := fun _ H' => Q .non H', rt := Q } (start N vs) H) : FnOk P w K mg base CX0 (k + 1) f fd ps sp := by
  obtain ⟨oc, od, kV, doc, pm, an, cdv, ct, osl, rfl, lk, hcd⟩ := F.ex
  refine fn_of lk hcd S len fun A outer s H vs Q E hr hsp => ?_
  obtain ⟨t, h, q⟩ := hbody cdv A outer s H vs Q E hr hsp
  exact ⟨t, h.nox, q⟩
theorem Fun.binds {x qual : Str} {st : Stmt} {f : Addr} {fd : FuncData} {ps : List Str} (F : Fun K x qual st f fd)
    (h : ∀ (kV doc pm : Value) (an : Option Addr) (cdv ct : Value) (us : List Value), us.length = ps.length → bindArgs (PySem.W.fnOf x qual (defArgs st) (defBody st) (defScope st) .none kV doc pm an cdv ct) ⟨us, []⟩ = pure (ps.zip us)) : Binds K fd ps [] := by
  obtain ⟨oc, od, kV, doc, pm, an, cdv, ct, osl, rfl, lk, hcd⟩ := F.ex
  exact .all (h kV doc pm an cdv ct)
theorem fun_mk {x qual : Str} {st : Stmt} {f : Addr} {oc : Value} {od an : Option Addr} {osl : Array (Option Value)} {kV doc pm cdv ct : Value} (l : K.lookup f = some ⟨oc, od, .func (PySem.W.fnOf x qual (defArgs st) (defBody st) (defScope st) .none kV doc pm an cdv ct), osl⟩)
    (c : PySem.W.codeIn K cdv qual = true) (k : PySem.W.keepIn K (.ref f) = true) : Fun K x qual st f (PySem.W.fnOf x qual (defArgs st) (defBody st) (defScope st) .none kV doc pm an cdv ct) := ⟨⟨oc, od, kV, doc, pm, an, cdv, ct, osl, rfl, l, c⟩, k⟩
end
section
variable {X : Cx}
theorem pv (i : Nat) {x : Str} {pos : Pos} (hN : X.N[i]? = some x := by rfl) (hv : Vis X.env.scope x := by first | exact Or.inl rfl | exact Or.inr (Or.inl rfl) | exact Or.inr (Or.inr rfl)) (hd : (x == ("__debug__" : Str)) = false := by decide)
    (hcd : (x == ("__classdict__" : Str)) = false := by decide) : PE X (.Name x pos) (tVar i) := pe_var hN hv hd hcd
end
noncomputable def Same (H H' : Hp) : Prop := ∀ b o, H b = some o → H' b = some o
theorem Same.refl (H : Hp) : Same H H := fun _ _ h => h
theorem Same.trans {H H1 H2 : Hp} (a : Same H H1) (b : Same H1 H2) : Same H H2 := fun c o h => b c o (a c o h)
theorem Same.free {H H' : Hp} (e : Same H H') {l : Addr} (h : H' l = Option.none) : H l = Option.none := by
  cases q : H l with
  | none => rfl
  | some o =>
    rw [e l o q] at h
    cases h
theorem Same.seq {K : PySem.W.Frag} {H H' : Hp} {a : Addr} {xs : List V} (e : Same H H') (h : SqL K H a xs) : SqL K H' a xs := by
  rcases h with (h | ⟨o, h⟩) | h
  · exact .inl (.inl (e _ _ h))
  · exact .inl (.inr ⟨o, e _ _ h⟩)
  · exact .inr h
end L2
namespace L2
open PySem PySem.Spec PyProof.Rows
section
variable {κ : Type} [DecidableEq κ]
noncomputable def valV (kvs : List (κ × V)) (k : κ) : Option V := (kvs.find? fun kv => decide (kv.1 = k)).map (·.2)
noncomputable def putK (kvs : List (κ × V)) (k : κ) (v : V) : List (κ × V) :=
  if (kvs.any fun kv => decide (kv.1 = k)) = true then kvs.map (fun kv => if kv.1 = k then (kv.1, v) else kv) else kvs ++ [(k, v)]
noncomputable def dropK (kvs : List (κ × V)) (k : κ) : List (κ × V) := kvs.filter fun kv => decide (kv.1 ≠ k)
theorem valV_pos {p : κ × V} {r : List (κ × V)} {k : κ} (e : p.1 = k) : valV (p :: r) k = some p.2 := by simp [valV, List.find?_cons, e]
theorem valV_neg {p : κ × V} {r : List (κ × V)} {k : κ} (e : ¬ p.1 = k) : valV (p :: r) k = valV r k := by simp [valV, List.find?_cons, e]
theorem valV_any (k : κ) : ∀ kvs : List (κ × V), (kvs.any fun kv => decide (kv.1 = k)) = (valV kvs k).isSome
  | [] => rfl
  | p :: r => by
    rw [List.any_cons]
    by_cases e : p.1 = k
    · simp only [valV_pos e, decide_eq_true e, Bool.true_or, Option.isSome_some]
    · rw [valV_neg e, decide_eq_false e, Bool.false_or]; exact valV_any k r
theorem length_putK (kvs : List (κ × V)) (k : κ) (v : V) : (putK kvs k v).length ≤ kvs.length + 1 := by
  unfold putK
  split
  · rw [List.length_map]; omega
  · rw [List.length_append, List.length_cons, List.length_nil]; omega
theorem RelO.isSome_eq {o : Option V} {u : Option Value} (r : RelO o u) : o.isSome = u.isSome := by
  cases o with
  | none => cases u with
    | none => rfl
    | some _ => exact (show False from r).elim
  | some _ => cases u with
    | none => exact (show False from r).elim
    | some _ => rfl
theorem RelO.getD {o : Option V} {u : Option Value} {d : V} {d' : Value} (r : RelO o u) (rd : RelV d d') : RelV (o.getD d) (u.getD d') := by
  cases o with
  | none => cases u with
    | none => exact rd
    | some _ => exact (show False from r).elim
  | some _ => cases u with
    | none => exact (show False from r).elim
    | some _ => exact r
theorem KV.val {kvs : List (κ × V)} {vs : List (κ × Value)} (r : KV kvs vs) (k : κ) : RelO (valV kvs k) (valueAt vs k) := by
  unfold KV at r
  induction r with
  | nil => exact True.intro
  | @cons p q ps qs h t ih =>
    obtain ⟨h1, h2⟩ := h
    by_cases e : p.1 = k
    · have e' : q.1 = k := h1.symm.trans e
      have b : valueAt (q :: qs) k = some q.2 := by simp [valueAt, List.find?_cons, e']
      rw [valV_pos e, b]; exact h2
    · have e' : ¬ q.1 = k := fun z => e (h1.trans z)
      have b : valueAt (q :: qs) k = valueAt qs k := by simp [valueAt, List.find?_cons, e']
      rw [valV_neg e, b]; exact ih
theorem KV.any {kvs : List (κ × V)} {vs : List (κ × Value)} (r : KV kvs vs) (k : κ) : (kvs.any fun kv => decide (kv.1 = k)) = vs.any fun kv => decide (kv.1 = k) := by
  unfold KV at r
  induction r with
  | nil => rfl
  | cons h t ih => rw [List.any_cons, List.any_cons, ih, h.1]
theorem KV.repl {kvs : List (κ × V)} {vs : List (κ × Value)} (r : KV kvs vs) (k : κ) {y : V} {u : Value} (ry : RelV y u) :
    KV (kvs.map fun kv => if kv.1 = k then (kv.1, y) else kv) (vs.map fun kv => if kv.1 = k then (kv.1, u) else kv) := by
  unfold KV at r ⊢
  induction r with
  | nil => exact .nil
  | @cons p q ps qs h t ih =>
    rw [List.map_cons, List.map_cons]
    refine .cons ?_ ih
    obtain ⟨h1, h2⟩ := h
    by_cases e : p.1 = k
    · rw [if_pos e, if_pos (h1.symm.trans e)]; exact ⟨h1, ry⟩
    · rw [if_neg e, if_neg (fun z => e (h1.trans z))]; exact ⟨h1, h2⟩
theorem KV.put {kvs : List (κ × V)} {vs : List (κ × Value)} (r : KV kvs vs) (k : κ) {y : V} {u : Value} (ry : RelV y u) : KV (putK kvs k y) (stored vs k u) := by
  unfold putK stored
  rw [r.any k]
  by_cases e : (vs.any fun kv => decide (kv.1 = k)) = true
  · rw [if_pos e, if_pos e]; exact r.repl k ry
  · rw [if_neg e, if_neg e]; exact Paired.snoc r ⟨rfl, ry⟩
theorem KV.drop {kvs : List (κ × V)} {vs : List (κ × Value)} (r : KV kvs vs) (k : κ) : KV (dropK kvs k) (without vs k) := by
  unfold KV at r ⊢
  unfold dropK without
  induction r with
  | nil => exact .nil
  | @cons p q ps qs h t ih =>
    obtain ⟨h1, h2⟩ := h
    rw [List.filter_cons, List.filter_cons]
    by_cases e : p.1 = k
    · have a : ¬ decide (p.1 ≠ k) = true := by simp [e]
      have b : ¬ decide (q.1 ≠ k) = true := by simp [h1.symm.trans e]
      rw [if_neg a, if_neg b]; exact ih
    · have e' : ¬ q.1 = k := fun z => e (h1.trans z)
      have a : decide (p.1 ≠ k) = true := by simp [e]
      have b : decide (q.1 ≠ k) = true := by simp [e']
      rw [if_pos a, if_pos b]; exact .cons ⟨h1, h2⟩ ih
theorem KV.keys {kvs : List (κ × V)} {vs : List (κ × Value)} (r : KV kvs vs) : kvs.map (·.1) = vs.map (·.1) := by
  unfold KV at r
  induction r with
  | nil => rfl
  | cons h t ih => rw [List.map_cons, List.map_cons, ih, h.1]
theorem KV.length {kvs : List (κ × V)} {vs : List (κ × Value)} (r : KV kvs vs) : kvs.length = vs.length := Paired.length r
end
theorem kV_is {P : Program} {w : World} {k : Key} {u : Value} (r : RelV (kV k) u) : (mixKind P w).is k u = true := by
  cases k with
  | inl i => obtain ⟨t, e⟩ := (show ∃ t, u = Value.int i t from r); subst e; exact mixKind_int P w i t
  | inr x => obtain ⟨t, e⟩ := (show ∃ t, u = Value.str x t from r); subst e; exact mixKind_str P w x t
theorem items_are {P : Program} {w : World} : ∀ {ks : List Key} {us : List Value}, Vals (ks.map kV) us → ItemsAre (mixKind P w) ks us
  | [], _, r => by rw [List.map_nil] at r; cases r; exact .nil
  | k :: ks, _, r => by
    rw [List.map_cons] at r
    cases r with
    | cons h t => exact .cons (kV_is h) (items_are t)
noncomputable abbrev KT (H : Hp) : List (List Key × V) → List (List Key × Addr × Value) → Prop := Paired fun p q => p.1 = q.1 ∧ H q.2.1 = some (.tup (p.1.map kV)) ∧ RelV p.2 q.2.2
theorem KT.val {H : Hp} {kvs : List (List Key × V)} {xs : List (List Key × Addr × Value)} (r : KT H kvs xs) (k : List Key) : RelO (valV kvs k) ((atKey xs k).map (·.2)) := by
  induction r with
  | nil => exact True.intro
  | @cons p q ps qs h t ih =>
    obtain ⟨h1, _, h2⟩ := h
    by_cases e : p.1 = k
    · have e' : q.1 = k := h1.symm.trans e
      have b : atKey (q :: qs) k = some q.2 := by simp [atKey, List.find?_cons, e']
      rw [valV_pos e, b]; exact h2
    · have e' : ¬ q.1 = k := fun z => e (h1.trans z)
      have b : atKey (q :: qs) k = atKey qs k := by simp [atKey, List.find?_cons, e']
      rw [valV_neg e, b]; exact ih
theorem KT.repl {H : Hp} {kvs : List (List Key × V)} {xs : List (List Key × Addr × Value)} (r : KT H kvs xs) (k : List Key) {y : V} {u : Value} (ry : RelV y u) :
    KT H (kvs.map fun kv => if kv.1 = k then (kv.1, y) else kv) (xs.map (putAt k u)) := by
  induction r with
  | nil => exact .nil
  | @cons p q ps qs h t ih =>
    rw [List.map_cons, List.map_cons]
    refine .cons ?_ ih
    obtain ⟨h1, h2, h3⟩ := h
    unfold putAt
    by_cases e : p.1 = k
    · rw [if_pos e, if_pos (h1.symm.trans e)]; exact ⟨h1, h2, ry⟩
    · rw [if_neg e, if_neg (fun z => e (h1.trans z))]; exact ⟨h1, h2, h3⟩
theorem KT.put {H : Hp} {kvs : List (List Key × V)} {xs : List (List Key × Addr × Value)} (r : KT H kvs xs) (k : List Key) {b : Addr} {y : V} {u : Value} (hb : H b = some (.tup (k.map kV))) (ry : RelV y u) :
    KT H (putK kvs k y) (storedH xs k b u) := by
  have e : (kvs.any fun kv => decide (kv.1 = k)) = (atKey xs k).isSome := by
    rw [valV_any, (r.val k).isSome_eq, Option.isSome_map]
  unfold putK storedH
  rw [e]
  by_cases q : (atKey xs k).isSome = true
  · rw [if_pos q, if_pos q]; exact r.repl k ry
  · rw [if_neg q, if_neg q]; exact Paired.snoc r ⟨rfl, hb, ry⟩
theorem KT.keeps {H H' : Hp} {kvs : List (List Key × V)} {xs : List (List Key × Addr × Value)} (r : KT H kvs xs) (ht : ∀ b ys, H b = some (.tup ys) → H' b = some (.tup ys)) : KT H' kvs xs :=
  Paired.mapP r fun _ _ z => ⟨z.1, ht _ _ z.2.1, z.2.2⟩
section
variable {P : Program} {w : World} {H : Hp} {h : Heap} {a : Addr}
theorem rd_of {u : HO} (ok : HOk P w H h) (e : Rd H a u) : ObjOk P w H h a u := e.ok ok
theorem dk_rd {kvs : List (Key × V)} (ok : HOk P w H h) (e : Rd H a (.dK kvs)) : kvs.length ≤ sizeLine ∧ (a == sysModules) = false ∧ ∃ vs, KV kvs vs ∧ h.DictOf (mixKind P w) a vs :=
  show ObjOk P w H h a (.dK kvs) from rd_of ok e
theorem dk_of {kvs : List (Key × V)} (ok : HOk P w H h) (e : H a = some (.dK kvs)) : kvs.length ≤ sizeLine ∧ (a == sysModules) = false ∧ ∃ vs, KV kvs vs ∧ h.DictOf (mixKind P w) a vs := dk_rd ok (.inl e)
theorem key_of {ks : List Key} (ok : HOk P w H h) (e : H a = some (.tup (ks.map kV))) : (tupleKind (mixKind P w)).is h ks a := by
  obtain ⟨_, its, r, o, h1, h2, n, h3⟩ := (show ObjOk P w H h a (.tup (ks.map kV)) from ok a _ e)
  exact ⟨o, its.toArray, n, h1, h2, h3, by simpa using items_are r⟩
theorem dt_rd {kvs : List (List Key × V)} (ok : HOk P w H h) (e : Rd H a (.dT kvs)) : kvs.length ≤ sizeLine ∧ (a == sysModules) = false ∧
    ∃ xs, KT H kvs xs ∧ h.DictOfH (tupleKind (mixKind P w)) a xs := by
  obtain ⟨z, y, xs, r, o, es, ep, h1, h2, h3, h4, h5⟩ := (show ObjOk P w H h a (.dT kvs) from rd_of ok e)
  refine ⟨z, y, xs, r, o, es, ep, h1, h2, h3, h4, fun x hx => ?_, h5⟩
  have all : ∀ {l : List (List Key × V)} {m : List (List Key × Addr × Value)}, KT H l m → ∀ x ∈ m, (tupleKind (mixKind P w)).is h x.1 x.2.1 := by
    intro l m q
    induction q with
    | nil => intro x hx; exact nomatch hx
    | @cons p q ps qs hq t ih =>
      intro x hx
      rcases List.mem_cons.mp hx with e | hx
      · subst e
        exact key_of ok (by rw [← hq.1]; exact hq.2.1)
      · exact ih x hx
  exact all r x hx
theorem dt_of {kvs : List (List Key × V)} (ok : HOk P w H h) (e : H a = some (.dT kvs)) : kvs.length ≤ sizeLine ∧ (a == sysModules) = false ∧
    ∃ xs, KT H kvs xs ∧ h.DictOfH (tupleKind (mixKind P w)) a xs := dt_rd ok (.inl e)
end
noncomputable def DGet (H : Hp) (a : Addr) (y : V) (r : Option V) : Prop :=
  (∃ kvs k, Rd H a (.dK kvs) ∧ y = kV k ∧ r = valV kvs k) ∨ ∃ kvs k b, Rd H a (.dT kvs) ∧ y = .ref b ∧ H b = some (.tup (k.map kV)) ∧ r = valV kvs k
noncomputable def DPut (H : Hp) (a : Addr) (y v : V) (H' : Hp) : Prop :=
  (∃ kvs k, H a = some (.dK kvs) ∧ y = kV k ∧ kvs.length < sizeLine ∧ H' = upd H a (.dK (putK kvs k v))) ∨
  ∃ kvs k b, H a = some (.dT kvs) ∧ y = .ref b ∧ H b = some (.tup (k.map kV)) ∧ kvs.length < sizeLine ∧ H' = upd H a (.dT (putK kvs k v))
theorem DGet.k {H : Hp} {a : Addr} {kvs : List (Key × V)} {k : Key} (e : H a = some (.dK kvs)) : DGet H a (kV k) (valV kvs k) := .inl ⟨kvs, k, .inl e, rfl, rfl⟩
theorem DGet.t {H : Hp} {a b : Addr} {kvs : List (List Key × V)} {k : List Key} (e : H a = some (.dT kvs)) (eb : H b = some (.tup (k.map kV))) : DGet H a (.ref b) (valV kvs k) := .inr ⟨kvs, k, b, .inl e, rfl, eb, rfl⟩
theorem DPut.k {H : Hp} {a : Addr} {kvs : List (Key × V)} {k : Key} {v : V} (e : H a = some (.dK kvs)) (hl : kvs.length < sizeLine) : DPut H a (kV k) v (upd H a (.dK (putK kvs k v))) := .inl ⟨kvs, k, e, rfl, hl, rfl⟩
theorem DPut.t {H : Hp} {a b : Addr} {kvs : List (List Key × V)} {k : List Key} {v : V} (e : H a = some (.dT kvs)) (eb : H b = some (.tup (k.map kV))) (hl : kvs.length < sizeLine) :
    DPut H a (.ref b) v (upd H a (.dT (putK kvs k v))) := .inr ⟨kvs, k, b, e, rfl, eb, hl, rfl⟩
section
variable {X : Cx} {pins : List (Addr × Obj)} {σ : St} {H : Hp} {s : Shared} {a : Addr} {y v : V} {u r : Value} {o : Option V} {A : Around} {E : Value → Shared → Prop}
theorem Inv.big (I : Inv X pins σ H s) : sysModules < s.heap.objs.size := by
  have h : mainGlobals < s.heap.objs.size := (I.mod.glob.keeps I.bk).lt
  exact Nat.lt_trans (by decide) h
theorem d_getItem {Q : Value → Shared → Prop} (hu : A.units + 1 < cLine) (I : Inv X pins σ H s) (g : DGet H a y (some v)) (ry : RelV y u) (h : ∀ w' s', Inv X pins σ H s' → RelV v w' → Q w' s') :
    wpAny (model X.prog X.w) A (getItem (.ref a) u) Q E s := by
  rcases g with ⟨kvs, k, e, ey, l⟩ | ⟨kvs, k, b, e, ey, eb, l⟩
  · subst ey
    obtain ⟨z, hd, vs, rel, dd⟩ := dk_rd I.hok e
    obtain ⟨w', hw, rw'⟩ := RelO.some_of (v := v) (o := valueAt vs k) (by rw [l]; exact rel.val k)
    exact wpAny_getItem_of (kV_is ry) dd.mapOf hw (h w' _ (I.tok _) rw')
  · subst ey
    cases (show u = Value.ref b from ry)
    obtain ⟨z, hd, xs, rel, dd⟩ := dt_rd I.hok e
    obtain ⟨w', hw, rw'⟩ := RelO.some_of (v := v) (o := (atKey xs k).map (·.2)) (by rw [l]; exact rel.val k)
    obtain ⟨p, hp, hp2⟩ := Option.map_eq_some_iff.mp hw
    refine wpAny_getItem_heap (tupleKind_room_in1 hu) (key_of I.hok eb) dd hp ?_
    rw [hp2]
    exact h w' _ (I.tok _) rw'
theorem d_in {Q : Value → Shared → Prop} (hu : A.units + 1 < cLine) (I : Inv X pins σ H s) (g : DGet H a y o) (ry : RelV y u) (h : ∀ s', Inv X pins σ H s' → Q (.bool o.isSome) s') :
    wpAny (model X.prog X.w) A (compareOp .In u (.ref a)) Q E s := by
  rcases g with ⟨kvs, k, e, ey, l⟩ | ⟨kvs, k, b, e, ey, eb, l⟩
  · subst ey
    obtain ⟨z, hd, vs, rel, dd⟩ := dk_rd I.hok e
    refine wpAny_in_of (kV_is ry) hd dd.mapOf ?_
    rw [← (rel.val k).isSome_eq, ← l]
    exact h _ (I.tok _)
  · subst ey
    cases (show u = Value.ref b from ry)
    obtain ⟨z, hd, xs, rel, dd⟩ := dt_rd I.hok e
    refine wpAny_in_heap (tupleKind_room_in1 hu) (key_of I.hok eb) hd dd ?_
    have q := (rel.val k).isSome_eq
    rw [Option.isSome_map] at q
    rw [← q, ← l]
    exact h _ (I.tok _)
theorem d_notIn {Q : Value → Shared → Prop} (hu : A.units + 1 < cLine) (I : Inv X pins σ H s) (g : DGet H a y o) (ry : RelV y u) (h : ∀ s', Inv X pins σ H s' → Q (.bool (!o.isSome)) s') :
    wpAny (model X.prog X.w) A (compareOp .NotIn u (.ref a)) Q E s := by
  rcases g with ⟨kvs, k, e, ey, l⟩ | ⟨kvs, k, b, e, ey, eb, l⟩
  · subst ey
    obtain ⟨z, hd, vs, rel, dd⟩ := dk_rd I.hok e
    refine wpAny_notIn_of (kV_is ry) hd dd.mapOf ?_
    rw [← (rel.val k).isSome_eq, ← l]
    exact h _ (I.tok _)
  · subst ey
    cases (show u = Value.ref b from ry)
    obtain ⟨z, hd, xs, rel, dd⟩ := dt_rd I.hok e
    refine wpAny_notIn_heap (tupleKind_room_in1 hu) (key_of I.hok eb) hd dd ?_
    have q := (rel.val k).isSome_eq
    rw [Option.isSome_map] at q
    rw [← q, ← l]
    exact h _ (I.tok _)
theorem d_write {h' : Heap} {t' : Nat} {ob : HO} (I : Inv X pins σ H s) (mu : Mut (H a)) (hs : Heap.SameBut a s.heap h') (he : ∃ q, h'.get? a = some q) (new : ObjOk X.prog X.w (upd H a ob) h' a ob) :
    Inv X pins σ (upd H a ob) { s with heap := h', toks := t' } :=
  I.write (x := a) (e := a) mu (.inl rfl) (fun b q hb z => (hs.2 b hb).trans z) he new
theorem dk_new {P : Program} {w : World} {H' : Hp} {h' : Heap} {kvs : List (Key × V)} {vs : List (Key × Value)} (z : kvs.length ≤ sizeLine) (hd : (a == sysModules) = false) (rel : KV kvs vs) (dd : h'.DictOf (mixKind P w) a vs) :
    ObjOk P w H' h' a (.dK kvs) := ⟨z, hd, vs, rel, dd⟩
theorem d_setItem {H' : Hp} {Q : Unit → Shared → Prop} (hu : A.units + 1 < cLine) (I : Inv X pins σ H s) (g : DPut H a y v H') (ry : RelV y u) (rv : RelV v r) (h : ∀ s', Inv X pins σ H' s' → Q () s') :
    wpAny (model X.prog X.w) A (setItem (.ref a) u r) Q E s := by
  rcases g with ⟨kvs, k, e, ey, l, eH⟩ | ⟨kvs, k, b, e, ey, eb, l, eH⟩
  · subst ey eH
    obtain ⟨z, hd, vs, rel, dd⟩ := dk_of I.hok e
    have hz : vs.length ≤ sizeLine := by rw [← rel.length]; exact z
    have hl : (putK kvs k v).length ≤ sizeLine := by have := length_putK kvs k v; omega
    refine wpAny_setItem_pairs (hsz := hz) (kV_is ry) dd fun h' dd' hs => h _ ?_
    have he : ∃ q, h'.get? a = some q := let ⟨q, _, _, hq, _⟩ := dd'; ⟨q, hq⟩
    exact d_write I (by rw [e]; exact True.intro) hs he (dk_new hl hd (rel.put k rv) dd')
  · subst ey eH
    cases (show u = Value.ref b from ry)
    obtain ⟨z, hd, xs, rel, dd⟩ := dt_of I.hok e
    have hz : xs.length ≤ sizeLine := by rw [← Paired.length rel]; exact z
    have hl : (putK kvs k v).length ≤ sizeLine := by have := length_putK kvs k v; omega
    refine wpAny_setItem_heap (hsz := hz) (tupleKind_room_in1 hu) (key_of I.hok eb) dd fun h' dd' hs => h _ ?_
    obtain ⟨q, es, ep, hq, h2, h3, h4, _, h5⟩ := dd'
    refine d_write I (by rw [e]; exact True.intro) hs ⟨q, hq⟩ ⟨hl, hd, _, (rel.put k eb rv).keeps fun c ys ec => ?_, q, es, ep, hq, h2, h3, h4, h5⟩
    rw [upd_ne (ne_of ec e (fun z => nomatch z))]
    exact ec
end
section
variable {X : Cx} {pins : List (Addr × Obj)} {σ : St} {H : Hp} {s : Shared} {a : Addr} {kvs : List (Key × V)} {k : Key} {u : Value} {A : Around} {E : Value → Shared → Prop}
theorem d_len {Q : Value → Shared → Prop} (I : Inv X pins σ H s) (e : Rd H a (.dK kvs)) (h : ∀ t s', Inv X pins σ H s' → Q (.int kvs.length t) s') : wpAny (model X.prog X.w) A (call (.builtin "len") [.ref a]) Q E s := by
  obtain ⟨z, hd, vs, rel, dd⟩ := dk_rd I.hok e
  refine call_len_dict hd dd (by rw [← rel.length]; rw [sizeLine_eq] at z; omega) ?_
  rw [← rel.length]
  exact h _ _ (I.tok _)
end
noncomputable def NoSl (i : Expr) : Prop := ∀ ov iv, subscripted i false ov iv = operate [ov, iv] (getItem ov iv)
theorem subD_of {prog : Program} {w : World} {A : Around} {E : Value → Shared → Prop} {s : Shared} {env : Env} {value slice : Expr} {pos : Pos} {T id : String} {Q : Value → Shared → Prop}
    (hl : typeLookup (.type T) "__getitem__" = pure (some (.builtin id))) (hs : NoSl slice)
    (h : wpAny (model prog w) A (eval value env) (fun o s₁ => wpAny (model prog w) A (eval slice env) (fun i s₂ => s₂.TypeIs o T ∧ wpAny (model prog w) A (getItem o i) Q E s₂) E s₁) E s) :
    wpAny (model prog w) A (eval (.Subscript value slice pos) env) Q E s := by
  refine Subscript_ (wpAny_mono h (fun o s₁ h₁ => wpAny_mono h₁ (fun i s₂ h₂ => ?_) fun _ _ x => x) fun _ _ x => x)
  obtain ⟨hT, h₂⟩ := h₂
  unfold subscriptTail
  refine wpAny_bind ?_
  rw [getitemInPython_of_ne hT.not_modules]
  refine wpAny_bind (wpAny_specialOf hT hl ?_)
  have fin : wpAny (model prog w) A (subscripted slice false o i) (fun r s₃ => wpAny (model prog w) A (letTemporaryGo value o r >>= fun _ => pure r) Q E s₃) E s₂ := by
    rw [hs o i]
    exact wpAny_operating (wpAny_mono h₂ (fun r s₃ h₃ => wpAny_bind (wpAny_letTemporaryGo (wpAny_pure h₃))) fun _ _ x => x)
  first
    | exact wpAny_pure (wpAny_bind fin)
    | exact wpAny_bind (wpAny_pure (wpAny_bind fin))
    | exact wpAny_bind fin
theorem dict_typeIs {X : Cx} {pins : List (Addr × Obj)} {σ : St} {H : Hp} {s : Shared} {a : Addr} {y : V} {o : Option V} (I : Inv X pins σ H s) (g : DGet H a y o) : s.TypeIs (.ref a) "dict" := by
  rcases g with ⟨kvs, k, e, _, _⟩ | ⟨kvs, k, b, e, _, _, _⟩
  · obtain ⟨_, _, vs, _, dd⟩ := dk_rd I.hok e
    exact dd.typeIs
  · obtain ⟨_, _, xs, _, dd⟩ := dt_rd I.hok e
    exact dd.typeIs
noncomputable def tDGet (td ty : TE) : TE := fun σ H Q => td σ H fun x H1 => ty σ H1 fun y H2 => ∃ a v, x = .ref a ∧ DGet H2 a y (some v) ∧ Q v H2
noncomputable def tDIn (ty td : TE) : TE := fun σ H Q => ty σ H fun y H1 => td σ H1 fun x H2 => ∃ a o, x = .ref a ∧ DGet H2 a y o ∧ Q (.bl o.isSome) H2
noncomputable def tDNotIn (ty td : TE) : TE := fun σ H Q => ty σ H fun y H1 => td σ H1 fun x H2 => ∃ a o, x = .ref a ∧ DGet H2 a y o ∧ Q (.bl (!o.isSome)) H2
noncomputable def sDPut (td ty tv : TE) : TS := fun D σ H => tv σ H fun v H1 => td σ H1 fun x H2 => ty σ H2 fun y H3 => ∃ a H4, x = .ref a ∧ DPut H3 a y v H4 ∧ D.nx σ H4
section
variable {X : Cx} {o i e value : Expr} {pos pos' tpos : Pos} {td ty tv : TE}
theorem pe_dget (hu : X.A.units + 1 < cLine) (ho : PE X o td) (hi : PE X i ty) (hs : NoSl i) : PE X (.Subscript o i pos) (tDGet td ty) := by
  intro pins s σ H Q I h
  refine subD_of PySem.F.slot_dict_getitem.lookup hs (thn (ho pins s σ H _ I h) fun u s1 ⟨x, H1, I1, rx, q1⟩ => thn (hi pins s1 σ H1 _ I1 q1) fun iv s2 ⟨y, H2, I2, ry, a, v, ex, g, q2⟩ => ?_)
  subst ex
  obtain rfl : u = Value.ref a := rx
  exact ⟨dict_typeIs I2 g, d_getItem hu I2 g ry fun w' s3 I3 rw' => ⟨v, H2, I3, rw', q2⟩⟩
theorem pc_din (hu : X.A.units + 1 < cLine) (hi : PE X i ty) (ho : PE X o td) : PC X .In i o (tDIn ty td) := by
  intro pins s σ H Q I h
  refine thn (hi pins s σ H _ I h) fun iv s1 ⟨y, H1, I1, ry, q1⟩ => thn (ho pins s1 σ H1 _ I1 q1) fun u s2 ⟨x, H2, I2, rx, a, ov, ex, g, q2⟩ => ?_
  subst ex
  obtain rfl : u = Value.ref a := rx
  exact d_in hu I2 g ry fun s3 I3 => ⟨.bl ov.isSome, H2, I3, rfl, q2⟩
theorem pc_dnotin (hu : X.A.units + 1 < cLine) (hi : PE X i ty) (ho : PE X o td) : PC X .NotIn i o (tDNotIn ty td) := by
  intro pins s σ H Q I h
  refine thn (hi pins s σ H _ I h) fun iv s1 ⟨y, H1, I1, ry, q1⟩ => thn (ho pins s1 σ H1 _ I1 q1) fun u s2 ⟨x, H2, I2, rx, a, ov, ex, g, q2⟩ => ?_
  subst ex
  obtain rfl : u = Value.ref a := rx
  exact d_notIn hu I2 g ry fun s3 I3 => ⟨.bl (!ov.isSome), H2, I3, rfl, q2⟩
theorem ps_dput (hu : X.A.units + 1 < cLine) (ho : PE X o td) (hi : PE X i ty) (hv : PE X value tv) (hs : swapsWith value (some (.Subscript o i pos')) pos.line X.env = pure false) :
    PS X (.Assign [.Subscript o i pos'] value pos) (sDPut td ty tv) := by
  intro pins s σ H D I h
  refine wpAny_Assign_Subscript (thn (hv pins s σ H _ I h) fun r s1 ⟨v, H1, I1, rv, q1⟩ => thn (ho pins s1 σ H1 _ I1 q1) fun u s2 ⟨x, H2, I2, rx, q2⟩ => thn (hi pins s2 σ H2 _ I2 q2) fun iv s3 ⟨y, H3, I3, ry, a, H4, ex, g, q3⟩ => ?_) hs
  subst ex
  obtain rfl : u = Value.ref a := rx
  exact d_setItem hu I3 g ry rv fun s4 I4 => ⟨σ, H4, I4, q3⟩
end
theorem dk_empty {P : Program} {w : World} {H : Hp} (h : Heap) (hb : sysModules < h.objs.size) : ObjOk P w H (h.push { cls := .type "dict", data := .dict #[] }) h.objs.size (.dK []) :=
  ⟨Nat.zero_le _, beq_eq_false_iff_ne.mpr (Ne.symm (Nat.ne_of_lt hb)), [], .nil, Heap.DictOf.new h⟩
noncomputable def tDNewK : TE := fun _ H Q => ∀ p, H p = none → Q (.ref p) (upd H p (.dK []))
section
variable {X : Cx} {pos : Pos}
theorem pe_dnewK : PE X (.Dict [] [] pos) tDNewK := fun pins s σ H Q I h =>
  wpAny_Dict_empty ⟨.ref s.heap.objs.size, _, I.laid (a := s.heap.objs.size) (o := .dK []) (t' := s.toks) (fun _ _ q => Heap.get?_push_of_some _ q) (Nat.le_refl _) (dk_empty s.heap I.big), rfl, h _ (I.hok.fresh (Nat.le_refl _))⟩
end
noncomputable def IsD (H : Hp) (a : Addr) : Prop := (∃ kvs, Rd H a (.dK kvs)) ∨ ∃ kvs, Rd H a (.dT kvs)
theorem isD_at {X : Cx} {pins : List (Addr × Obj)} {σ : St} {H : Hp} {s : Shared} {a : Addr} (I : Inv X pins σ H s) (d : IsD H a) :
    s.TypeIs (.ref a) "dict" ∧ (∀ b, Value.ref a = .ref b → ∃ ob, s.heap.get? b = some ob ∧ ob.dict = none) ∧ (a == sysModules) = false := by
  rcases d with ⟨kvs, e⟩ | ⟨kvs, e⟩
  · obtain ⟨_, hd, vs, _, dd⟩ := dk_rd I.hok e
    refine ⟨dd.typeIs, fun b q => ?_, hd⟩
    cases q
    obtain ⟨ob, _, _, h1, h2, _⟩ := dd
    exact ⟨ob, h1, h2.2.1⟩
  · obtain ⟨_, hd, xs, _, dd⟩ := dt_rd I.hok e
    refine ⟨dd.typeIs, fun b q => ?_, hd⟩
    cases q
    obtain ⟨ob, _, _, h1, h2, _⟩ := dd
    exact ⟨ob, h1, h2.2.1⟩
section
variable {X : Cx} {pins : List (Addr × Obj)} {σ : St} {H : Hp} {s : Shared} {a : Addr} {y d : V} {u r : Value} {o : Option V} {A : Around} {E : Value → Shared → Prop}
end
section
variable {X : Cx} {o e f : Expr} {apos cpos : Pos} {td ty tx : TE}
end
section
variable {X : Cx} {pins : List (Addr × Obj)} {σ : St} {H : Hp} {s : Shared} {a : Addr} {kvs : List (Key × V)} {A : Around} {E : Value → Shared → Prop}
end
section
variable {X : Cx} {pins : List (Addr × Obj)} {σ : St} {H : Hp} {s : Shared} {a : Addr} {y : V} {u : Value} {A : Around} {E : Value → Shared → Prop}
end
end L2
set_option maxRecDepth 100000
namespace Ws
noncomputable section
inductive PV where
  | non | bl (b : Bool) | int (i : Int) | str (x : PySem.Str) | tup (l : List PV) | ref (n : Nat)
inductive PO where
  | lst (l : List PV)
  | ro (l : List PV)
  | dI (kvs : List (Int × PV))
  | ins (c : Nat) (fs : List (Nat × PV))
    | dT (kvs : List (List Int × PV))
    | exc (c : Nat) (v : PV)
noncomputable abbrev PHp := List PO
inductive R (α : Type) where
  | ok (a : α) (A : PHp)
  | ex (c : Nat) (v : PV) (A : PHp)
  | no
noncomputable abbrev M (α : Type) := PHp → R α
@[simp] noncomputable def ret {α : Type} (a : α) : M α := fun A => .ok a A
@[simp] noncomputable def stuck {α : Type} : M α := fun _ => .no
@[simp] noncomputable def bnd {α β : Type} (m : M α) (f : α → M β) : M β := fun A => match m A with
  | .ok a A' => f a A'
  | .ex c v A' => .ex c v A'
  | .no => .no
noncomputable def guard {α : Type} (P : Prop) (m : M α) : M α := @ite _ P (Classical.propDecidable P) m stuck
theorem guard_pos {α : Type} {P : Prop} {m : M α} (h : P) : guard P m = m := if_pos h
@[simp] theorem guard_true {α : Type} {m : M α} : guard True m = m := if_pos trivial
theorem guard_inv {α : Type} {P : Prop} {m : M α} {A A' : PHp} {a : α} (h : guard P m A = .ok a A') : P ∧ m A = .ok a A' := by
  by_cases p : P
  · rw [guard_pos p] at h; exact ⟨p, h⟩
  · rw [show guard P m = stuck from if_neg p] at h; cases h
theorem bnd_ok {α β : Type} {m : M α} {f : α → M β} {A A' : PHp} {a : α} (h : m A = .ok a A') : bnd m f A = f a A' := by unfold bnd; rw [h]
theorem bnd_inv {α β : Type} {m : M α} {f : α → M β} {A A' : PHp} {b : β} (h : bnd m f A = .ok b A') : ∃ a A1, m A = .ok a A1 ∧ f a A1 = .ok b A' := by
  unfold bnd at h
  cases e : m A with
  | ok a A1 => rw [e] at h; exact ⟨a, A1, rfl, h⟩
  | ex c v A1 => rw [e] at h; cases h
  | no => rw [e] at h; cases h
noncomputable abbrev PSt := List (Option PV)
noncomputable abbrev ED := PSt → M PV
noncomputable abbrev TD := PSt → M Bool
noncomputable abbrev AD := PSt → M (List PV)
noncomputable abbrev Fun := List PV → M PV
inductive Fl where
  | nx (σ : PSt) | rt (v : PV) | bk (σ : PSt) | ct (σ : PSt)
noncomputable abbrev SD := PSt → M Fl
noncomputable abbrev GD := PV → PSt → M PSt
@[irreducible] noncomputable def LIM : Nat := 100000
theorem lim_le {n : Nat} (h : n ≤ 10000) : n ≤ LIM := by unfold LIM; omega
theorem lim_lt {n : Nat} (h : n < 10000) : n < LIM := by unfold LIM; omega
@[simp] theorem lim_0 : 0 ≤ LIM := Nat.zero_le _
@[simp] theorem lim_1 : 1 ≤ LIM := lim_le (by omega)
@[simp] theorem lim_2 : 2 ≤ LIM := lim_le (by omega)
@[simp] theorem lim_3 : 3 ≤ LIM := lim_le (by omega)
@[simp] theorem lim_4 : 4 ≤ LIM := lim_le (by omega)
mutual
noncomputable def eqv : PV → PV → Bool
  | .non, .non => true
  | .bl a, .bl b => a == b
  | .int i, .int j => decide (i = j)
  | .str x, .str y => decide (x = y)
  | .tup l, .tup m => eqvs l m
  | _, _ => false
noncomputable def eqvs : List PV → List PV → Bool
  | [], [] => true
  | x :: xs, y :: ys => eqv x y && eqvs xs ys
  | _, _ => false
end
mutual
noncomputable def nice : PV → Bool
  | .non => true
  | .int _ => true
  | .str _ => true
  | .tup l => nices l
  | _ => false
noncomputable def nices : List PV → Bool
  | [] => true
  | x :: xs => nice x && nices xs
end
@[simp] noncomputable def flat0 : PV → Bool
  | .non => true
  | .int _ => true
  | .str _ => true
  | _ => false
noncomputable def flat1 : PV → Bool
  | .tup l => l.all flat0
  | x => flat0 x
noncomputable def flat2 : PV → Bool
  | .tup l => l.all flat1
  | x => flat0 x
noncomputable def plain : PV → Bool
  | .tup l => l.all flat2
  | x => flat0 x
noncomputable def plains (l : List PV) : Bool := l.all plain
@[simp] theorem plain_int (i : Int) : plain (.int i) = true := rfl
@[simp] theorem plain_non : plain .non = true := rfl
@[simp] noncomputable def alloc (o : PO) : M PV := fun A => .ok (.ref A.length) (A ++ [o])
@[simp] noncomputable def lstAt (n : Nat) : M (List PV) := fun A => match A[n]? with
  | some (.lst l) => .ok l A
  | some (.ro l) => .ok l A
  | _ => .no
@[simp] noncomputable def mutAt (n : Nat) : M (List PV) := fun A => match A[n]? with
  | some (.lst l) => .ok l A
  | _ => .no
@[simp] noncomputable def put (n : Nat) (o : PO) : M Unit := fun A => .ok () (A.set n o)
@[simp] noncomputable def insAt (n : Nat) : M (Nat × List (Nat × PV)) := fun A => match A[n]? with
  | some (.ins c fs) => .ok (c, fs) A
  | _ => .no
@[simp] noncomputable def seqOf (v : PV) : M (List PV) := match v with
  | .ref n => lstAt n
  | .tup l => ret l
  | _ => stuck
@[simp] noncomputable def eVar (i : Nat) : ED := fun σ => match σ[i]? with
  | some (some v) => ret v
  | _ => stuck
@[simp] noncomputable def eK (v : PV) : ED := fun _ => ret v
@[simp] noncomputable def aNil : AD := fun _ => ret []
@[simp] noncomputable def aCons (e : ED) (es : AD) : AD := fun σ => bnd (e σ) fun x => bnd (es σ) fun xs => ret (x :: xs)
@[simp] noncomputable def eTup (es : AD) : ED := fun σ => bnd (es σ) fun xs => guard (xs.length ≤ LIM) (ret (.tup xs))
@[simp] noncomputable def eLst (es : AD) : ED := fun σ => bnd (es σ) fun xs => guard (xs.length ≤ LIM) (alloc (.lst xs))
noncomputable abbrev OD := PV → PV → M PV
@[simp] noncomputable def eBin (f : OD) (a b : ED) : ED := fun σ => bnd (a σ) fun x => bnd (b σ) fun y => f x y
@[simp] noncomputable def oAdd : OD
  | .int i, .int j => ret (.int (i + j))
  | .tup l, .tup m => guard (l ≠ [] ∧ l.length + m.length ≤ LIM) (ret (.tup (l ++ m)))
  | .ref n, .ref k => bnd (mutAt n) fun l => bnd (mutAt k) fun m => guard (l.length + m.length ≤ LIM) (alloc (.lst (l ++ m)))
  | _, _ => stuck
@[simp] noncomputable def oSub : OD
  | .int i, .int j => ret (.int (i - j))
  | _, _ => stuck
@[simp] noncomputable def oMul : OD
  | .int i, .int j => guard ((-(2 ^ 64) < i ∧ i < 2 ^ 64) ∨ (-(2 ^ 64) < j ∧ j < 2 ^ 64)) (ret (.int (i * j)))
  | _, _ => stuck
@[simp] noncomputable def oMod : OD
  | .int i, .int j => guard (0 < j) (ret (.int (i % j)))
  | _, _ => stuck
@[simp] noncomputable def oFdiv : OD
  | .int i, .int j => guard (0 < j ∧ j < 1073741824) (ret (.int (i / j)))
  | _, _ => stuck
@[simp] noncomputable def oLt : OD
  | .int i, .int j => ret (.bl (decide (i < j)))
  | _, _ => stuck
@[simp] noncomputable def oLe : OD
  | .int i, .int j => ret (.bl (decide (i ≤ j)))
  | _, _ => stuck
@[simp] noncomputable def oGt : OD
  | .int i, .int j => ret (.bl (decide (j < i)))
  | _, _ => stuck
@[simp] noncomputable def oGe : OD
  | .int i, .int j => ret (.bl (decide (j ≤ i)))
  | _, _ => stuck
@[simp] noncomputable def bothBl : PV → PV → Bool
  | .bl _, .bl _ => true
  | _, _ => false
@[simp] noncomputable def pEq (x y : PV) : M Bool := match x, y with
  | .ref n, .ref k => bnd (lstAt n) fun l => bnd (lstAt k) fun m => guard (plains l = true ∧ plains m = true) (ret (eqvs l m))
  | x, y => guard (bothBl x y = true ∨ (plain x = true ∧ plain y = true)) (ret (eqv x y))
@[simp] noncomputable def oEq : OD := fun x y => bnd (pEq x y) fun b => ret (.bl b)
@[simp] noncomputable def oNe : OD := fun x y => bnd (pEq x y) fun b => ret (.bl (!b))
noncomputable def pIn (x : PV) (l : List PV) : Bool := l.any fun y => eqv y x
@[simp] noncomputable def oIn : OD := fun x y => bnd (seqOf y) fun l => guard (plain x = true ∧ plains l = true) (ret (.bl (pIn x l)))
@[simp] noncomputable def oNotIn : OD := fun x y => bnd (seqOf y) fun l => guard (plain x = true ∧ plains l = true) (ret (.bl (!pIn x l)))
@[simp] noncomputable def isNon : PV → Bool
  | .non => true
  | _ => false
@[simp] noncomputable def eIsN (a : ED) : ED := fun σ => bnd (a σ) fun x => ret (.bl (isNon x))
@[simp] noncomputable def eNotN (a : ED) : ED := fun σ => bnd (a σ) fun x => ret (.bl (!isNon x))
@[simp] noncomputable def eChain (f g : OD) (a b c : ED) : ED := fun σ => bnd (a σ) fun x => bnd (b σ) fun y => bnd (f x y) fun z => match z with
  | .bl true => bnd (c σ) fun u => g y u
  | .bl false => ret (.bl false)
  | _ => stuck
@[simp] noncomputable def asB (v : PV) : M Bool := match v with
  | .bl b => ret b
  | _ => stuck
@[simp] noncomputable def tVal (e : ED) : TD := fun σ => bnd (e σ) asB
@[simp] noncomputable def tAnd (a b : TD) : TD := fun σ => bnd (a σ) fun c => if c = true then b σ else ret false
@[simp] noncomputable def tOr (a b : TD) : TD := fun σ => bnd (a σ) fun c => if c = true then ret true else b σ
@[simp] noncomputable def tNot (a : TD) : TD := fun σ => bnd (a σ) fun c => ret (!c)
@[simp] noncomputable def eAnd (a b : ED) : ED := fun σ => bnd (bnd (a σ) asB) fun c => if c = true then b σ else ret (.bl false)
@[simp] noncomputable def eOr (a b : ED) : ED := fun σ => bnd (bnd (a σ) asB) fun c => if c = true then ret (.bl true) else b σ
@[simp] noncomputable def eNot (a : ED) : ED := fun σ => bnd (bnd (a σ) asB) fun c => ret (.bl (!c))
@[simp] noncomputable def eIf (t : TD) (a b : ED) : ED := fun σ => bnd (t σ) fun c => if c = true then a σ else b σ
noncomputable def ixN (n : Nat) (i : Int) : Option Nat := if 0 ≤ i then (if i < n then some i.toNat else none) else if -(n : Int) ≤ i then some (i + n).toNat else none
noncomputable def atI {α : Type} (xs : List α) (i : Int) : Option α := (ixN xs.length i).bind fun j => xs[j]?
@[simp] noncomputable def oIx : OD := fun x y => match y with
  | .int i => bnd (seqOf x) fun l => match atI l i with
    | some v => ret v
    | none => stuck
  | _ => stuck
noncomputable def cutIx (n d : Nat) : Option Int → Nat
  | none => d
  | some v => if v < 0 then (max (v + n) 0).toNat else (min v n).toNat
noncomputable def cut {α : Type} (xs : List α) (lo hi : Option Int) : List α := (xs.drop (cutIx xs.length 0 lo)).take (cutIx xs.length xs.length hi - cutIx xs.length 0 lo)
noncomputable abbrev LD := PSt → M (Option Int)
@[simp] noncomputable def lNo : LD := fun _ => ret none
@[simp] noncomputable def lAt (e : ED) : LD := fun σ => bnd (e σ) fun x => match x with
  | .int i => ret (some i)
  | _ => stuck
@[simp] noncomputable def eCut (a : ED) (lo hi : LD) : ED := fun σ => bnd (a σ) fun x => bnd (lo σ) fun l => bnd (hi σ) fun h => match x with
  | .ref n => bnd (lstAt n) fun xs => alloc (.lst (cut xs l h))
  | .tup xs => guard (¬ (cutIx xs.length 0 l = 0 ∧ cutIx xs.length xs.length h = xs.length)) (ret (.tup (cut xs l h)))
  | _ => stuck
@[simp] noncomputable def eLen (a : ED) : ED := fun σ => bnd (a σ) fun x => bnd (seqOf x) fun l => ret (.int l.length)
@[simp] noncomputable def eListOf (a : ED) : ED := fun σ => bnd (a σ) fun x => bnd (seqOf x) fun l => alloc (.lst l)
noncomputable def intsOf : List PV → Option (List Int)
  | [] => some []
  | .int i :: r => (intsOf r).map (i :: ·)
  | _ => none
noncomputable def tupsOf : List PV → Option (List (List Int))
  | [] => some []
  | .tup (x :: l) :: r => match intsOf (x :: l), tupsOf r with
    | some z, some zs => some (z :: zs)
    | _, _ => none
  | _ => none
noncomputable def lexLt : List Int → List Int → Bool
  | _, [] => false
  | [], _ :: _ => true
  | x :: xs, y :: ys => if x = y then lexLt xs ys else decide (x < y)
noncomputable def insBy {α : Type} (lt : α → α → Bool) (a : α) : List α → List α
  | [] => [a]
  | b :: r => if lt b a = true then b :: insBy lt a r else a :: b :: r
noncomputable def sortBy {α : Type} (lt : α → α → Bool) : List α → List α
  | [] => []
  | a :: r => insBy lt a (sortBy lt r)
noncomputable def ltI (i j : Int) : Bool := decide (i < j)
noncomputable def pSorted (l : List PV) : M (List PV) := guard (l.length < 64) (match intsOf l with
    | some ns => ret ((sortBy ltI ns).map .int)
    | none => match tupsOf l with
      | some ts => ret ((sortBy lexLt ts).map fun t => .tup (t.map .int))
      | none => stuck)
@[simp] noncomputable def eSorted (a : ED) : ED := fun σ => bnd (a σ) fun x => match x with
  | .ref n => bnd (lstAt n) fun l => bnd (pSorted l) fun m => alloc (.lst m)
  | _ => stuck
inductive Ty where
  | int | bool | tuple | list
@[simp] noncomputable def isTy (t : Ty) (v : PV) : M Bool := match t, v with
  | .int, .int _ => ret true
  | .int, .bl _ => ret true
  | .bool, .bl _ => ret true
  | .tuple, .tup _ => ret true
  | .list, .ref n => bnd (mutAt n) fun _ => ret true
  | _, .ref n => bnd (mutAt n) fun _ => ret false
  | _, _ => ret false
@[simp] noncomputable def eIsA (a : ED) (t : Ty) : ED := fun σ => bnd (a σ) fun x => bnd (isTy t x) fun b => ret (.bl b)
@[simp] noncomputable def getFld (f : Nat) : List (Nat × PV) → Option PV
  | [] => none
  | (g, u) :: r => if g = f then some u else getFld f r
@[simp] noncomputable def eFld (a : ED) (f : Nat) : ED := fun σ => bnd (a σ) fun x => match x with
  | .ref n => bnd (insAt n) fun o => match getFld f o.2 with
    | some v => ret v
    | none => stuck
  | _ => stuck
@[simp] noncomputable def putFld (f : Nat) (v : PV) : List (Nat × PV) → List (Nat × PV)
  | [] => [(f, v)]
  | (g, u) :: r => if g = f then (g, v) :: r else (g, u) :: putFld f v r
@[simp] noncomputable def sFld (a : ED) (f : Nat) (e : ED) : SD := fun σ => bnd (e σ) fun v => bnd (a σ) fun x => match x with
  | .ref n => bnd (insAt n) fun o => guard (o.2.length < 900) (bnd (put n (.ins o.1 (putFld f v o.2))) fun _ => ret (.nx σ))
  | _ => stuck
@[simp] noncomputable def eCall (f : Fun) (es : AD) : ED := fun σ => bnd (es σ) f
@[simp] noncomputable def eMake (c : Nat) (init : Fun) (es : AD) : ED := fun σ => bnd (es σ) fun vs => bnd (alloc (.ins c [])) fun x => bnd (init (x :: vs)) fun _ => ret x
@[simp] noncomputable def eMeth (c : Nat) (f : Fun) (a : ED) (es : AD) : ED := fun σ => bnd (a σ) fun x => match x with
  | .ref n => bnd (insAt n) fun o => guard (o.1 = c) (bnd (es σ) fun vs => f (x :: vs))
  | _ => stuck
@[simp] noncomputable def eAppend (a e : ED) : ED := fun σ => bnd (a σ) fun x => match x with
  | .ref n => bnd (mutAt n) fun _ => bnd (e σ) fun v => bnd (mutAt n) fun l => guard (l.length < LIM) (bnd (put n (.lst (l ++ [v]))) fun _ => ret .non)
  | _ => stuck
@[simp] noncomputable def gName (i : Nat) : GD := fun v σ => ret (σ.set i (some v))
noncomputable abbrev GDs := List PV → PSt → M PSt
@[simp] noncomputable def gNil : GDs := fun vs σ => match vs with
  | [] => ret σ
  | _ => stuck
@[simp] noncomputable def gCons (g : GD) (r : GDs) : GDs := fun vs σ => match vs with
  | v :: w => bnd (g v σ) fun σ' => r w σ'
  | _ => stuck
@[simp] noncomputable def gTup (n : Nat) (g : GDs) : GD := fun v σ => match v with
  | .tup l => guard (l.length = n) (g l σ)
  | _ => stuck
inductive It where
  | rng (lo : Int) (n : Nat) | lst (n : Nat) | tup (l : List PV) | enm (n : Nat)
    | fix (l : List PV)
    | zip (x y : PV)
noncomputable abbrev ID := PSt → M It
@[simp] noncomputable def iSeq (a : ED) : ID := fun σ => bnd (a σ) fun x => match x with
  | .ref n => bnd (lstAt n) fun _ => ret (.lst n)
  | .tup l => ret (.tup l)
  | _ => stuck
@[simp] noncomputable def iRng1 (a : ED) : ID := fun σ => bnd (a σ) fun x => match x with
  | .int j => guard (-(2 ^ 62) ≤ j ∧ j < 2 ^ 62) (ret (.rng 0 j.toNat))
  | _ => stuck
@[simp] noncomputable def iRng2 (a b : ED) : ID := fun σ => bnd (a σ) fun x => bnd (b σ) fun y => match x, y with
  | .int i, .int j => guard ((-(2 ^ 62) ≤ i ∧ i < 2 ^ 62) ∧ -(2 ^ 62) ≤ j ∧ j < 2 ^ 62) (ret (.rng i (j - i).toNat))
  | _, _ => stuck
@[simp] noncomputable def iEnm (a : ED) : ID := fun σ => bnd (a σ) fun x => match x with
  | .ref n => bnd (lstAt n) fun _ => ret (.enm n)
  | _ => stuck
@[simp] noncomputable def item (J : It) (i : Nat) : M (Option PV) := match J with
  | .rng lo n => ret (if i < n then some (.int (lo + i)) else none)
  | .lst a => bnd (lstAt a) fun l => ret l[i]?
  | .tup l => ret l[i]?
  | .enm a => bnd (lstAt a) fun l => ret (l[i]?.map fun x => .tup [.int i, x])
  | .fix l => ret l[i]?
  | .zip x y => bnd (seqOf x) fun l => bnd (seqOf y) fun m => ret (match l[i]?, m[i]? with
    | some u, some v => some (.tup [u, v])
    | _, _ => none)
@[simp] noncomputable def fuelOf (J : It) : M Nat := match J with
  | .rng _ n => ret n
  | .lst a => bnd (lstAt a) fun l => ret l.length
  | .tup l => ret l.length
  | .enm a => bnd (lstAt a) fun l => ret l.length
  | .fix l => ret l.length
  | .zip x _ => bnd (seqOf x) fun l => ret l.length
@[simp] noncomputable def sPass : SD := fun σ => ret (.nx σ)
@[simp] noncomputable def sBreak : SD := fun σ => ret (.bk σ)
@[simp] noncomputable def sCont : SD := fun σ => ret (.ct σ)
@[simp] noncomputable def sSeq (a b : SD) : SD := fun σ => bnd (a σ) fun f => match f with
  | .nx σ' => b σ'
  | o => ret o
@[simp] noncomputable def sExpr (e : ED) : SD := fun σ => bnd (e σ) fun _ => ret (.nx σ)
@[simp] noncomputable def sRet (e : ED) : SD := fun σ => bnd (e σ) fun v => ret (.rt v)
@[simp] noncomputable def sRetN : SD := fun _ => ret (.rt .non)
@[simp] noncomputable def sIf (t : TD) (a b : SD) : SD := fun σ => bnd (t σ) fun c => if c = true then a σ else b σ
@[simp] noncomputable def sAsg (e : ED) (g : GD) : SD := fun σ => bnd (e σ) fun v => bnd (g v σ) fun σ' => ret (.nx σ')
@[simp] noncomputable def sNever : SD := fun _ => stuck
noncomputable def turns0 (J : It) (g : GD) (body : SD) : Nat → Nat → PSt → M Fl
  | 0, _, _ => stuck
  | f + 1, i, σ => bnd (item J i) fun x => match x with
    | none => ret (.nx σ)
    | some v => bnd (g v σ) fun σ1 => bnd (body σ1) fun o => match o with
      | .nx σ2 => turns0 J g body f (i + 1) σ2
      | .ct σ2 => turns0 J g body f (i + 1) σ2
      | .bk σ2 => ret (.nx σ2)
      | .rt v => ret (.rt v)
theorem turns_ex : ∃ T : It → GD → SD → Nat → Nat → PSt → M Fl, (∀ J g body i σ, T J g body 0 i σ = stuck) ∧ ∀ J g body f i σ, T J g body (f + 1) i σ = bnd (item J i) fun x => match x with
    | none => ret (.nx σ)
    | some v => bnd (g v σ) fun σ1 => bnd (body σ1) fun o => match o with
      | .nx σ2 => T J g body f (i + 1) σ2
      | .ct σ2 => T J g body f (i + 1) σ2
      | .bk σ2 => ret (.nx σ2)
      | .rt v => ret (.rt v) := ⟨turns0, fun _ _ _ _ _ => rfl, fun _ _ _ _ _ _ => rfl⟩
noncomputable def turns : It → GD → SD → Nat → Nat → PSt → M Fl := Classical.choose turns_ex
theorem turns_zero (J : It) (g : GD) (body : SD) (i : Nat) (σ : PSt) : turns J g body 0 i σ = stuck := (Classical.choose_spec turns_ex).1 J g body i σ
theorem turns_succ (J : It) (g : GD) (body : SD) (f i : Nat) (σ : PSt) : turns J g body (f + 1) i σ = bnd (item J i) fun x => match x with
    | none => ret (.nx σ)
    | some v => bnd (g v σ) fun σ1 => bnd (body σ1) fun o => match o with
      | .nx σ2 => turns J g body f (i + 1) σ2
      | .ct σ2 => turns J g body f (i + 1) σ2
      | .bk σ2 => ret (.nx σ2)
      | .rt v => ret (.rt v) := (Classical.choose_spec turns_ex).2 J g body f i σ
@[simp] noncomputable def sFor (it : ID) (g : GD) (body : SD) : SD := fun σ => bnd (it σ) fun J => bnd (fuelOf J) fun n => turns J g body (n + 1) 0 σ
noncomputable def wturns0 (t : TD) (body : SD) : Nat → PSt → M Fl
  | 0, _ => stuck
  | f + 1, σ => bnd (t σ) fun c => if c = true then bnd (body σ) fun o => match o with
      | .nx σ2 => wturns0 t body f σ2
      | .ct σ2 => wturns0 t body f σ2
      | .bk σ2 => ret (.nx σ2)
      | .rt v => ret (.rt v)
    else ret (.nx σ)
theorem wturns_ex : ∃ T : TD → SD → Nat → PSt → M Fl, (∀ t body σ, T t body 0 σ = stuck) ∧ ∀ t body f σ, T t body (f + 1) σ = bnd (t σ) fun c => if c = true then bnd (body σ) fun o => match o with
      | .nx σ2 => T t body f σ2
      | .ct σ2 => T t body f σ2
      | .bk σ2 => ret (.nx σ2)
      | .rt v => ret (.rt v)
    else ret (.nx σ) := ⟨wturns0, fun _ _ _ => rfl, fun _ _ _ _ => rfl⟩
noncomputable def wturns : TD → SD → Nat → PSt → M Fl := Classical.choose wturns_ex
theorem wturns_zero (t : TD) (body : SD) (σ : PSt) : wturns t body 0 σ = stuck := (Classical.choose_spec wturns_ex).1 t body σ
theorem wturns_succ (t : TD) (body : SD) (f : Nat) (σ : PSt) : wturns t body (f + 1) σ = bnd (t σ) fun c => if c = true then bnd (body σ) fun o => match o with
      | .nx σ2 => wturns t body f σ2
      | .ct σ2 => wturns t body f σ2
      | .bk σ2 => ret (.nx σ2)
      | .rt v => ret (.rt v)
    else ret (.nx σ) := (Classical.choose_spec wturns_ex).2 t body f σ
@[simp] noncomputable def sWhile (t : TD) (body : SD) : SD := fun σ => wturns t body LIM σ
noncomputable def bst {α : Type} (js : List (Option Nat)) (σ : List (Option α)) : List (Option α) := js.map fun o => match o with
  | none => none
  | some j => σ.getD j none
noncomputable def cturns0 (J : It) (g : GD) (t : TD) (e : ED) : Nat → Nat → PSt → M (List PV)
  | 0, _, _ => stuck
  | f + 1, i, σ => bnd (item J i) fun x => match x with
    | none => ret []
    | some v => bnd (g v σ) fun σ1 => bnd (t σ1) fun c => if c = true then bnd (e σ1) fun y => bnd (cturns0 J g t e f (i + 1) σ1) fun ys => ret (y :: ys)
      else cturns0 J g t e f (i + 1) σ1
theorem cturns_ex : ∃ T : It → GD → TD → ED → Nat → Nat → PSt → M (List PV), (∀ J g t e i σ, T J g t e 0 i σ = stuck) ∧ ∀ J g t e f i σ, T J g t e (f + 1) i σ = bnd (item J i) fun x => match x with
    | none => ret []
    | some v => bnd (g v σ) fun σ1 => bnd (t σ1) fun c => if c = true then bnd (e σ1) fun y => bnd (T J g t e f (i + 1) σ1) fun ys => ret (y :: ys)
      else T J g t e f (i + 1) σ1 := ⟨cturns0, fun _ _ _ _ _ _ => rfl, fun _ _ _ _ _ _ _ => rfl⟩
noncomputable def cturns : It → GD → TD → ED → Nat → Nat → PSt → M (List PV) := Classical.choose cturns_ex
theorem cturns_zero (J : It) (g : GD) (t : TD) (e : ED) (i : Nat) (σ : PSt) : cturns J g t e 0 i σ = stuck := (Classical.choose_spec cturns_ex).1 J g t e i σ
theorem cturns_succ (J : It) (g : GD) (t : TD) (e : ED) (f i : Nat) (σ : PSt) : cturns J g t e (f + 1) i σ = bnd (item J i) fun x => match x with
    | none => ret []
    | some v => bnd (g v σ) fun σ1 => bnd (t σ1) fun c => if c = true then bnd (e σ1) fun y => bnd (cturns J g t e f (i + 1) σ1) fun ys => ret (y :: ys)
      else cturns J g t e f (i + 1) σ1 := (Classical.choose_spec cturns_ex).2 J g t e f i σ
@[simp] noncomputable def tTrue : TD := fun _ => ret true
@[simp] noncomputable def eComp (it : ID) (mk : PSt → PSt) (g : GD) (t : TD) (e : ED) : ED := fun σ => bnd (it σ) fun J => bnd (fuelOf J) fun n => bnd (cturns J g t e (n + 1) 0 (mk σ)) fun ys => guard (ys.length ≤ LIM) (alloc (.lst ys))
@[simp] noncomputable def dflt (f : Fun) (ds : List PV) : Fun := fun vs => f (vs ++ ds)
@[simp] noncomputable def start (n : Nat) (vs : List PV) : PSt := vs.map some ++ List.replicate (n - vs.length) none
noncomputable def fin (o : Fl) : M PV := match o with
    | .rt v => ret v
    | .nx _ => ret .non
    | _ => stuck
@[simp] theorem fin_rt (v : PV) : fin (.rt v) = ret v := rfl
@[simp] theorem fin_nx (σ : PSt) : fin (.nx σ) = ret .non := rfl
@[simp] noncomputable def fn (n p : Nat) (body : SD) : Fun := fun vs => guard (vs.length = p) (bnd (body (start n vs)) fin)
end
end Ws
namespace Ws
theorem pre_get {A B : PHp} {n : Nat} {o : PO} (h : A <+: B) (e : A[n]? = some o) : B[n]? = some o := by
  obtain ⟨t, rfl⟩ := h
  rw [List.getElem?_append_left (List.getElem?_eq_some_iff.mp e).1]; exact e
theorem pre_lt {A : PHp} {n : Nat} {o : PO} (e : A[n]? = some o) : n < A.length := (List.getElem?_eq_some_iff.mp e).1
theorem pre_set {A B : PHp} {n : Nat} {o : PO} (h : A <+: B) (e : A.length ≤ n) : A <+: B.set n o := by
  obtain ⟨t, rfl⟩ := h
  rw [List.set_append_right _ _ e]; exact List.prefix_append _ _
theorem pre_app {A B : PHp} {o : PO} (h : A <+: B) : A <+: B ++ [o] := h.trans (List.prefix_append _ _)
theorem pre_len {A B : PHp} (h : A <+: B) : A.length ≤ B.length := h.length_le
theorem get_app {A : PHp} {o : PO} : (A ++ [o])[A.length]? = some o := by simp
theorem get_app_of {A : PHp} {o p : PO} {n : Nat} (e : A[n]? = some p) : (A ++ [o])[n]? = some p := pre_get (List.prefix_append _ _) e
theorem get_set_ne {A : PHp} {o : PO} {n m : Nat} (h : m ≠ n) : (A.set n o)[m]? = A[m]? := by
  rw [List.getElem?_set]; simp [Ne.symm h]
theorem get_set {A : PHp} {o p : PO} {n : Nat} (h : A[n]? = some p) : (A.set n o)[n]? = some o := by
  rw [List.getElem?_set]; simp [pre_lt h]
noncomputable def Comes (r : R Fl) (P : PSt → PHp → Prop) (Q : PV → PHp → Prop) : Prop :=
  (∃ σ A, r = .ok (.nx σ) A ∧ P σ A) ∨ ∃ v A, r = .ok (.rt v) A ∧ Q v A
noncomputable def Turns (r : R Fl) (P : PSt → PHp → Prop) (Q : PV → PHp → Prop) : Prop :=
  (∃ σ A, (r = .ok (.nx σ) A ∨ r = .ok (.ct σ) A) ∧ P σ A) ∨ ∃ v A, r = .ok (.rt v) A ∧ Q v A
theorem turns_inv {J : It} {g : GD} {body : SD} {n : Nat} (P : Nat → PSt → PHp → Prop) (Q : PV → PHp → Prop)
    (hend : ∀ σ A, P n σ A → item J n A = .ok none A)
    (hs : ∀ i σ A, i < n → P i σ A → ∃ v, item J i A = .ok (some v) A ∧ Turns (bnd (g v σ) body A) (P (i + 1)) Q) :
    ∀ k i σ A, i + k = n → P i σ A → Comes (turns J g body (k + 1) i σ A) (P n) Q
  | 0, i, σ, A, e, h => by
    obtain rfl : i = n := by omega
    refine .inl ⟨σ, A, ?_, h⟩
    rw [turns_succ, bnd_ok (hend σ A h)]; rfl
  | k + 1, i, σ, A, e, h => by
    obtain ⟨v, hv, t⟩ := hs i σ A (by omega) h
    have key : turns J g body (k + 1 + 1) i σ A = bnd (bnd (g v σ) body) (fun o => match o with
      | .nx σ2 => turns J g body (k + 1) (i + 1) σ2
      | .ct σ2 => turns J g body (k + 1) (i + 1) σ2
      | .bk σ2 => ret (.nx σ2)
      | .rt v => ret (.rt v)) A := by
      rw [turns_succ, bnd_ok hv]
      show bnd (g v σ) _ A = _
      unfold bnd
      cases g v σ A <;> rfl
    rw [key]
    rcases t with ⟨σ2, A2, e2, h2⟩ | ⟨u, A2, e2, h2⟩
    · rcases e2 with e2 | e2 <;> (rw [bnd_ok e2]; exact turns_inv P Q hend hs k (i + 1) σ2 A2 (by omega) h2)
    · rw [bnd_ok e2]; exact .inr ⟨u, A2, rfl, h2⟩
theorem for_rng {it : ID} {g : GD} {body : SD} {lo : Int} {n : Nat} {σ : PSt} {A A1 : PHp} (hi : it σ A = .ok (.rng lo n) A1) (P : Nat → PSt → PHp → Prop) (Q : PV → PHp → Prop) (h0 : P 0 σ A1)
    (hs : ∀ (i : Nat) σ A, i < n → P i σ A → Turns (bnd (g (.int (lo + i)) σ) body A) (P (i + 1)) Q) : Comes (sFor it g body σ A) (P n) Q := by
  show Comes (bnd (it σ) _ A) _ _
  rw [bnd_ok hi]
  exact turns_inv (J := .rng lo n) P Q (fun σ A _ => by simp) (fun i σ A hi h => ⟨_, by simp [hi], hs i σ A hi h⟩) n 0 σ A1 (by omega) h0
theorem for_lst {it : ID} {g : GD} {body : SD} {a : Nat} {l : List PV} {σ : PSt} {A A1 : PHp} (hi : it σ A = .ok (.lst a) A1) (P : Nat → PSt → PHp → Prop) (Q : PV → PHp → Prop) (h0 : P 0 σ A1)
    (hl : ∀ i σ A, P i σ A → lstAt a A = .ok l A)
    (hs : ∀ (i : Nat) v σ A, l[i]? = some v → P i σ A → Turns (bnd (g v σ) body A) (P (i + 1)) Q) : Comes (sFor it g body σ A) (P l.length) Q := by
  show Comes (bnd (it σ) _ A) _ _
  rw [bnd_ok hi]
  show Comes (bnd (bnd (lstAt a) _) _ A1) _ _
  rw [bnd_ok (show bnd (lstAt a) (fun l => ret l.length) A1 = .ok l.length A1 by rw [bnd_ok (hl 0 σ A1 h0)]; rfl)]
  refine turns_inv (J := .lst a) P Q (fun σ A h => ?_) (fun i σ A hi h => ⟨l[i], ?_, hs i _ σ A (by simp [hi]) h⟩) l.length 0 σ A1 (by omega) h0
  · show bnd (lstAt a) _ A = _
    rw [bnd_ok (hl _ _ _ h)]; simp
  · show bnd (lstAt a) _ A = _
    rw [bnd_ok (hl _ _ _ h)]; simp [hi]
theorem for_enm {it : ID} {g : GD} {body : SD} {a : Nat} {l : List PV} {σ : PSt} {A A1 : PHp} (hi : it σ A = .ok (.enm a) A1) (P : Nat → PSt → PHp → Prop) (Q : PV → PHp → Prop) (h0 : P 0 σ A1)
    (hl : ∀ i σ A, P i σ A → lstAt a A = .ok l A)
    (hs : ∀ (i : Nat) v σ A, l[i]? = some v → P i σ A → Turns (bnd (g (.tup [.int i, v]) σ) body A) (P (i + 1)) Q) : Comes (sFor it g body σ A) (P l.length) Q := by
  show Comes (bnd (it σ) _ A) _ _
  rw [bnd_ok hi]
  show Comes (bnd (bnd (lstAt a) _) _ A1) _ _
  rw [bnd_ok (show bnd (lstAt a) (fun l => ret l.length) A1 = .ok l.length A1 by rw [bnd_ok (hl 0 σ A1 h0)]; rfl)]
  refine turns_inv (J := .enm a) P Q (fun σ A h => ?_) (fun i σ A hi h => ⟨.tup [.int i, l[i]], ?_, hs i _ σ A (by simp [hi]) h⟩) l.length 0 σ A1 (by omega) h0
  · show bnd (lstAt a) _ A = _
    rw [bnd_ok (hl _ _ _ h)]; simp
  · show bnd (lstAt a) _ A = _
    rw [bnd_ok (hl _ _ _ h)]; simp [hi]
theorem Comes.end {r : R Fl} {P : PSt → PHp → Prop} (h : Comes r P fun _ _ => False) : ∃ σ A, r = .ok (.nx σ) A ∧ P σ A := by
  rcases h with h | ⟨_, _, _, h⟩
  · exact h
  · exact h.elim
theorem Turns.nx {r : R Fl} {P : PSt → PHp → Prop} {Q : PV → PHp → Prop} {σ : PSt} {A : PHp} (e : r = .ok (.nx σ) A) (h : P σ A) : Turns r P Q := .inl ⟨σ, A, .inl e, h⟩
theorem Comes.turns {r : R Fl} {P : PSt → PHp → Prop} {Q : PV → PHp → Prop} (h : Comes r P Q) : Turns r P Q := by
  rcases h with ⟨σ, A, e, h⟩ | h
  · exact .inl ⟨σ, A, .inl e, h⟩
  · exact .inr h
theorem Comes.mono {r : R Fl} {P P' : PSt → PHp → Prop} {Q Q' : PV → PHp → Prop} (h : Comes r P Q) (hp : ∀ σ A, P σ A → P' σ A) (hq : ∀ v A, Q v A → Q' v A) : Comes r P' Q' := by
  rcases h with ⟨σ, A, e, h⟩ | ⟨v, A, e, h⟩
  · exact .inl ⟨σ, A, e, hp _ _ h⟩
  · exact .inr ⟨v, A, e, hq _ _ h⟩
theorem for_rng' {it : ID} {g : GD} {body : SD} {lo : Int} {n : Nat} {σ : PSt} {A A1 : PHp} {P' : PSt → PHp → Prop} {Q : PV → PHp → Prop} (hi : it σ A = .ok (.rng lo n) A1) (P : Nat → PSt → PHp → Prop) (h0 : P 0 σ A1)
    (hs : ∀ (i : Nat) σ A, i < n → P i σ A → Turns (bnd (g (.int (lo + i)) σ) body A) (P (i + 1)) Q) (hd : ∀ σ A, P n σ A → P' σ A) : Comes (sFor it g body σ A) P' Q :=
  (for_rng hi P Q h0 hs).mono hd fun _ _ h => h
theorem for_lst' {it : ID} {g : GD} {body : SD} {a : Nat} {l : List PV} {σ : PSt} {A A1 : PHp} {P' : PSt → PHp → Prop} {Q : PV → PHp → Prop} (hi : it σ A = .ok (.lst a) A1) (P : Nat → PSt → PHp → Prop) (h0 : P 0 σ A1)
    (hl : ∀ i σ A, P i σ A → lstAt a A = .ok l A)
    (hs : ∀ (i : Nat) v σ A, l[i]? = some v → P i σ A → Turns (bnd (g v σ) body A) (P (i + 1)) Q) (hd : ∀ σ A, P l.length σ A → P' σ A) : Comes (sFor it g body σ A) P' Q :=
  (for_lst hi P Q h0 hl hs).mono hd fun _ _ h => h
theorem cturns_of {J : It} {g : GD} {t : TD} {e : ED} {l : List PV} {S : PSt → Prop} {p : PV → Bool} {f : PV → PV} {A : PHp}
    (hit : ∀ i, item J i A = .ok l[i]? A)
    (h : ∀ v ∈ l, ∀ σ, S σ → ∃ σ1, g v σ A = .ok σ1 A ∧ S σ1 ∧ t σ1 A = .ok (p v) A ∧ (p v = true → e σ1 A = .ok (f v) A)) :
    ∀ k i σ, i + k = l.length → S σ → cturns J g t e (k + 1) i σ A = .ok (((l.drop i).filter p).map f) A
  | 0, i, σ, hk, hσ => by
    have : l.length ≤ i := by omega
    rw [cturns_succ, bnd_ok (hit i)]
    simp [List.drop_eq_nil_of_le this, this]
  | k + 1, i, σ, hk, hσ => by
    have hi : i < l.length := by omega
    obtain ⟨σ1, h1, h2, h3, h4⟩ := h l[i] (List.getElem_mem hi) σ hσ
    have ih := cturns_of hit h k (i + 1) σ1 (by omega) h2
    have ed : l.drop i = l[i] :: l.drop (i + 1) := List.drop_eq_getElem_cons hi
    rw [cturns_succ, bnd_ok (hit i), List.getElem?_eq_getElem hi]
    show bnd (g l[i] σ) _ A = _
    rw [bnd_ok h1, bnd_ok h3, ed]
    cases hp : p l[i] with
    | true =>
      rw [if_pos rfl, bnd_ok (h4 hp), bnd_ok ih, List.filter_cons_of_pos hp]
      rfl
    | false =>
      rw [if_neg (by simp), ih, List.filter_cons_of_neg (by simp [hp])]
theorem comp_lst {it : ID} {mk : PSt → PSt} {g : GD} {t : TD} {e : ED} {a : Nat} {l : List PV} {S : PSt → Prop} {p : PV → Bool} {f : PV → PV} {σ : PSt} {A A1 : PHp} (hi : it σ A = .ok (.lst a) A1) (hl : lstAt a A1 = .ok l A1) (hn : l.length ≤ LIM) (hσ : S (mk σ))
    (h : ∀ v ∈ l, ∀ σ, S σ → ∃ σ1, g v σ A1 = .ok σ1 A1 ∧ S σ1 ∧ t σ1 A1 = .ok (p v) A1 ∧ (p v = true → e σ1 A1 = .ok (f v) A1)) :
    eComp it mk g t e σ A = .ok (.ref A1.length) (A1 ++ [.lst ((l.filter p).map f)]) := by
  show bnd (it σ) _ A = _
  rw [bnd_ok hi]
  show bnd (bnd (lstAt a) _) _ A1 = _
  rw [bnd_ok (show bnd (lstAt a) (fun l => ret l.length) A1 = .ok l.length A1 by rw [bnd_ok hl]; rfl)]
  have c := cturns_of (J := .lst a) (g := g) (t := t) (e := e) (l := l) (S := S) (p := p) (f := f) (A := A1) (fun i => by show bnd (lstAt a) _ A1 = _; rw [bnd_ok hl]; rfl) h l.length 0 (mk σ) (by omega) hσ
  rw [bnd_ok c, List.drop_zero, guard_pos]
  · rfl
  · rw [List.length_map]; exact Nat.le_trans (List.length_filter_le _ _) hn
theorem comp_rng {it : ID} {mk : PSt → PSt} {g : GD} {t : TD} {e : ED} {lo : Int} {n : Nat} {S : PSt → Prop} {p : PV → Bool} {f : PV → PV} {σ : PSt} {A A1 : PHp} (hi : it σ A = .ok (.rng lo n) A1) (hn : n ≤ LIM) (hσ : S (mk σ))
    (h : ∀ (i : Nat), i < n → ∀ σ, S σ → ∃ σ1, g (.int (lo + i)) σ A1 = .ok σ1 A1 ∧ S σ1 ∧ t σ1 A1 = .ok (p (.int (lo + i))) A1 ∧ (p (.int (lo + i)) = true → e σ1 A1 = .ok (f (.int (lo + i))) A1)) :
    eComp it mk g t e σ A = .ok (.ref A1.length) (A1 ++ [.lst ((((List.range n).map fun (i : Nat) => PV.int (lo + i)).filter p).map f)]) := by
  show bnd (it σ) _ A = _
  rw [bnd_ok hi]
  show bnd (ret n) _ A1 = _
  rw [bnd_ok (show ret n A1 = .ok n A1 from rfl)]
  have c := cturns_of (J := .rng lo n) (g := g) (t := t) (e := e) (l := (List.range n).map fun (i : Nat) => PV.int (lo + i)) (S := S) (p := p) (f := f) (A := A1) (fun i => by
      by_cases hi : i < n <;> simp [hi]) (fun v hv => by
      obtain ⟨i, hi, rfl⟩ := List.mem_map.mp hv
      exact h i (List.mem_range.mp hi)) n 0 (mk σ) (by simp) hσ
  rw [bnd_ok c, List.drop_zero, guard_pos]
  · rfl
  · rw [List.length_map]; exact Nat.le_trans (List.length_filter_le _ _) (by simpa using hn)
theorem fn_rt {n p : Nat} {body : SD} {vs : List PV} {A A' : PHp} {v : PV} (hl : vs.length = p) (h : body (start n vs) A = .ok (.rt v) A') : fn n p body vs A = .ok v A' := by
  show guard (vs.length = p) (bnd (body (start n vs)) fin) A = _
  rw [guard_pos hl, bnd_ok h]; rfl
theorem seq_nx {a b : SD} {σ σ' : PSt} {A A' : PHp} (h : a σ A = .ok (.nx σ') A') : sSeq a b σ A = b σ' A' := by
  show bnd (a σ) _ A = _
  rw [bnd_ok h]
theorem seq_rt {a b : SD} {σ : PSt} {v : PV} {A A' : PHp} (h : a σ A = .ok (.rt v) A') : sSeq a b σ A = .ok (.rt v) A' := by
  show bnd (a σ) _ A = _
  rw [bnd_ok h]; rfl
theorem asg_ok {e : ED} {g : GD} {σ σ' : PSt} {A A' A'' : PHp} {v : PV} (h : e σ A = .ok v A') (hg : g v σ A' = .ok σ' A'') : sAsg e g σ A = .ok (.nx σ') A'' := by
  show bnd (e σ) _ A = _
  rw [bnd_ok h, bnd_ok hg]; rfl
theorem eLst_nil (A : PHp) (σ : PSt) : eLst aNil σ A = .ok (.ref A.length) (A ++ [.lst []]) := by
  simp
theorem if_t {t : TD} {a b : SD} {σ : PSt} {A A' : PHp} (h : t σ A = .ok true A') : sIf t a b σ A = a σ A' := by
  show bnd (t σ) _ A = _
  rw [bnd_ok h]; rfl
theorem if_f {t : TD} {a b : SD} {σ : PSt} {A A' : PHp} (h : t σ A = .ok false A') : sIf t a b σ A = b σ A' := by
  show bnd (t σ) _ A = _
  rw [bnd_ok h]; rfl
theorem iseq_ok {e : ED} {σ : PSt} {A A1 : PHp} {n : Nat} {l : List PV} (h : e σ A = .ok (.ref n) A1) (hl : lstAt n A1 = .ok l A1) : iSeq e σ A = .ok (.lst n) A1 := by
  show bnd (e σ) _ A = _
  rw [bnd_ok h]
  show bnd (lstAt n) _ A1 = _
  rw [bnd_ok hl]; rfl
theorem lstAt_lst {A : PHp} {n : Nat} {l : List PV} (h : A[n]? = some (.lst l)) : lstAt n A = .ok l A := by
  unfold lstAt; rw [h]
theorem lstAt_last {A : PHp} {l : List PV} : lstAt A.length (A ++ [.lst l]) = .ok l (A ++ [.lst l]) := lstAt_lst get_app
theorem mutAt_lst {A : PHp} {n : Nat} {l : List PV} (h : A[n]? = some (.lst l)) : mutAt n A = .ok l A := by
  unfold mutAt; rw [h]
mutual
theorem eqv_nice : ∀ x y : PV, nice x = true → (eqv x y = true ↔ x = y)
  | .non, y, _ => by cases y <;> simp [eqv]
  | .bl _, _, h => by simp [nice] at h
  | .int i, y, _ => by cases y <;> simp [eqv]
  | .str s, y, _ => by cases y <;> simp [eqv]
  | .tup l, y, h => by
    cases y with
    | tup m => simp only [eqv, PV.tup.injEq]; exact eqvs_nice l m (by simpa [nice] using h)
    | _ => simp [eqv]
  | .ref _, _, h => by simp [nice] at h
theorem eqvs_nice : ∀ l m : List PV, nices l = true → (eqvs l m = true ↔ l = m)
  | [], m, _ => by cases m <;> simp [eqvs]
  | x :: xs, m, h => by
    cases m with
    | nil => simp [eqvs]
    | cons y ys =>
      simp only [nices, Bool.and_eq_true] at h
      simp only [eqvs, Bool.and_eq_true, List.cons.injEq]
      rw [eqv_nice x y h.1, eqvs_nice xs ys h.2]
end
theorem nices_of {f : PV → Bool} (h : ∀ x, f x = true → nice x = true) : ∀ l : List PV, l.all f = true → nices l = true
  | [], _ => rfl
  | x :: xs, e => by
    rw [List.all_cons, Bool.and_eq_true] at e
    simp only [nices, Bool.and_eq_true]
    exact ⟨h x e.1, nices_of h xs e.2⟩
theorem nice0 (x : PV) (h : flat0 x = true) : nice x = true := by cases x <;> simp_all [flat0, nice]
theorem nice1 (x : PV) (h : flat1 x = true) : nice x = true := by
  cases x with
  | tup l => exact nices_of nice0 l h
  | _ => exact nice0 _ h
theorem nice2 (x : PV) (h : flat2 x = true) : nice x = true := by
  cases x with
  | tup l => exact nices_of nice1 l h
  | _ => exact nice0 _ h
theorem plain_nice (x : PV) (h : plain x = true) : nice x = true := by
  cases x with
  | tup l => exact nices_of nice2 l h
  | _ => exact nice0 _ h
theorem eqv_iff (x y : PV) (h : plain x = true) : eqv x y = true ↔ x = y := eqv_nice x y (plain_nice x h)
theorem eqvs_iff (l m : List PV) (h : plains l = true) : eqvs l m = true ↔ l = m := eqvs_nice l m (nices_of plain_nice l h)
theorem plains_iff (l : List PV) : plains l = true ↔ ∀ x ∈ l, plain x = true := List.all_eq_true
theorem plains_ints (ns : List Int) : plains (ns.map .int) = true := by
  rw [plains_iff]; intro x hx; obtain ⟨i, _, rfl⟩ := List.mem_map.mp hx; rfl
theorem insBy_perm {α : Type} (lt : α → α → Bool) (a : α) : ∀ l : List α, (insBy lt a l).Perm (a :: l)
  | [] => .refl _
  | b :: r => by
    unfold insBy
    split
    · exact ((insBy_perm lt a r).cons b).trans (.swap a b r)
    · exact .refl _
theorem sortBy_perm {α : Type} (lt : α → α → Bool) : ∀ l : List α, (sortBy lt l).Perm l
  | [] => .refl _
  | a :: r => (insBy_perm lt a _).trans ((sortBy_perm lt r).cons a)
theorem intsOf_map (ns : List Int) : intsOf (ns.map .int) = some ns := by
  induction ns with
  | nil => rfl
  | cons i r ih => simp [intsOf, ih]
theorem tupsOf_map : ∀ (ts : List (List Int)), (∀ t ∈ ts, t ≠ []) → tupsOf (ts.map fun t => PV.tup (t.map .int)) = some ts
  | [], _ => rfl
  | t :: r, h => by
    have ih := tupsOf_map r fun u hu => h u (List.mem_cons_of_mem _ hu)
    cases t with
    | nil => exact absurd rfl (h [] List.mem_cons_self)
    | cons x l =>
      have e := intsOf_map (x :: l)
      simp only [List.map_cons] at e
      simp only [List.map_cons, tupsOf, e, ih]
theorem pSorted_tups {ts : List (List Int)} {A : PHp} (h : ts.length < 64) (h0 : ∀ t ∈ ts, t ≠ []) : pSorted (ts.map fun t => PV.tup (t.map .int)) A = .ok ((sortBy lexLt ts).map fun t => PV.tup (t.map .int)) A := by
  unfold pSorted
  rw [List.length_map, guard_pos h]
  cases ts with
  | nil => rfl
  | cons t r =>
    have e : intsOf ((t :: r).map fun t => PV.tup (t.map .int)) = none := by simp [intsOf]
    rw [e, tupsOf_map _ h0]; rfl
theorem insBy_sorted {α : Type} {lt : α → α → Bool} (asym : ∀ a b, lt a b = true → lt b a = false) (tr : ∀ a b c, lt b a = false → lt c b = false → lt c a = false) (a : α) :
    ∀ l : List α, l.Pairwise (fun x y => lt y x = false) → (insBy lt a l).Pairwise (fun x y => lt y x = false)
  | [], _ => by simp [insBy]
  | b :: r, h => by
    rw [List.pairwise_cons] at h
    unfold insBy
    split
    · rename_i hb
      rw [List.pairwise_cons]
      refine ⟨fun c hc => ?_, insBy_sorted asym tr a r h.2⟩
      rcases List.mem_cons.mp ((insBy_perm lt a r).mem_iff.mp hc) with rfl | hc
      · exact asym _ _ hb
      · exact h.1 c hc
    · rename_i hb
      have hb' : lt b a = false := by simpa using hb
      rw [List.pairwise_cons]
      refine ⟨fun c hc => ?_, List.pairwise_cons.mpr h⟩
      rcases List.mem_cons.mp hc with rfl | hc
      · exact hb'
      · exact tr a b c hb' (h.1 c hc)
theorem sortBy_sorted {α : Type} {lt : α → α → Bool} (asym : ∀ a b, lt a b = true → lt b a = false) (tr : ∀ a b c, lt b a = false → lt c b = false → lt c a = false) :
    ∀ l : List α, (sortBy lt l).Pairwise (fun x y => lt y x = false)
  | [] => by simp [sortBy]
  | a :: r => insBy_sorted asym tr a _ (sortBy_sorted asym tr r)
theorem sortI_sorted (l : List Int) : (sortBy ltI l).Pairwise (· ≤ ·) := by
  refine (sortBy_sorted (lt := ltI) ?_ ?_ l).imp ?_
  · intro a b h; simp [ltI] at *; omega
  · intro a b c h1 h2; simp [ltI] at *; omega
  · intro a b h; simp [ltI] at h; exact h
theorem rise_uniq : ∀ {l m : List Int}, l.Perm m → l.Pairwise (· ≤ ·) → m.Pairwise (· ≤ ·) → l = m
  | [], m, h, _, _ => (List.nil_perm.mp h).symm
  | x :: l, [], h, _, _ => absurd h.length_eq (by simp)
  | x :: l, y :: m, h, h1, h2 => by
    rw [List.pairwise_cons] at h1 h2
    have e : x = y := by
      have a1 : x ∈ y :: m := h.mem_iff.mp List.mem_cons_self
      have a2 : y ∈ x :: l := h.mem_iff.mpr List.mem_cons_self
      rcases List.mem_cons.mp a1 with e | e
      · exact e
      · rcases List.mem_cons.mp a2 with e' | e'
        · exact e'.symm
        · have := h2.1 x e; have := h1.1 y e'; omega
    subst e
    rw [rise_uniq (List.perm_cons _ |>.mp h) h1.2 h2.2]
theorem sort_uniq {α : Type} {lt : α → α → Bool} (tot : ∀ a b, lt a b = false → lt b a = false → a = b) : ∀ {l m : List α}, l.Perm m → l.Pairwise (fun x y => lt y x = false) → m.Pairwise (fun x y => lt y x = false) → l = m
  | [], m, h, _, _ => (List.nil_perm.mp h).symm
  | x :: l, [], h, _, _ => absurd h.length_eq (by simp)
  | x :: l, y :: m, h, h1, h2 => by
    rw [List.pairwise_cons] at h1 h2
    have e : x = y := by
      have a1 : x ∈ y :: m := h.mem_iff.mp List.mem_cons_self
      have a2 : y ∈ x :: l := h.mem_iff.mpr List.mem_cons_self
      rcases List.mem_cons.mp a1 with e | e
      · exact e
      · rcases List.mem_cons.mp a2 with e' | e'
        · exact e'.symm
        · exact tot _ _ (h2.1 x e) (h1.1 y e') |>.symm ▸ rfl
    subst e
    rw [sort_uniq tot (List.perm_cons _ |>.mp h) h1.2 h2.2]
theorem lex_asym : ∀ a b : List Int, lexLt a b = true → lexLt b a = false
  | _, [], h => by simp [lexLt] at h
  | [], _ :: _, _ => rfl
  | x :: xs, y :: ys, h => by
    simp only [lexLt] at h ⊢
    by_cases e : x = y
    · subst e; simp only [if_true] at h ⊢; exact lex_asym xs ys h
    · rw [if_neg e] at h; rw [if_neg (Ne.symm e)]; simp at h ⊢; omega
theorem lex_tot : ∀ a b : List Int, lexLt a b = false → lexLt b a = false → a = b
  | [], [], _, _ => rfl
  | [], _ :: _, h, _ => by simp [lexLt] at h
  | _ :: _, [], _, h => by simp [lexLt] at h
  | x :: xs, y :: ys, h, h' => by
    simp only [lexLt] at h h'
    by_cases e : x = y
    · subst e; simp only [if_true] at h h'; rw [lex_tot xs ys h h']
    · rw [if_neg e] at h; rw [if_neg (Ne.symm e)] at h'; simp at h h'; omega
theorem lex_tr : ∀ a b c : List Int, lexLt b a = false → lexLt c b = false → lexLt c a = false
  | [], _, _, _, _ => by simp [lexLt]
  | _ :: _, [], _, h, _ => by simp [lexLt] at h
  | _ :: _, _ :: _, [], _, h => by simp [lexLt] at h
  | x :: xs, y :: ys, z :: zs, h, h' => by
    simp only [lexLt] at h h' ⊢
    by_cases e : y = x
    · subst e
      simp only [if_true] at h
      by_cases e2 : z = y
      · subst e2; simp only [if_true] at h' ⊢; exact lex_tr xs ys zs h h'
      · rw [if_neg e2] at h' ⊢; exact h'
    · rw [if_neg e] at h
      by_cases e2 : z = y
      · subst e2; rw [if_neg e]; exact h
      · rw [if_neg e2] at h'
        simp at h h'
        rw [if_neg (by omega)]; simp; omega
theorem lex_sorted (ts : List (List Int)) : (sortBy lexLt ts).Pairwise (fun x y => lexLt y x = false) := sortBy_sorted lex_asym lex_tr ts
end Ws
namespace Ws
@[simp] noncomputable def ePop (a : ED) : ED := fun σ => bnd (a σ) fun x => match x with
  | .ref n => bnd (mutAt n) fun l => match l[l.length - 1]? with
    | some y => bnd (put n (.lst l.dropLast)) fun _ => ret y
    | none => stuck
  | _ => stuck
@[simp] noncomputable def eClear (a : ED) : ED := fun σ => bnd (a σ) fun x => match x with
  | .ref n => bnd (mutAt n) fun _ => bnd (put n (.lst [])) fun _ => ret .non
  | _ => stuck
end Ws
namespace Ws
@[simp] noncomputable def dctAt (n : Nat) : M (List (Int × PV)) := fun A => match A[n]? with
  | some (.dI m) => .ok m A
  | _ => .no
noncomputable def valI : List (Int × PV) → Int → Option PV
  | [], _ => none
  | p :: r, k => if p.1 = k then some p.2 else valI r k
noncomputable def putI (kvs : List (Int × PV)) (k : Int) (x : PV) : List (Int × PV) :=
  if (kvs.any fun p => decide (p.1 = k)) = true then kvs.map (fun p => if p.1 = k then (p.1, x) else p) else kvs ++ [(k, x)]
@[simp] noncomputable def eDIn (y d : ED) : ED := fun σ => bnd (y σ) fun k => bnd (d σ) fun x => match k, x with
  | .int i, .ref n => bnd (dctAt n) fun m => ret (.bl (valI m i).isSome)
  | _, _ => stuck
@[simp] noncomputable def eDNotIn (y d : ED) : ED := fun σ => bnd (y σ) fun k => bnd (d σ) fun x => match k, x with
  | .int i, .ref n => bnd (dctAt n) fun m => ret (.bl (!(valI m i).isSome))
  | _, _ => stuck
@[simp] noncomputable def sDPut (d y e : ED) : SD := fun σ => bnd (e σ) fun v => bnd (d σ) fun x => bnd (y σ) fun k => match x, k with
  | .ref n, .int i => bnd (dctAt n) fun m => guard (m.length < LIM) (bnd (put n (.dI (putI m i v))) fun _ => ret (.nx σ))
  | _, _ => stuck
@[simp] noncomputable def eDGet (d y : ED) : ED := fun σ => bnd (d σ) fun x => bnd (y σ) fun k => match x, k with
  | .ref n, .int i => bnd (dctAt n) fun m => match valI m i with
    | some v => ret v
    | none => stuck
  | _, _ => stuck
@[simp] noncomputable def eDisp1 (y e : ED) : ED := fun σ => bnd (alloc (.dI [])) fun x => bnd (y σ) fun k => bnd (e σ) fun v => match x, k with
  | .ref n, .int i => bnd (dctAt n) fun m => match m with
    | [] => bnd (put n (.dI [(i, v)])) fun _ => ret x
    | _ => stuck
  | _, _ => stuck
@[simp] noncomputable def eDNew : ED := fun _ => alloc (.dI [])
@[simp] noncomputable def eDGet2 (d y e : ED) : ED := fun σ => bnd (d σ) fun x => match x with
  | .ref n => bnd (dctAt n) fun _ => bnd (y σ) fun k => bnd (e σ) fun v => match k with
    | .int i => bnd (dctAt n) fun m => ret ((valI m i).getD v)
    | _ => stuck
  | _ => stuck
@[simp] noncomputable def eSortedD (d : ED) : ED := fun σ => bnd (d σ) fun x => match x with
  | .ref n => bnd (dctAt n) fun m => guard (m.length < 64) (alloc (.lst ((sortBy ltI (m.map (·.1))).map PV.int)))
  | _ => stuck
@[simp] noncomputable def iRevRng (a : ED) : ID := fun σ => bnd (a σ) fun x => match x with
  | .int j => guard (-(2 ^ 62) ≤ j ∧ j < 2 ^ 62 ∧ j.toNat ≤ 2 ^ 24) (ret (.fix ((List.range j.toNat).map fun k => PV.int (k : Nat)).reverse))
  | _ => stuck
noncomputable def blsOf : List PV → Option (List Bool)
  | [] => some []
  | .bl b :: r => (blsOf r).map (b :: ·)
  | _ => none
@[simp] noncomputable def eAll (a : ED) : ED := fun σ => bnd (a σ) fun x => match x with
  | .ref n => bnd (lstAt n) fun l => match blsOf l with
    | some bs => ret (.bl (bs.all id))
    | none => stuck
  | _ => stuck
noncomputable def maxI (i : Int) : List Int → Int
  | [] => i
  | j :: r => maxI (if i < j then j else i) r
noncomputable def minI (i : Int) : List Int → Int
  | [] => i
  | j :: r => minI (if j < i then j else i) r
@[simp] noncomputable def eMaxD (a d : ED) : ED := fun σ => bnd (a σ) fun x => bnd (d σ) fun v => match x with
  | .ref n => bnd (lstAt n) fun l => match intsOf l with
    | some [] => ret v
    | some (i :: r) => ret (.int (maxI i r))
    | none => stuck
  | _ => stuck
@[simp] noncomputable def eMax (a : ED) : ED := fun σ => bnd (a σ) fun x => match x with
  | .ref n => bnd (lstAt n) fun l => match intsOf l with
    | some (i :: r) => ret (.int (maxI i r))
    | _ => stuck
  | _ => stuck
@[simp] noncomputable def eMin (a : ED) : ED := fun σ => bnd (a σ) fun x => match x with
  | .ref n => bnd (lstAt n) fun l => match intsOf l with
    | some (i :: r) => ret (.int (minI i r))
    | _ => stuck
  | _ => stuck
@[simp] noncomputable def eCount (a e : ED) : ED := fun σ => bnd (a σ) fun x => match x with
  | .ref n => bnd (mutAt n) fun _ => bnd (e σ) fun v => match v with
    | .int k => bnd (mutAt n) fun l => match intsOf l with
      | some ns => ret (.int (ns.count k))
      | none => stuck
    | _ => stuck
  | _ => stuck
@[simp] noncomputable def eInsert (a e : ED) : ED := fun σ => bnd (a σ) fun x => match x with
  | .ref n => bnd (mutAt n) fun _ => bnd (e σ) fun v => bnd (mutAt n) fun l => guard (l.length < LIM) (bnd (put n (.lst (v :: l))) fun _ => ret .non)
  | _ => stuck
noncomputable def idxI (k : Int) : List Int → Option Nat
  | [] => none
  | i :: r => if i = k then some 0 else (idxI k r).map (· + 1)
@[simp] noncomputable def eIndex1 (a e : ED) : ED := fun σ => bnd (a σ) fun x => match x with
  | .ref n => bnd (mutAt n) fun _ => bnd (e σ) fun v => match v with
    | .int k => bnd (mutAt n) fun l => match intsOf l with
      | some (i :: r) => match idxI k r with
        | some j => ret (.int (j + 1 : Nat))
        | none => stuck
      | _ => stuck
    | _ => stuck
  | _ => stuck
@[simp] noncomputable def eLenD (d : ED) : ED := fun σ => bnd (d σ) fun x => match x with
  | .ref n => bnd (dctAt n) fun m => ret (.int m.length)
  | _ => stuck
@[simp] noncomputable def eDGet1 (d y : ED) : ED := fun σ => bnd (d σ) fun x => match x with
  | .ref n => bnd (dctAt n) fun _ => bnd (y σ) fun k => match k with
    | .int i => bnd (dctAt n) fun m => ret ((valI m i).getD .non)
    | _ => stuck
  | _ => stuck
@[simp] noncomputable def ePop0 (a : ED) : ED := fun σ => bnd (a σ) fun x => match x with
  | .ref n => bnd (mutAt n) fun l => match l with
    | y :: r => bnd (put n (.lst r)) fun _ => ret y
    | [] => stuck
  | _ => stuck
@[simp] noncomputable def eLenSet (a : ED) : ED := fun σ => bnd (a σ) fun x => match x with
  | .ref n => bnd (mutAt n) fun l => match intsOf l with
    | some ns => guard (ns.Nodup ∧ ns.length < 1000) (ret (.int ns.length))
    | none => stuck
  | _ => stuck
@[simp] noncomputable def eTupleOf (a : ED) : ED := fun σ => bnd (a σ) fun x => match x with
  | .ref n => bnd (lstAt n) fun l => guard (l.length ≤ LIM) (ret (.tup l))
  | _ => stuck
@[simp] noncomputable def eExtend (a e : ED) : ED := fun σ => bnd (a σ) fun x => match x with
  | .ref n => bnd (mutAt n) fun _ => bnd (e σ) fun v => match v with
    | .ref k => bnd (mutAt n) fun l => bnd (mutAt k) fun m => guard (l.length + m.length ≤ LIM) (bnd (put n (.lst (l ++ m))) fun _ => ret .non)
    | _ => stuck
  | _ => stuck
noncomputable def subsOf : List Int → List (List Int)
  | [] => [[]]
  | a :: r => subsOf r ++ (subsOf r).map (a :: ·)
@[simp] noncomputable def eSortSet (a : ED) : ED := fun σ => bnd (a σ) fun x => match x with
  | .ref n => bnd (mutAt n) fun l => match intsOf l with
    | some ns => guard (ns ∈ subsOf [0, 1, 2, 3, 4, 5]) (alloc (.lst (ns.map PV.int)))
    | none => stuck
  | _ => stuck
end Ws
namespace Ws
noncomputable def metI (l : List Int) (a : Int) : List Int := if l.any (· == a) = true then l else l ++ [a]
noncomputable def cntI (ns : List Int) : Nat := (ns.foldl metI []).length
@[simp] noncomputable def eLenSet2 (a : ED) : ED := fun σ => bnd (a σ) fun x => bnd (seqOf x) fun l => match intsOf l with
  | some ns => guard (ns.length < 1000) (ret (.int (cntI ns)))
  | none => stuck
@[simp] noncomputable def iZip (a b : ED) : ID := fun σ => bnd (a σ) fun x => bnd (b σ) fun y => bnd (seqOf x) fun _ => bnd (seqOf y) fun _ => ret (.zip x y)
end Ws
namespace Ws
@[simp] noncomputable def eCut2 (a : ED) (lo hi : LD) : ED := fun σ => bnd (a σ) fun x => bnd (lo σ) fun l => bnd (hi σ) fun h => match x with
  | .ref n => bnd (lstAt n) fun xs => alloc (.lst (cut xs l h))
  | .tup xs => ret (.tup (cut xs l h))
  | _ => stuck
@[simp] noncomputable def eRevT (a : ED) : ED := fun σ => bnd (a σ) fun x => match x with
  | .tup xs => ret (.tup xs.reverse)
  | _ => stuck
@[simp] noncomputable def oAdd2 : OD
  | .int i, .int j => ret (.int (i + j))
  | .tup l, .tup m => guard (l.length + m.length ≤ LIM) (ret (.tup (l ++ m)))
  | .ref n, .ref k => bnd (mutAt n) fun l => bnd (mutAt k) fun m => guard (l.length + m.length ≤ LIM) (alloc (.lst (l ++ m)))
  | _, _ => stuck
@[simp] noncomputable def eIsF (a : ED) : ED := fun σ => bnd (a σ) fun x => match x with
  | .bl b => ret (.bl (!b))
  | _ => stuck
end Ws
namespace Ws
noncomputable section
@[simp] noncomputable def eMax2 (a b : ED) : ED := fun σ => bnd (a σ) fun x => bnd (b σ) fun y => match x, y with
  | .int i, .int j => ret (.int (if j > i then j else i))
  | _, _ => stuck
@[simp] noncomputable def oPow : OD := fun x y => match x, y with
  | .int i, .int j => guard (0 ≤ j ∧ j ≤ 1000 ∧ i.natAbs < 1000) (ret (.int (i ^ j.toNat)))
  | _, _ => stuck
end
end Ws
namespace Ws
noncomputable section
end
end Ws
namespace Ws
noncomputable section
end
end Ws
namespace Ws
noncomputable section
noncomputable def valT : List (List Int × PV) → List Int → Option PV
  | [], _ => none
  | p :: r, k => if p.1 = k then some p.2 else valT r k
noncomputable def putT (kvs : List (List Int × PV)) (k : List Int) (x : PV) : List (List Int × PV) :=
  if (kvs.any fun p => decide (p.1 = k)) = true then kvs.map (fun p => if p.1 = k then (p.1, x) else p) else kvs ++ [(k, x)]
noncomputable def oShr : OD
  | .int i, .int j => guard (0 ≤ j) (ret (.int (i / 2 ^ j.toNat)))
  | _, _ => stuck
noncomputable def oShl : OD
  | .int i, .int j => guard (0 ≤ j ∧ j ≤ 1000000 ∧ i.natAbs < 2 ^ 64) (ret (.int (i * 2 ^ j.toNat)))
  | _, _ => stuck
noncomputable def oAnd : OD
  | .int i, .int j => ret (.int (PySem.Builtin.bitAnd i j))
  | _, _ => stuck
noncomputable def eListRng (a : ED) : ED := fun σ => bnd (a σ) fun x => match x with
  | .int j => guard (-(2 ^ 62) ≤ j ∧ j < 2 ^ 62 ∧ j.toNat ≤ 2 ^ 24) (alloc (.lst ((List.range j.toNat).map fun k => PV.int (k : Nat))))
  | _ => stuck
noncomputable def ePopI (a y : ED) : ED := fun σ => bnd (a σ) fun x => match x with
  | .ref n => bnd (mutAt n) fun _ => bnd (y σ) fun k => match k with
    | .int i => bnd (mutAt n) fun l => match ixN l.length i with
      | some j => match l[j]? with
        | some v => guard (-(2 ^ 63) ≤ i ∧ i < 2 ^ 63) (bnd (put n (.lst (l.eraseIdx j))) fun _ => ret v)
        | none => stuck
      | none => stuck
    | _ => stuck
  | _ => stuck
noncomputable def prsOf : List PV → Option (List (Int × PV))
  | [] => some []
  | .tup [.int i, v] :: r => (prsOf r).map ((i, v) :: ·)
  | _ => none
noncomputable def eDictOf (a : ED) : ED := fun σ => bnd (a σ) fun x => match x with
  | .ref n => bnd (mutAt n) fun l => match prsOf l with
    | some m => guard (m.length < LIM) (alloc (.dI (m.foldl (fun acc p => putI acc p.1 p.2) [])))
    | none => stuck
  | _ => stuck
noncomputable def eMaxV (a : ED) : ED := fun σ => bnd (a σ) fun x => match x with
  | .ref n => bnd (dctAt n) fun m => match intsOf (m.map (·.2)) with
    | some (i :: r) => ret (.int (maxI i r))
    | _ => stuck
  | _ => stuck
noncomputable def oLtL : OD
  | .tup [.int i, .ref n], .tup [.int j, .ref k] => bnd (mutAt n) fun l => bnd (mutAt k) fun m => match intsOf l, intsOf m with
    | some a, some b => ret (.bl (if i = j then lexLt a b else decide (i < j)))
    | _, _ => stuck
  | _, _ => stuck
end
end Ws
namespace Ws
open PySem
mutual
inductive RV (ρ : List Addr) (H : L2.Hp) : PV → L2.V → Prop
  | non : RV ρ H .non .non
  | bl (b : Bool) : RV ρ H (.bl b) (.bl b)
  | int (i : Int) : RV ρ H (.int i) (.int i)
  | str (x : Str) : RV ρ H (.str x) (.str x)
  | tup {l : List PV} {a : Addr} {vs : List L2.V} (h : H a = some (.tup vs)) (r : RVs ρ H l vs) : RV ρ H (.tup l) (.ref a)
  | ref {n : Nat} {a : Addr} (h : ρ[n]? = some a) : RV ρ H (.ref n) (.ref a)
inductive RVs (ρ : List Addr) (H : L2.Hp) : List PV → List L2.V → Prop
  | nil : RVs ρ H [] []
  | cons {x : PV} {v : L2.V} {l : List PV} {vs : List L2.V} (h : RV ρ H x v) (r : RVs ρ H l vs) : RVs ρ H (x :: l) (v :: vs)
end
structure Ext (ρ : List Addr) (H : L2.Hp) (ρ' : List Addr) (H' : L2.Hp) : Prop where
  pre : ρ <+: ρ'
  tup : ∀ a vs, H a = some (.tup vs) → H' a = some (.tup vs)
  xd : ∀ a fs, H a = some (.xd fs) → H' a = some (.xd fs)
theorem Ext.refl (ρ : List Addr) (H : L2.Hp) : Ext ρ H ρ H := ⟨List.prefix_refl _, fun _ _ h => h, fun _ _ h => h⟩
theorem Ext.trans {ρ ρ1 ρ2 : List Addr} {H H1 H2 : L2.Hp} (a : Ext ρ H ρ1 H1) (b : Ext ρ1 H1 ρ2 H2) : Ext ρ H ρ2 H2 := ⟨a.pre.trans b.pre, fun c vs h => b.tup c vs (a.tup c vs h), fun c vs h => b.xd c vs (a.xd c vs h)⟩
theorem pre_at {ρ ρ' : List Addr} {n : Nat} {a : Addr} (h : ρ <+: ρ') (e : ρ[n]? = some a) : ρ'[n]? = some a := by
  obtain ⟨t, rfl⟩ := h
  rw [List.getElem?_append_left (List.getElem?_eq_some_iff.mp e).1]; exact e
section
variable {ρ ρ' : List Addr} {H H' : L2.Hp}
mutual
theorem RV.mono (e : Ext ρ H ρ' H') : ∀ {x : PV} {v : L2.V}, RV ρ H x v → RV ρ' H' x v
  | _, _, .non => .non
  | _, _, .bl b => .bl b
  | _, _, .int i => .int i
  | _, _, .str x => .str x
  | _, _, .tup h r => .tup (e.tup _ _ h) (RVs.mono e r)
  | _, _, .ref h => .ref (pre_at e.pre h)
theorem RVs.mono (e : Ext ρ H ρ' H') : ∀ {l : List PV} {vs : List L2.V}, RVs ρ H l vs → RVs ρ' H' l vs
  | _, _, .nil => .nil
  | _, _, .cons h r => .cons (RV.mono e h) (RVs.mono e r)
end
theorem RVs.length : ∀ {l : List PV} {vs : List L2.V}, RVs ρ H l vs → l.length = vs.length
  | _, _, .nil => rfl
  | _, _, .cons _ r => by simp [RVs.length r]
theorem RVs.get : ∀ {l : List PV} {vs : List L2.V} {i : Nat} {x : PV}, RVs ρ H l vs → l[i]? = some x → ∃ v, vs[i]? = some v ∧ RV ρ H x v
  | _, _, _, _, .nil, e => by simp at e
  | _, _, 0, _, .cons h _, e => by simp at e; subst e; exact ⟨_, rfl, h⟩
  | _, _, i + 1, _, .cons _ r, e => by
    obtain ⟨v, h1, h2⟩ := RVs.get (i := i) r (by simpa using e)
    exact ⟨v, by simpa using h1, h2⟩
theorem RVs.get' : ∀ {l : List PV} {vs : List L2.V} {i : Nat} {v : L2.V}, RVs ρ H l vs → vs[i]? = some v → ∃ x, l[i]? = some x ∧ RV ρ H x v
  | _, _, _, _, .nil, e => by simp at e
  | _, _, 0, _, .cons h _, e => by simp at e; subst e; exact ⟨_, rfl, h⟩
  | _, _, i + 1, _, .cons _ r, e => by
    obtain ⟨x, h1, h2⟩ := RVs.get' (i := i) r (by simpa using e)
    exact ⟨x, by simpa using h1, h2⟩
theorem RVs.append : ∀ {l m : List PV} {vs ws : List L2.V}, RVs ρ H l vs → RVs ρ H m ws → RVs ρ H (l ++ m) (vs ++ ws)
  | _, _, _, _, .nil, s => s
  | _, _, _, _, .cons h r, s => .cons h (RVs.append r s)
theorem RVs.take : ∀ {l : List PV} {vs : List L2.V} (n : Nat), RVs ρ H l vs → RVs ρ H (l.take n) (vs.take n)
  | _, _, 0, _ => by simpa using .nil
  | _, _, _ + 1, .nil => .nil
  | _, _, n + 1, .cons h r => .cons h (RVs.take n r)
theorem RVs.drop : ∀ {l : List PV} {vs : List L2.V} (n : Nat), RVs ρ H l vs → RVs ρ H (l.drop n) (vs.drop n)
  | _, _, 0, r => r
  | _, _, _ + 1, .nil => .nil
  | _, _, n + 1, .cons _ r => RVs.drop n r
theorem RVs.ints (ns : List Int) : RVs ρ H (ns.map .int) (ns.map .int) := by
  induction ns with
  | nil => exact .nil
  | cons i r ih => exact .cons (.int i) ih
end
noncomputable def fnm (i : Nat) : Str := (["number", "passings", "at", "web", "leaders", "limits", "plan", "free", "ledger", "kept_leaders", "kept_limits", "kept_free", "now", "turns_of_lays", "sayings", "first_turns", "does", "me", "open_boxes"] : List Str).getD i "?"
noncomputable def Fz (K : PySem.W.Frag) (H : L2.Hp) (a : Addr) (xs : List L2.V) : Prop :=
  (∃ o, H a = some (.frz o (.lst xs))) ∨ ∃ (o : Obj) (its : Array Value) (n : Nat), K.lookup a = some o ∧ o.cls = .type "list" ∧ o.dict = none ∧ o.data = .seq its n ∧ its.size ≤ sizeLine ∧ L2.Vals xs its.toList
theorem Fz.sq {K : PySem.W.Frag} {H : L2.Hp} {a : Addr} {xs : List L2.V} (h : Fz K H a xs) : L2.SqL K H a xs := by
  rcases h with ⟨o, h⟩ | h
  · exact .inl (.inr ⟨o, h⟩)
  · exact .inr h
noncomputable def isMut : PO → Bool
  | .ro _ => false
  | _ => true
structure Pairs {κ κ' : Type} (f : κ → κ') (ρ : List Addr) (H : L2.Hp) (kvs : List (κ × PV)) (kv : List (κ' × L2.V)) : Prop where
  keys : kv.map (·.1) = kvs.map fun p => f p.1
  vals : RVs ρ H (kvs.map (·.2)) (kv.map (·.2))
theorem Pairs.mono {κ κ' : Type} {f : κ → κ'} {ρ ρ' : List Addr} {H H' : L2.Hp} {kvs : List (κ × PV)} {kv : List (κ' × L2.V)} (h : Pairs f ρ H kvs kv) (e : Ext ρ H ρ' H') : Pairs f ρ' H' kvs kv := ⟨h.keys, h.vals.mono e⟩
section
variable (K : PySem.W.Frag) (cm : Nat → Addr)
noncomputable def RO (ρ : List Addr) (H : L2.Hp) (a : Addr) : PO → Prop
  | .lst l => ∃ xs, H a = some (.lst xs) ∧ RVs ρ H l xs
  | .ro l => ∃ xs, Fz K H a xs ∧ RVs ρ H l xs
  | .dI kvs => ∃ kv, H a = some (.dK kv) ∧ Pairs (Sum.inl : Int → L2.Key) ρ H kvs kv
  | .ins c fs => (c < 7 ∧ ∀ p ∈ fs, p.1 < 19) ∧ ∃ dx kv, H a = some (.ins (cm c) dx kv) ∧ Pairs fnm ρ H fs kv
  | .dT kvs => ∃ kv, H a = some (.dT kv) ∧ Pairs (List.map Sum.inl : List Int → List L2.Key) ρ H kvs kv
  | .exc c v => ∃ o d v', H a = some (.frz o (.own a)) ∧ o.cls = .ref (cm c) ∧ o.dict = some d ∧ (∃ vs, o.data = .fields vs) ∧ H d = some (.xd [("at", v')]) ∧ RV ρ H v v'
structure Rel (ρ : List Addr) (A : PHp) (H : L2.Hp) : Prop where
  len : ρ.length = A.length
  obj : ∀ (n : Nat) (o : PO) (a : Addr), A[n]? = some o → ρ[n]? = some a → RO K cm ρ H a o
  inj : ∀ (m n : Nat) (a : Addr) (o p : PO), ρ[m]? = some a → ρ[n]? = some a → A[m]? = some o → A[n]? = some p → isMut o = true → isMut p = true → m = n
end
section
variable {K : PySem.W.Frag} {cm : Nat → Addr} {ρ ρ' : List Addr} {H H' : L2.Hp} {A : PHp} {a p : Addr} {o : PO} {n : Nat}
theorem RO.keep (r : RO K cm ρ H a o) (e : Ext ρ H ρ' H') (hk : ∀ u, H a = some u → H' a = some u) : RO K cm ρ' H' a o := by
  cases o with
  | lst l => obtain ⟨xs, h, q⟩ := r; exact ⟨xs, hk _ h, q.mono e⟩
  | ro l =>
    obtain ⟨xs, h, q⟩ := r
    rcases h with ⟨u, h⟩ | h
    · exact ⟨xs, .inl ⟨u, hk _ h⟩, q.mono e⟩
    · exact ⟨xs, .inr h, q.mono e⟩
  | dI kvs => obtain ⟨kv, h, q⟩ := r; exact ⟨kv, hk _ h, q.mono e⟩
  | ins c fs => obtain ⟨hs, dx, kv, h, q⟩ := r; exact ⟨hs, dx, kv, hk _ h, q.mono e⟩
  | dT kvs => obtain ⟨kv, h, q⟩ := r; exact ⟨kv, hk _ h, q.mono e⟩
  | exc c v => obtain ⟨o, d, v', h, h1, h2, h3, h4, q⟩ := r; exact ⟨o, d, v', hk _ h, h1, h2, h3, e.xd _ _ h4, q.mono e⟩
theorem RO.some (r : RO K cm ρ H a o) (m : isMut o = true) : ∃ u, H a = some u := by
  cases o with
  | lst l => obtain ⟨xs, h, q⟩ := r; exact ⟨_, h⟩
  | ro l => simp [isMut] at m
  | dI kvs => obtain ⟨kv, h, q⟩ := r; exact ⟨_, h⟩
  | ins c fs => obtain ⟨_, dx, kv, h, q⟩ := r; exact ⟨_, h⟩
  | dT kvs => obtain ⟨kv, h, q⟩ := r; exact ⟨_, h⟩
  | exc c v => obtain ⟨o, d, v', h, q⟩ := r; exact ⟨_, h⟩
theorem keep_new {u : L2.HO} (hp : H p = none) : ∀ b v, H b = some v → L2.upd H p u b = some v := fun b v h => by
  rw [L2.upd_ne (L2.ne_of_none h hp)]; exact h
theorem Ext.same {u : L2.HO} (hp : H p = none) : Ext ρ H ρ (L2.upd H p u) := ⟨List.prefix_refl _, fun a vs h => keep_new hp a _ h, fun a vs h => keep_new hp a _ h⟩
theorem Ext.new {u : L2.HO} (hp : H p = none) : Ext ρ H (ρ ++ [p]) (L2.upd H p u) := ⟨List.prefix_append _ _, fun a vs h => keep_new hp a _ h, fun a vs h => keep_new hp a _ h⟩
theorem Rel.grow (r : Rel K cm ρ A H) (e : Ext ρ H ρ H') (hk : ∀ b v, H b = some v → H' b = some v) : Rel K cm ρ A H' :=
  ⟨r.len, fun n o a h1 h2 => (r.obj n o a h1 h2).keep e (hk a), r.inj⟩
theorem Rel.tup {vs : List L2.V} (r : Rel K cm ρ A H) (hp : H p = none) : Rel K cm ρ A (L2.upd H p (.tup vs)) := r.grow (Ext.same hp) (keep_new hp)
theorem Rel.alloc {u : L2.HO} (r : Rel K cm ρ A H) (hp : H p = none) (hn : RO K cm (ρ ++ [p]) (L2.upd H p u) p o) (hm : isMut o = true) : Rel K cm (ρ ++ [p]) (A ++ [o]) (L2.upd H p u) := by
  have e : Ext ρ H (ρ ++ [p]) (L2.upd H p u) := Ext.new hp
  have none_new : ∀ (n : Nat) (q : PO), ρ[n]? = some p → A[n]? = some q → isMut q = true → False := fun n q h1 h2 hq => by
    obtain ⟨v, hv⟩ := (r.obj n q p h2 h1).some hq
    rw [hp] at hv; cases hv
  have split : ∀ {α : Type} {l : List α} {x y : α} {n : Nat}, (l ++ [x])[n]? = some y → l[n]? = some y ∨ (n = l.length ∧ y = x) := fun {α l x y n} h => by
    by_cases hn : n < l.length
    · rw [List.getElem?_append_left hn] at h; exact .inl h
    · rw [List.getElem?_append_right (by omega)] at h
      have : n - l.length = 0 := by
        by_cases z : n - l.length = 0
        · exact z
        · rw [List.getElem?_eq_none (by simp; omega)] at h; cases h
      rw [this] at h
      simp at h
      exact .inr ⟨by omega, h.symm⟩
  refine ⟨by simp [r.len], fun n q a h1 h2 => ?_, fun m n a q q' h1 h2 h3 h4 m1 m2 => ?_⟩
  · rcases split h1 with h1 | ⟨rfl, rfl⟩
    · rcases split h2 with h2 | ⟨rfl, rfl⟩
      · exact (r.obj n q a h1 h2).keep e (keep_new hp a)
      · rw [r.len, List.getElem?_eq_none (Nat.le_refl _)] at h1; cases h1
    · rcases split h2 with h2 | ⟨_, rfl⟩
      · rw [← r.len, List.getElem?_eq_none (Nat.le_refl _)] at h2; cases h2
      · exact hn
  · rcases split h1 with g1 | ⟨rfl, ha1⟩ <;> rcases split h2 with g2 | ⟨rfl, ha2⟩
    · have h3' : A[m]? = some q := by
        rcases split h3 with h3 | ⟨rfl, _⟩
        · exact h3
        · rw [← r.len, List.getElem?_eq_none (Nat.le_refl _)] at g1; cases g1
      have h4' : A[n]? = some q' := by
        rcases split h4 with h4 | ⟨rfl, _⟩
        · exact h4
        · rw [← r.len, List.getElem?_eq_none (Nat.le_refl _)] at g2; cases g2
      exact r.inj m n a q q' g1 g2 h3' h4' m1 m2
    · have h3' : A[m]? = some q := by
        rcases split h3 with h3 | ⟨rfl, _⟩
        · exact h3
        · rw [← r.len, List.getElem?_eq_none (Nat.le_refl _)] at g1; cases g1
      rw [ha2] at g1
      exact (none_new m q g1 h3' m1).elim
    · have h4' : A[n]? = some q' := by
        rcases split h4 with h4 | ⟨rfl, _⟩
        · exact h4
        · rw [← r.len, List.getElem?_eq_none (Nat.le_refl _)] at g2; cases g2
      rw [ha1] at g2
      exact (none_new n q' g2 h4' m2).elim
    · rfl
theorem Ext.put {u : L2.HO} (r : Rel K cm ρ A H) (h1 : ρ[n]? = some a) (h2 : A[n]? = some o) (m : isMut o = true) : Ext ρ H ρ (L2.upd H a u) := by
  have key : ∀ b w, H b = some w → ((∃ vs, w = .tup vs) ∨ ∃ fs, w = .xd fs) → L2.upd H a u b = some w := fun b w h hw => by
    have ne : b ≠ a := by
      rintro rfl
      have q := r.obj n o b h2 h1
      cases o with
      | lst l => obtain ⟨xs, z, _⟩ := q; rw [h] at z; cases z; rcases hw with ⟨_, y⟩ | ⟨_, y⟩ <;> cases y
      | ro l => simp [isMut] at m
      | dI kvs => obtain ⟨xs, z, _⟩ := q; rw [h] at z; cases z; rcases hw with ⟨_, y⟩ | ⟨_, y⟩ <;> cases y
      | ins c fs => obtain ⟨_, dx, xs, z, _⟩ := q; rw [h] at z; cases z; rcases hw with ⟨_, y⟩ | ⟨_, y⟩ <;> cases y
      | dT kvs => obtain ⟨xs, z, _⟩ := q; rw [h] at z; cases z; rcases hw with ⟨_, y⟩ | ⟨_, y⟩ <;> cases y
      | exc c v => obtain ⟨o, d, v', z, _⟩ := q; rw [h] at z; cases z; rcases hw with ⟨_, y⟩ | ⟨_, y⟩ <;> cases y
    rw [L2.upd_ne ne]; exact h
  exact ⟨List.prefix_refl _, fun b vs h => key b _ h (.inl ⟨_, rfl⟩), fun b vs h => key b _ h (.inr ⟨_, rfl⟩)⟩
theorem Rel.put {u : L2.HO} {o' : PO} (r : Rel K cm ρ A H) (h1 : ρ[n]? = some a) (h2 : A[n]? = some o) (m : isMut o = true) (m' : isMut o' = true) (hn : RO K cm ρ (L2.upd H a u) a o') : Rel K cm ρ (A.set n o') (L2.upd H a u) := by
  have e : Ext ρ H ρ (L2.upd H a u) := Ext.put r h1 h2 m
  have hlt := pre_lt h2
  refine ⟨by simp [r.len], fun k q b hk hb => ?_, fun i j b q q' e1 e2 e3 e4 m1 m2 => ?_⟩
  · by_cases hkn : k = n
    · subst hkn
      rw [get_set h2] at hk; cases hk
      rw [h1] at hb; cases hb
      exact hn
    · rw [get_set_ne hkn] at hk
      have q0 := r.obj k q b hk hb
      by_cases hba : b = a
      · subst hba
        cases hq : isMut q with
        | true => exact absurd (r.inj k n b q o hb h1 hk h2 hq m) hkn
        | false =>
          cases q with
          | ro l =>
            obtain ⟨xs, z, w⟩ := q0
            rcases z with ⟨v, z⟩ | z
            · obtain ⟨v', z'⟩ := (r.obj n o b h2 h1).some m
              have := r.obj n o b h2 h1
              rw [z] at z'; cases z'
              cases o with
              | lst l => obtain ⟨xs, zz, _⟩ := this; rw [z] at zz; cases zz
              | ro l => simp [isMut] at m
              | dI kvs => obtain ⟨xs, zz, _⟩ := this; rw [z] at zz; cases zz
              | ins c fs => obtain ⟨_, dx, xs, zz, _⟩ := this; rw [z] at zz; cases zz
              | dT kvs => obtain ⟨xs, zz, _⟩ := this; rw [z] at zz; cases zz
              | exc c v => obtain ⟨o, d, v', zz, _⟩ := this; rw [z] at zz; cases zz
            · exact ⟨xs, .inr z, w.mono e⟩
          | _ => simp [isMut] at hq
      · exact q0.keep e fun v hv => by rw [L2.upd_ne hba]; exact hv
  · have f3 : ∀ (k : Nat) (x : PO), (A.set n o')[k]? = some x → isMut x = true → ∃ y, A[k]? = some y ∧ isMut y = true := fun k x hk hx => by
      by_cases hkn : k = n
      · subst hkn; exact ⟨o, h2, m⟩
      · rw [get_set_ne hkn] at hk; exact ⟨x, hk, hx⟩
    obtain ⟨y, y1, y2⟩ := f3 i q e3 m1
    obtain ⟨z, z1, z2⟩ := f3 j q' e4 m2
    exact r.inj i j b y z e1 e2 y1 z1 y2 z2
end
end Ws
namespace Ws
open PySem
structure RSt (ρ : List Addr) (H : L2.Hp) (σp : PSt) (σ : L2.St) : Prop where
  len : σ.length = σp.length
  get : ∀ (i : Nat) (p : PV), σp[i]? = some (some p) → ∃ v, σ[i]? = some (some v) ∧ RV ρ H p v
theorem RSt.mono {ρ ρ' : List Addr} {H H' : L2.Hp} {σp : PSt} {σ : L2.St} (h : RSt ρ H σp σ) (e : Ext ρ H ρ' H') : RSt ρ' H' σp σ :=
  ⟨h.len, fun i p hp => let ⟨v, h1, h2⟩ := h.get i p hp; ⟨v, h1, h2.mono e⟩⟩
theorem RSt.set {ρ : List Addr} {H : L2.Hp} {σp : PSt} {σ : L2.St} (h : RSt ρ H σp σ) (i : Nat) {x : PV} {v : L2.V} (r : RV ρ H x v) : RSt ρ H (σp.set i (some x)) (σ.set i (some v)) := by
  refine ⟨by simp [h.len], fun j p hp => ?_⟩
  by_cases hij : i = j
  · subst hij
    by_cases hl : i < σp.length
    · rw [List.getElem?_set] at hp
      simp [hl] at hp
      subst hp
      exact ⟨v, by rw [List.getElem?_set]; simp [h.len, hl], r⟩
    · rw [List.getElem?_eq_none (by simp; omega)] at hp; cases hp
  · rw [List.getElem?_set_ne hij] at hp ⊢
    exact h.get j p hp
section
variable (K : PySem.W.Frag) (cm : Nat → Addr)
noncomputable def EvE (d : ED) : L2.TE := fun σ H Q => ∃ (ρ : List Addr) (A : PHp) (σp : PSt) (v : PV) (A' : PHp), Rel K cm ρ A H ∧ RSt ρ H σp σ ∧ d σp A = .ok v A' ∧
  ∀ ρ' H' v', Ext ρ H ρ' H' → Rel K cm ρ' A' H' → RV ρ' H' v v' → Q v' H'
noncomputable def EvT (d : TD) : L2.TT := fun σ H Q => ∃ (ρ : List Addr) (A : PHp) (σp : PSt) (b : Bool) (A' : PHp), Rel K cm ρ A H ∧ RSt ρ H σp σ ∧ d σp A = .ok b A' ∧
  ∀ ρ' H', Ext ρ H ρ' H' → Rel K cm ρ' A' H' → Q b H'
noncomputable def EvA (d : AD) : L2.TA := fun σ H Q => ∃ (ρ : List Addr) (A : PHp) (σp : PSt) (vs : List PV) (A' : PHp), Rel K cm ρ A H ∧ RSt ρ H σp σ ∧ d σp A = .ok vs A' ∧
  ∀ ρ' H' vs', Ext ρ H ρ' H' → Rel K cm ρ' A' H' → RVs ρ' H' vs vs' → Q vs' H'
noncomputable def EvG (g : GD) : L2.TG := fun v σ H Q => ∃ (ρ : List Addr) (A : PHp) (σp : PSt) (x : PV) (σp' : PSt) (A' : PHp), Rel K cm ρ A H ∧ RSt ρ H σp σ ∧ RV ρ H x v ∧ g x σp A = .ok σp' A' ∧
  ∀ ρ' H' σ', Ext ρ H ρ' H' → Rel K cm ρ' A' H' → RSt ρ' H' σp' σ' → Q σ' H'
noncomputable def EvGs (g : GDs) : L2.TGs := fun vs σ H Q => ∃ (ρ : List Addr) (A : PHp) (σp : PSt) (xs : List PV) (σp' : PSt) (A' : PHp), Rel K cm ρ A H ∧ RSt ρ H σp σ ∧ RVs ρ H xs vs ∧ g xs σp A = .ok σp' A' ∧
  ∀ ρ' H' σ', Ext ρ H ρ' H' → Rel K cm ρ' A' H' → RSt ρ' H' σp' σ' → Q σ' H'
noncomputable def Post (D : L2.Ends) (ρ : List Addr) (H : L2.Hp) : Fl → Prop
  | .nx σp => ∀ σ, RSt ρ H σp σ → D.nx σ H
  | .bk σp => ∀ σ, RSt ρ H σp σ → D.bk σ H
  | .ct σp => ∀ σ, RSt ρ H σp σ → D.ct σ H
  | .rt v => ∀ v', RV ρ H v v' → D.rt v' H
noncomputable def EvS (s : SD) : L2.TS := fun D σ H => ∃ (ρ : List Addr) (A : PHp) (σp : PSt) (f : Fl) (A' : PHp), Rel K cm ρ A H ∧ RSt ρ H σp σ ∧ s σp A = .ok f A' ∧
  ∀ ρ' H', Ext ρ H ρ' H' → Rel K cm ρ' A' H' → Post D ρ' H' f
end
section
variable {X : L2.Cx} {cm : Nat → Addr}
theorem PE_imp {e : Expr} {t t' : L2.TE} (h : L2.PE X e t) (k : ∀ σ H Q, t' σ H Q → t σ H Q) : L2.PE X e t' := fun pins s σ H Q I q => h pins s σ H Q I (k σ H Q q)
theorem PT_imp {e : Expr} {t t' : L2.TT} (h : L2.PT X e t) (k : ∀ σ H Q, t' σ H Q → t σ H Q) : L2.PT X e t' := fun pins s σ H Q I q => h pins s σ H Q I (k σ H Q q)
theorem PW_imp {e : Expr} {t t' : L2.TT} (h : L2.PW X e t) (k : ∀ σ H Q, t' σ H Q → t σ H Q) : L2.PW X e t' := fun w pins s σ H Q I q => h w pins s σ H Q I (k σ H Q q)
theorem PA_imp {es : List Expr} {t t' : L2.TA} (h : L2.PA X es t) (k : ∀ σ H Q, t' σ H Q → t σ H Q) : L2.PA X es t' := fun pos pins s σ H Q I q => h pos pins s σ H Q I (k σ H Q q)
theorem PS_imp {st : Stmt} {t t' : L2.TS} (h : L2.PS X st t) (k : ∀ D σ H, t' D σ H → t D σ H) : L2.PS X st t' := fun pins s σ H D I q => h pins s σ H D I (k D σ H q)
theorem PSs_imp {st : List Stmt} {t t' : L2.TS} (h : L2.PSs X st t) (k : ∀ D σ H, t' D σ H → t D σ H) : L2.PSs X st t' := fun pins s σ H D I q => h pins s σ H D I (k D σ H q)
theorem PG_imp {e : Expr} {t t' : L2.TG} (h : L2.PG X e t) (k : ∀ v σ H Q, t' v σ H Q → t v σ H Q) : L2.PG X e t' := fun pins s σ H v u Q I r q => h pins s σ H v u Q I r (k v σ H Q q)
theorem PGs_imp {es : List Expr} {t t' : L2.TGs} (h : L2.PGs X es t) (k : ∀ v σ H Q, t' v σ H Q → t v σ H Q) : L2.PGs X es t' := fun pins s σ H vs us Q I r q => h pins s σ H vs us Q I r (k vs σ H Q q)
theorem r_var {i : Nat} {e : Expr} (h : L2.PE X e (L2.tVar i)) : L2.PE X e (EvE X.K cm (eVar i)) := PE_imp h fun σ H Q ⟨ρ, A, σp, v, A', r, rs, ev, k⟩ => by
  have : ∃ p, σp[i]? = some (some p) ∧ v = p ∧ A' = A := by
    unfold eVar at ev
    rcases hσ : σp[i]? with _ | (_ | p)
    · rw [hσ] at ev; cases ev
    · rw [hσ] at ev; cases ev
    · rw [hσ] at ev; cases ev; exact ⟨_, rfl, rfl, rfl⟩
  obtain ⟨p, hp, rfl, rfl⟩ := this
  obtain ⟨u, h1, h2⟩ := rs.get i _ hp
  exact ⟨u, h1, k ρ H u (Ext.refl _ _) r h2⟩
theorem r_k {e : Expr} {x : PV} {u : L2.V} (h : L2.PE X e (L2.tC u)) (rv : ∀ ρ H, RV ρ H x u) : L2.PE X e (EvE X.K cm (eK x)) := PE_imp h fun σ H Q ⟨ρ, A, σp, v, A', r, rs, ev, k⟩ => by
  cases ev
  exact k ρ H u (Ext.refl _ _) r (rv ρ H)
theorem r_int {i : Int} {j pos} : L2.PE X (.Constant (.int i) j pos) (EvE X.K cm (eK (.int i))) := r_k L2.pe_int fun _ _ => .int i
theorem r_bl {b : Bool} {j pos} : L2.PE X (.Constant (.bool b) j pos) (EvE X.K cm (eK (.bl b))) := r_k L2.pe_bl fun _ _ => .bl b
theorem r_non {j pos} : L2.PE X (.Constant .none j pos) (EvE X.K cm (eK .non)) := r_k L2.pe_non fun _ _ => .non
noncomputable def OkOp (K : PySem.W.Frag) (cm : Nat → Addr) (f : OD) (r : L2.R2) : Prop := ∀ ρ A H x y z A' vx vy (Q : L2.VK), Rel K cm ρ A H → RV ρ H x vx → RV ρ H y vy → f x y A = .ok z A' →
  (∀ ρ' H' v', Ext ρ H ρ' H' → Rel K cm ρ' A' H' → RV ρ' H' z v' → Q v' H') → r vx vy H Q
theorem ev_bin {f : OD} {r : L2.R2} {a b : ED} (hf : OkOp X.K cm f r) {σ : L2.St} {H : L2.Hp} {Q : L2.VK} (h : EvE X.K cm (eBin f a b) σ H Q) : L2.tOp r (EvE X.K cm a) (EvE X.K cm b) σ H Q := by
  obtain ⟨ρ, A, σp, z, A', rl, rs, ev, k⟩ := h
  obtain ⟨x, A1, e1, ev⟩ := bnd_inv ev
  obtain ⟨y, A2, e2, ev⟩ := bnd_inv ev
  exact ⟨ρ, A, σp, x, A1, rl, rs, e1, fun ρ1 H1 vx x1 rl1 rv1 => ⟨ρ1, A1, σp, y, A2, rl1, rs.mono x1, e2, fun ρ2 H2 vy x2 rl2 rv2 => hf ρ2 A2 H2 x y z A' vx vy Q rl2 (rv1.mono x2) rv2 ev fun ρ3 H3 v3 x3 rl3 rv3 => k ρ3 H3 v3 ((x1.trans x2).trans x3) rl3 rv3⟩⟩
theorem r_bin {op : Operator} {f : OD} {r : L2.R2} {a b : Expr} {da db : ED} {pos : Pos} (ho : L2.OpR X (binaryOp op) r) (hf : OkOp X.K cm f r) (ha : L2.PE X a (EvE X.K cm da)) (hb : L2.PE X b (EvE X.K cm db)) : L2.PE X (.BinOp a op b pos) (EvE X.K cm (eBin f da db)) :=
  PE_imp (L2.pe_op ho ha hb) fun σ H Q h => ev_bin hf h
theorem r_cmp {op : CmpOp} {f : OD} {r : L2.R2} {a b : Expr} {da db : ED} {pos : Pos} (ho : L2.OpR X (compareOp op) r) (hf : OkOp X.K cm f r) (ha : L2.PE X a (EvE X.K cm da)) (hb : L2.PE X b (EvE X.K cm db)) (hm : behindInMarks op b = false) : L2.PE X (.Compare a [op] [b] pos) (EvE X.K cm (eBin f da db)) :=
  PE_imp (L2.pe_cmpR ho ha hb hm) fun σ H Q h => ev_bin hf h
theorem ev_tval {d : ED} {t : L2.TE} (h : ∀ σ H Q, EvE X.K cm d σ H Q → t σ H Q) {σ : L2.St} {H : L2.Hp} {Q : Bool → L2.Hp → Prop} (q : EvT X.K cm (tVal d) σ H Q) : L2.tTest t σ H Q := by
  obtain ⟨ρ, A, σp, b, A', rl, rs, ev, k⟩ := q
  obtain ⟨x, A1, e1, ev⟩ := bnd_inv ev
  refine h σ H _ ⟨ρ, A, σp, x, A1, rl, rs, e1, fun ρ1 H1 v1 x1 rl1 rv1 => ?_⟩
  cases x with
  | bl c =>
    cases ev
    cases rv1
    exact ⟨_, rfl, k ρ1 H1 x1 rl1⟩
  | _ => cases ev
theorem r_tcmp {op : CmpOp} {f : OD} {r : L2.R2} {a b : Expr} {da db : ED} {pos : Pos} (ho : L2.OpR X (compareOp op) r) (hf : OkOp X.K cm f r) (ha : L2.PE X a (EvE X.K cm da)) (hb : L2.PE X b (EvE X.K cm db)) (hm : behindInMarks op b = false) : L2.PT X (.Compare a [op] [b] pos) (EvT X.K cm (tVal (eBin f da db))) :=
  PT_imp (L2.pt_cmpR ho ha hb hm) fun σ H Q h => ev_tval (fun _ _ _ => ev_bin hf) h
theorem r_tval {e : Expr} {d : ED} (h : L2.PE X e (EvE X.K cm d)) (he : ∀ whole, isTrue e X.env whole = (do let v ← whole; standAt e.pos; holding [v] (truthy v)) := by intro _; rfl) : L2.PT X e (EvT X.K cm (tVal d)) :=
  PT_imp (L2.pt_val h he) fun σ H Q q => ev_tval (fun _ _ _ z => z) q
theorem okI {f : OD} {g : Int → Int → PV} {g' : Int → Int → L2.V} {C : Int → Int → Prop} (h : ∀ x y A z A', f x y A = .ok z A' → ∃ i j, x = .int i ∧ y = .int j ∧ C i j ∧ z = g i j ∧ A' = A) (hg : ∀ ρ H i j, RV ρ H (g i j) (g' i j)) (K : PySem.W.Frag) (cm : Nat → Addr) : OkOp K cm f (L2.rI C g') :=
  fun ρ A H x y z A' vx vy Q rl rx ry ev k => by
    obtain ⟨i, j, rfl, rfl, hc, rfl, rfl⟩ := h _ _ _ _ _ ev
    cases rx; cases ry
    exact ⟨i, j, rfl, rfl, hc, k ρ H _ (Ext.refl _ _) rl (hg _ _ _ _)⟩
theorem okI0 {f : OD} {g : Int → Int → PV} {g' : Int → Int → L2.V} (h : ∀ x y A z A', f x y A = .ok z A' → ∃ i j, x = .int i ∧ y = .int j ∧ z = g i j ∧ A' = A) (hg : ∀ ρ H i j, RV ρ H (g i j) (g' i j)) (K : PySem.W.Frag) (cm : Nat → Addr) : OkOp K cm f (L2.rI0 g') :=
  fun ρ A H x y z A' vx vy Q rl rx ry ev k => by
    obtain ⟨i, j, rfl, rfl, rfl, rfl⟩ := h _ _ _ _ _ ev
    cases rx; cases ry
    exact ⟨i, j, rfl, rfl, k ρ H _ (Ext.refl _ _) rl (hg _ _ _ _)⟩
theorem ok_sub : OkOp X.K cm oSub (L2.rI0 fun i j => .int (i - j)) := okI0 (g := fun i j => .int (i - j)) (fun x y A z A' h => by cases x <;> cases y <;> first | (cases h; exact ⟨_, _, rfl, rfl, rfl, rfl⟩) | cases h) (fun _ _ _ _ => .int _) _ _
theorem ok_lt : OkOp X.K cm oLt (L2.rI0 fun i j => .bl (decide (i < j))) := okI0 (g := fun i j => .bl (decide (i < j))) (fun x y A z A' h => by cases x <;> cases y <;> first | (cases h; exact ⟨_, _, rfl, rfl, rfl, rfl⟩) | cases h) (fun _ _ _ _ => .bl _) _ _
theorem ok_le : OkOp X.K cm oLe (L2.rI0 fun i j => .bl (decide (i ≤ j))) := okI0 (g := fun i j => .bl (decide (i ≤ j))) (fun x y A z A' h => by cases x <;> cases y <;> first | (cases h; exact ⟨_, _, rfl, rfl, rfl, rfl⟩) | cases h) (fun _ _ _ _ => .bl _) _ _
theorem ok_gt : OkOp X.K cm oGt (L2.rI0 fun i j => .bl (decide (j < i))) := okI0 (g := fun i j => .bl (decide (j < i))) (fun x y A z A' h => by cases x <;> cases y <;> first | (cases h; exact ⟨_, _, rfl, rfl, rfl, rfl⟩) | cases h) (fun _ _ _ _ => .bl _) _ _
theorem ok_mod : OkOp X.K cm oMod (L2.rI (fun _ j => 0 < j) fun i j => .int (i % j)) := okI (g := fun i j => .int (i % j)) (fun x y A z A' h => by
  cases x <;> cases y <;> first | (obtain ⟨c, h⟩ := guard_inv h; cases h; exact ⟨_, _, rfl, rfl, c, rfl, rfl⟩) | cases h) (fun _ _ _ _ => .int _) _ _
theorem ok_fdiv : OkOp X.K cm oFdiv (L2.rI L2.CDiv fun i j => .int (i / j)) := okI (g := fun i j => .int (i / j)) (fun x y A z A' h => by
  cases x <;> cases y <;> first | (obtain ⟨c, h⟩ := guard_inv h; cases h; exact ⟨_, _, rfl, rfl, c, rfl, rfl⟩) | cases h) (fun _ _ _ _ => .int _) _ _
theorem ok_mul : OkOp X.K cm oMul (L2.rI L2.CMul fun i j => .int (i * j)) := okI (g := fun i j => .int (i * j)) (fun x y A z A' h => by
  cases x <;> cases y <;> first | (obtain ⟨c, h⟩ := guard_inv h; cases h; exact ⟨_, _, rfl, rfl, c, rfl, rfl⟩) | cases h) (fun _ _ _ _ => .int _) _ _
end
end Ws
namespace Ws
open PySem
section
variable {K : PySem.W.Frag} {ρ : List Addr} {H : L2.Hp} {A : PHp} {n : Nat} {v : L2.V} {l : List PV}
theorem lst_read {cm : Nat → Addr} {A' : PHp} (rl : Rel K cm ρ A H) (r : RV ρ H (.ref n) v) (h : lstAt n A = .ok l A') : A' = A ∧ ∃ a xs, v = .ref a ∧ L2.SqL K H a xs ∧ RVs ρ H l xs := by
  cases r with
  | ref hn =>
    unfold lstAt at h
    rcases hA : A[n]? with _ | o
    · rw [hA] at h; cases h
    · have q := rl.obj n o _ hA hn
      cases o with
      | lst m => rw [hA] at h; cases h; obtain ⟨xs, h1, h2⟩ := q; exact ⟨rfl, _, xs, rfl, L2.SqL.of h1, h2⟩
      | ro m => rw [hA] at h; cases h; obtain ⟨xs, h1, h2⟩ := q; exact ⟨rfl, _, xs, rfl, h1.sq, h2⟩
      | dI m => rw [hA] at h; cases h
      | ins c m => rw [hA] at h; cases h
      | dT m => rw [hA] at h; cases h
      | exc c m => rw [hA] at h; cases h
theorem mut_read {cm : Nat → Addr} {A' : PHp} (rl : Rel K cm ρ A H) (r : RV ρ H (.ref n) v) (h : mutAt n A = .ok l A') : A' = A ∧ A[n]? = some (.lst l) ∧ ∃ a xs, v = .ref a ∧ ρ[n]? = some a ∧ H a = some (.lst xs) ∧ RVs ρ H l xs := by
  cases r with
  | ref hn =>
    unfold mutAt at h
    rcases hA : A[n]? with _ | o
    · rw [hA] at h; cases h
    · have q := rl.obj n o _ hA hn
      cases o with
      | lst m => rw [hA] at h; cases h; obtain ⟨xs, h1, h2⟩ := q; exact ⟨rfl, rfl, _, xs, rfl, hn, h1, h2⟩
      | ro m => rw [hA] at h; cases h
      | dI m => rw [hA] at h; cases h
      | ins c m => rw [hA] at h; cases h
      | dT m => rw [hA] at h; cases h
      | exc c m => rw [hA] at h; cases h
theorem ins_lt {cm : Nat → Addr} {c : Nat} {fs : List (Nat × PV)} {a : Addr} (rl : Rel K cm ρ A H) (hA : A[n]? = some (.ins c fs)) (hn : ρ[n]? = some a) : c < 7 := (rl.obj n _ _ hA hn).1.1
theorem ins_read {cm : Nat → Addr} {A' : PHp} {o : Nat × List (Nat × PV)} (rl : Rel K cm ρ A H) (r : RV ρ H (.ref n) v) (h : insAt n A = .ok o A') : A' = A ∧ A[n]? = some (.ins o.1 o.2) ∧ ∃ a dx kv, v = .ref a ∧ ρ[n]? = some a ∧ H a = some (.ins (cm o.1) dx kv) ∧ Pairs fnm ρ H o.2 kv ∧ ∀ p ∈ o.2, p.1 < 19 := by
  cases r with
  | ref hn =>
    unfold insAt at h
    rcases hA : A[n]? with _ | o
    · rw [hA] at h; cases h
    · have q := rl.obj n o _ hA hn
      cases o with
      | lst m => rw [hA] at h; cases h
      | ro m => rw [hA] at h; cases h
      | dI m => rw [hA] at h; cases h
      | ins c m => rw [hA] at h; cases h; obtain ⟨hs, dx, kv, h1, h2⟩ := q; exact ⟨rfl, rfl, _, dx, kv, rfl, hn, h1, h2, hs.2⟩
      | dT m => rw [hA] at h; cases h
      | exc c m => rw [hA] at h; cases h
theorem seq_read {cm : Nat → Addr} {x : PV} {A' : PHp} (rl : Rel K cm ρ A H) (r : RV ρ H x v) (h : seqOf x A = .ok l A') : A' = A ∧ ∃ a xs, v = .ref a ∧ (L2.SqL K H a xs ∨ L2.SqT K H a xs) ∧ RVs ρ H l xs := by
  cases x with
  | ref n =>
    obtain ⟨e, a, xs, h1, h2, h3⟩ := lst_read rl r h
    exact ⟨e, a, xs, h1, .inl h2, h3⟩
  | tup m =>
    cases h
    cases r with
    | tup h1 h2 => exact ⟨rfl, _, _, rfl, .inr (L2.SqT.of h1), h2⟩
  | _ => cases h
theorem atI_eq {α : Type} (xs : List α) (i : Int) : L2.atI xs i = atI xs i := rfl
theorem RVs.at {xs : List L2.V} {i : Int} {x : PV} (r : RVs ρ H l xs) (h : atI l i = some x) : ∃ u, L2.atI xs i = some u ∧ RV ρ H x u := by
  rw [atI_eq]
  unfold atI at h ⊢
  rw [← r.length]
  rcases e : ixN l.length i with _ | j
  · rw [e] at h; cases h
  · rw [e] at h
    obtain ⟨u, h1, h2⟩ := r.get (i := j) h
    exact ⟨u, h1, h2⟩
theorem cutIx_eq (n d : Nat) (o : Option Int) : HT.sIx n d o = cutIx n d o := by
  cases o with
  | none => rfl
  | some v =>
    have e := HT.clip_eq v n d
    show HT.sIx n d (some v) = if v < 0 then (max (v + n) 0).toNat else (min v n).toNat
    by_cases h : v < 0
    · rw [if_pos h] at e ⊢; omega
    · rw [if_neg h] at e ⊢; omega
theorem RVs.slc {xs : List L2.V} (r : RVs ρ H l xs) (lo hi : Option Int) : RVs ρ H (cut l lo hi) (L2.cutV xs lo hi) := by
  unfold cut L2.cutV
  rw [cutIx_eq, cutIx_eq, ← r.length]
  exact (r.drop _).take _
end
theorem LIM_line {n : Nat} (h : n ≤ LIM) : n ≤ sizeLine := Nat.le_trans h (by unfold LIM; rw [sizeLine_eq]; decide)
theorem LIM_lt {n : Nat} (h : n < LIM) : n < sizeLine := Nat.lt_of_lt_of_le h (by unfold LIM; rw [sizeLine_eq]; decide)
section
variable {X : L2.Cx} {cm : Nat → Addr}
noncomputable def rAdd3 (K : PySem.W.Frag) : L2.R2 := fun x y H Q => (∃ i j, x = .int i ∧ y = .int j ∧ Q (.int (i + j)) H) ∨ (L2.rCatT K x y H Q ∨ L2.rCat x y H Q)
theorem op_add3 : L2.OpR X (binaryOp .Add) (rAdd3 X.K) := L2.op_add.or (L2.op_catT.or L2.op_cat)
theorem ok_add : OkOp X.K cm oAdd (rAdd3 X.K) := fun ρ A H x y z A' vx vy Q rl rx ry ev k => by
  cases x with
  | int i =>
    cases y with
    | int j => cases ev; cases rx; cases ry; exact .inl ⟨i, j, rfl, rfl, k ρ H _ (Ext.refl _ _) rl (.int _)⟩
    | _ => cases ev
  | tup l =>
    cases y with
    | tup m =>
      obtain ⟨c, ev⟩ := guard_inv ev
      cases ev
      cases rx with
      | tup h1 r1 =>
        cases ry with
        | tup h2 r2 =>
          refine .inr (.inl ⟨_, _, _, _, rfl, rfl, L2.SqT.of h1, L2.SqT.of h2, ?_, ?_, ?_⟩)
          · intro e; subst e; have := r1.length; exact c.1 (List.length_eq_zero_iff.mp (by simpa using this))
          · rw [← r1.length, ← r2.length]; exact LIM_line c.2
          · refine ⟨fun z => ?_, fun _ p hp => ?_⟩
            · subst z
              cases r2
              refine k ρ H _ (Ext.refl _ _) rl ?_
              rw [List.append_nil]; exact .tup h1 r1
            · refine k ρ _ _ (Ext.same hp) (rl.tup hp) (.tup L2.upd_same ?_)
              exact (r1.mono (Ext.same hp)).append (r2.mono (Ext.same hp))
    | _ => cases ev
  | ref n =>
    cases y with
    | ref m =>
      obtain ⟨l1, A1, e1, ev1⟩ := bnd_inv ev
      obtain ⟨rfl, _, a, xs, rfl, _, ha, r1⟩ := mut_read rl rx e1
      obtain ⟨l2, A2, e2, ev2⟩ := bnd_inv ev1
      obtain ⟨rfl, _, b, ys, rfl, _, hb, r2⟩ := mut_read rl ry e2
      obtain ⟨c, ev3⟩ := guard_inv ev2
      cases ev3
      refine .inr (.inr ⟨a, b, xs, ys, rfl, rfl, ha, hb, ?_, fun p hp => ?_⟩)
      · rw [← r1.length, ← r2.length]; exact LIM_line c
      · have e : Ext ρ H (ρ ++ [p]) (L2.upd H p (.lst (xs ++ ys))) := Ext.new hp
        exact k (ρ ++ [p]) _ _ e (rl.alloc hp ⟨_, L2.upd_same, (r1.mono e).append (r2.mono e)⟩ rfl) (.ref (by rw [← rl.len]; simp))
    | _ => cases ev
  | _ => cases y <;> cases ev
noncomputable def rIx2 (K : PySem.W.Frag) : L2.R2 := fun x y H Q => L2.rIxL K x y H Q ∨ L2.rIxT K x y H Q
theorem ix2 : L2.IxR X (rIx2 X.K) := L2.ix_list.or L2.ix_tup
theorem ok_ix : OkOp X.K cm oIx (rIx2 X.K) := fun ρ A H x y z A' vx vy Q rl rx ry ev k => by
  cases y with
  | int i =>
    obtain ⟨l, A1, e1, ev1⟩ := bnd_inv ev
    obtain ⟨rfl, a, xs, rfl, hs, rs⟩ := seq_read rl rx e1
    rcases hi : atI l i with _ | u
    · rw [hi] at ev1; cases ev1
    · rw [hi] at ev1
      cases ev1
      cases ry
      obtain ⟨w, hw, rw'⟩ := rs.at hi
      rcases hs with hs | hs
      · exact .inl ⟨a, xs, i, w, rfl, rfl, hs, hw, k ρ H w (Ext.refl _ _) rl rw'⟩
      · exact .inr ⟨a, xs, i, w, rfl, rfl, hs, hw, k ρ H w (Ext.refl _ _) rl rw'⟩
  | _ => cases ev
theorem r_ix {a b : Expr} {da db : ED} {pos : Pos} (ha : L2.PE X a (EvE X.K cm da)) (hb : L2.PE X b (EvE X.K cm db)) (hs : L2.PlainIx b) : L2.PE X (.Subscript a b pos) (EvE X.K cm (eBin oIx da db)) :=
  PE_imp (L2.pe_ix ix2 ha hb hs) fun σ H Q h => ev_bin ok_ix h
theorem isNon_of {ρ : List Addr} {H : L2.Hp} {x : PV} {v : L2.V} (r : RV ρ H x v) : decide (v = .non) = isNon x := by
  cases r <;> simp [isNon]
theorem r_tnotN {a : Expr} {da : ED} {j : Nat} {pos pos' : Pos} (ha : L2.PE X a (EvE X.K cm da)) : L2.PT X (.Compare a [.IsNot] [.Constant .none j pos'] pos) (EvT X.K cm (tVal (eNotN da))) :=
  PT_imp (L2.pt_cmp (L2.pc_notN ha)) fun σ H Q q => ev_tval (t := L2.tNotN (EvE X.K cm da)) (fun σ H Q ⟨ρ, A, σp, v, A', rl, rs, ev, k⟩ => by
    obtain ⟨x, A1, e1, ev⟩ := bnd_inv ev
    cases ev
    exact ⟨ρ, A, σp, x, A', rl, rs, e1, fun ρ1 H1 v1 x1 rl1 rv1 => k ρ1 H1 _ x1 rl1 (by rw [isNon_of rv1]; exact .bl _)⟩) q
theorem ev_chain {f g : OD} {r r' : L2.R2} {a b c : ED} (hf : OkOp X.K cm f r) (hg : OkOp X.K cm g r') {σ : L2.St} {H : L2.Hp} {Q : L2.VK} (h : EvE X.K cm (eChain f g a b c) σ H Q) : L2.tChain r r' (EvE X.K cm a) (EvE X.K cm b) (EvE X.K cm c) σ H Q := by
  obtain ⟨ρ, A, σp, z, A', rl, rs, ev, k⟩ := h
  obtain ⟨x, A1, e1, ev⟩ := bnd_inv ev
  obtain ⟨y, A2, e2, ev⟩ := bnd_inv ev
  obtain ⟨m, A3, e3, ev⟩ := bnd_inv ev
  refine ⟨ρ, A, σp, x, A1, rl, rs, e1, fun ρ1 H1 vx x1 rl1 rv1 => ⟨ρ1, A1, σp, y, A2, rl1, rs.mono x1, e2, fun ρ2 H2 vy x2 rl2 rv2 => hf ρ2 A2 H2 x y m A3 vx vy _ rl2 (rv1.mono x2) rv2 e3 fun ρ3 H3 v3 x3 rl3 rv3 => ?_⟩⟩
  have x13 := (x1.trans x2).trans x3
  cases m with
  | bl t =>
    cases rv3
    refine ⟨t, rfl, ?_⟩
    cases t with
    | true =>
      rw [if_pos rfl]
      obtain ⟨u, A4, e4, ev⟩ := bnd_inv ev
      exact ⟨ρ3, A3, σp, u, A4, rl3, rs.mono x13, e4, fun ρ4 H4 v4 x4 rl4 rv4 => hg ρ4 A4 H4 y u z A' vy v4 Q rl4 ((rv2.mono x3).mono x4) rv4 ev fun ρ5 H5 v5 x5 rl5 rv5 => k ρ5 H5 v5 ((x13.trans x4).trans x5) rl5 rv5⟩
    | false =>
      rw [if_neg (by simp)]
      cases ev
      exact k ρ3 H3 _ x13 rl3 (.bl false)
  | _ => cases ev
theorem r_chain {op op' : CmpOp} {f g : OD} {r r' : L2.R2} {a b c : Expr} {da db dc : ED} {pos : Pos} (ho : L2.OpR X (compareOp op) r) (hf : OkOp X.K cm f r) (ho' : L2.OpR X (compareOp op') r') (hg : OkOp X.K cm g r')
    (ha : L2.PE X a (EvE X.K cm da)) (hb : L2.PE X b (EvE X.K cm db)) (hc : L2.PE X c (EvE X.K cm dc)) (hm : lastMarks [op, op'] [b, c] = false := by with_unfolding_all rfl) : L2.PE X (.Compare a [op, op'] [b, c] pos) (EvE X.K cm (eChain f g da db dc)) :=
  PE_imp (L2.pe_chain ho ho' ha hb hc hm) fun σ H Q h => ev_chain hf hg h
theorem r_tnot {a : Expr} {t : TD} {pos : Pos} (h : L2.PT X a (EvT X.K cm t)) : L2.PT X (.UnaryOp .Not a pos) (EvT X.K cm (tNot t)) := PT_imp (L2.pt_not h) fun σ H Q ⟨ρ, A, σp, b, A', rl, rs, ev, k⟩ => by
  obtain ⟨c, A1, e1, ev⟩ := bnd_inv ev
  cases ev
  exact ⟨ρ, A, σp, c, A', rl, rs, e1, fun ρ1 H1 x1 rl1 => k ρ1 H1 x1 rl1⟩
theorem r_tand1 {a : Expr} {t : TD} {pos : Pos} (h : L2.PT X a (EvT X.K cm t)) : L2.PW X (.BoolOp .And [a] pos) (EvT X.K cm t) := L2.pw_and1 h
theorem r_tor1 {a : Expr} {t : TD} {pos : Pos} (h : L2.PT X a (EvT X.K cm t)) : L2.PW X (.BoolOp .Or [a] pos) (EvT X.K cm t) := L2.pw_or1 h
theorem r_tand {a b : Expr} {rest : List Expr} {t u : TD} {pos : Pos} (ha : L2.PT X a (EvT X.K cm t)) (hb : L2.PW X (.BoolOp .And (b :: rest) pos) (EvT X.K cm u)) : L2.PW X (.BoolOp .And (a :: b :: rest) pos) (EvT X.K cm (tAnd t u)) :=
  PW_imp (L2.pw_and ha hb) fun σ H Q ⟨ρ, A, σp, z, A', rl, rs, ev, k⟩ => by
    obtain ⟨c, A1, e1, ev⟩ := bnd_inv ev
    refine ⟨ρ, A, σp, c, A1, rl, rs, e1, fun ρ1 H1 x1 rl1 => ?_⟩
    cases c with
    | true => rw [if_pos rfl] at ev ⊢; exact ⟨ρ1, A1, σp, z, A', rl1, rs.mono x1, ev, fun ρ2 H2 x2 rl2 => k ρ2 H2 (x1.trans x2) rl2⟩
    | false => rw [if_neg (by simp)] at ev ⊢; cases ev; exact k ρ1 H1 x1 rl1
theorem r_tor {a b : Expr} {rest : List Expr} {t u : TD} {pos : Pos} (ha : L2.PT X a (EvT X.K cm t)) (hb : L2.PW X (.BoolOp .Or (b :: rest) pos) (EvT X.K cm u)) : L2.PW X (.BoolOp .Or (a :: b :: rest) pos) (EvT X.K cm (tOr t u)) :=
  PW_imp (L2.pw_or ha hb) fun σ H Q ⟨ρ, A, σp, z, A', rl, rs, ev, k⟩ => by
    obtain ⟨c, A1, e1, ev⟩ := bnd_inv ev
    refine ⟨ρ, A, σp, c, A1, rl, rs, e1, fun ρ1 H1 x1 rl1 => ?_⟩
    cases c with
    | true => rw [if_pos rfl] at ev ⊢; cases ev; exact k ρ1 H1 x1 rl1
    | false => rw [if_neg (by simp)] at ev ⊢; exact ⟨ρ1, A1, σp, z, A', rl1, rs.mono x1, ev, fun ρ2 H2 x2 rl2 => k ρ2 H2 (x1.trans x2) rl2⟩
theorem asB_inv {x : PV} {A A' : PHp} {c : Bool} (h : asB x A = .ok c A') : x = .bl c ∧ A' = A := by
  cases x with
  | bl b => cases h; exact ⟨rfl, rfl⟩
  | _ => cases h
theorem r_and1 {a : Expr} {d : ED} {pos : Pos} (h : L2.PE X a (EvE X.K cm d)) : L2.PE X (.BoolOp .And [a] pos) (EvE X.K cm d) := L2.pe_one h
theorem r_or1 {a : Expr} {d : ED} {pos : Pos} (h : L2.PE X a (EvE X.K cm d)) : L2.PE X (.BoolOp .Or [a] pos) (EvE X.K cm d) := L2.pe_one h
theorem r_and {a b : Expr} {rest : List Expr} {d u : ED} {pos : Pos} (ha : L2.PE X a (EvE X.K cm d)) (hb : L2.PE X (.BoolOp .And (b :: rest) pos) (EvE X.K cm u)) : L2.PE X (.BoolOp .And (a :: b :: rest) pos) (EvE X.K cm (eAnd d u)) :=
  PE_imp (L2.pe_and ha hb) fun σ H Q ⟨ρ, A, σp, z, A', rl, rs, ev, k⟩ => by
    obtain ⟨c, A1, e1, ev⟩ := bnd_inv ev
    obtain ⟨x, A0, e0, e1⟩ := bnd_inv e1
    obtain ⟨rfl, rfl⟩ := asB_inv e1
    refine ⟨ρ, A, σp, _, _, rl, rs, e0, fun ρ1 H1 v1 x1 rl1 rv1 => ?_⟩
    cases rv1
    refine ⟨c, rfl, ?_⟩
    cases c with
    | true => rw [if_pos rfl] at ev ⊢; exact ⟨ρ1, _, σp, z, A', rl1, rs.mono x1, ev, fun ρ2 H2 v2 x2 rl2 => k ρ2 H2 v2 (x1.trans x2) rl2⟩
    | false => rw [if_neg (by simp)] at ev ⊢; cases ev; exact k ρ1 H1 _ x1 rl1 (.bl false)
theorem r_or {a b : Expr} {rest : List Expr} {d u : ED} {pos : Pos} (ha : L2.PE X a (EvE X.K cm d)) (hb : L2.PE X (.BoolOp .Or (b :: rest) pos) (EvE X.K cm u)) : L2.PE X (.BoolOp .Or (a :: b :: rest) pos) (EvE X.K cm (eOr d u)) :=
  PE_imp (L2.pe_or ha hb) fun σ H Q ⟨ρ, A, σp, z, A', rl, rs, ev, k⟩ => by
    obtain ⟨c, A1, e1, ev⟩ := bnd_inv ev
    obtain ⟨x, A0, e0, e1⟩ := bnd_inv e1
    obtain ⟨rfl, rfl⟩ := asB_inv e1
    refine ⟨ρ, A, σp, _, _, rl, rs, e0, fun ρ1 H1 v1 x1 rl1 rv1 => ?_⟩
    cases rv1
    refine ⟨c, rfl, ?_⟩
    cases c with
    | true => rw [if_pos rfl] at ev ⊢; cases ev; exact k ρ1 H1 _ x1 rl1 (.bl true)
    | false => rw [if_neg (by simp)] at ev ⊢; exact ⟨ρ1, _, σp, z, A', rl1, rs.mono x1, ev, fun ρ2 H2 v2 x2 rl2 => k ρ2 H2 v2 (x1.trans x2) rl2⟩
theorem r_not {a : Expr} {d : ED} {pos : Pos} (ha : L2.PE X a (EvE X.K cm d)) : L2.PE X (.UnaryOp .Not a pos) (EvE X.K cm (eNot d)) :=
  PE_imp (L2.pe_not ha) fun σ H Q ⟨ρ, A, σp, z, A', rl, rs, ev, k⟩ => by
    obtain ⟨c, A1, e1, ev⟩ := bnd_inv ev
    obtain ⟨x, A0, e0, e1⟩ := bnd_inv e1
    obtain ⟨rfl, rfl⟩ := asB_inv e1
    cases ev
    refine ⟨ρ, A, σp, _, _, rl, rs, e0, fun ρ1 H1 v1 x1 rl1 rv1 => ?_⟩
    cases rv1
    exact ⟨c, rfl, k ρ1 H1 _ x1 rl1 (.bl _)⟩
theorem r_nil : L2.PA X [] (EvA X.K cm aNil) := PA_imp L2.pa_nil fun σ H Q ⟨ρ, A, σp, vs, A', rl, rs, ev, k⟩ => by
  cases ev
  exact k ρ H [] (Ext.refl _ _) rl .nil
theorem r_cons {e : Expr} {es : List Expr} {d : ED} {ds : AD} (h : L2.PE X e (EvE X.K cm d)) (hr : L2.PA X es (EvA X.K cm ds)) (hs : starEach (e :: es) X.env = (false, eval e X.env) :: starEach es X.env := by rfl) : L2.PA X (e :: es) (EvA X.K cm (aCons d ds)) :=
  PA_imp (L2.pa_cons h hr hs) fun σ H Q ⟨ρ, A, σp, vs, A', rl, rs, ev, k⟩ => by
    obtain ⟨x, A1, e1, ev⟩ := bnd_inv ev
    obtain ⟨xs, A2, e2, ev⟩ := bnd_inv ev
    cases ev
    exact ⟨ρ, A, σp, x, A1, rl, rs, e1, fun ρ1 H1 v1 x1 rl1 rv1 => ⟨ρ1, A1, σp, xs, A', rl1, rs.mono x1, e2, fun ρ2 H2 vs2 x2 rl2 rv2 => k ρ2 H2 _ (x1.trans x2) rl2 (.cons (rv1.mono x2) rv2)⟩⟩
theorem r_tup {es : List Expr} {ds : AD} {x1 : Nat} {pos : Pos} (h : L2.PA X es (EvA X.K cm ds)) : L2.PE X (.Tuple es x1 pos) (EvE X.K cm (eTup ds)) :=
  PE_imp (L2.pe_tup h) fun σ H Q ⟨ρ, A, σp, v, A', rl, rs, ev, k⟩ => by
    obtain ⟨xs, A1, e1, ev⟩ := bnd_inv ev
    obtain ⟨c, ev⟩ := guard_inv ev
    cases ev
    refine ⟨ρ, A, σp, xs, A', rl, rs, e1, fun ρ1 H1 vs1 x1 rl1 rv1 => ⟨by rw [← rv1.length]; exact LIM_line c, fun p hp => ?_⟩⟩
    have e : Ext ρ1 H1 ρ1 (L2.upd H1 p (.tup vs1)) := Ext.same hp
    exact k ρ1 _ _ (x1.trans e) (rl1.tup hp) (.tup L2.upd_same (rv1.mono e))
theorem r_lst {es : List Expr} {ds : AD} {pos : Pos} (h : L2.PA X es (EvA X.K cm ds)) : L2.PE X (.List es pos) (EvE X.K cm (eLst ds)) :=
  PE_imp (L2.pe_lst h) fun σ H Q ⟨ρ, A, σp, v, A', rl, rs, ev, k⟩ => by
    obtain ⟨xs, A1, e1, ev⟩ := bnd_inv ev
    obtain ⟨c, ev⟩ := guard_inv ev
    cases ev
    refine ⟨ρ, A, σp, xs, A1, rl, rs, e1, fun ρ1 H1 vs1 x1 rl1 rv1 => ⟨by rw [← rv1.length]; exact LIM_line c, fun p hp => ?_⟩⟩
    have e : Ext ρ1 H1 (ρ1 ++ [p]) (L2.upd H1 p (.lst vs1)) := Ext.new hp
    exact k (ρ1 ++ [p]) _ _ (x1.trans e) (rl1.alloc hp ⟨_, L2.upd_same, rv1.mono e⟩ rfl) (.ref (by rw [← rl1.len]; simp))
end
end Ws
namespace Ws
open PySem
section
variable {X : L2.Cx} {cm : Nat → Addr}
noncomputable def EvL (K : PySem.W.Frag) (cm : Nat → Addr) (d : LD) : L2.TO := fun σ H Q => ∃ (ρ : List Addr) (A : PHp) (σp : PSt) (v : Option Int) (A' : PHp), Rel K cm ρ A H ∧ RSt ρ H σp σ ∧ d σp A = .ok v A' ∧
  ∀ ρ' H', Ext ρ H ρ' H' → Rel K cm ρ' A' H' → Q v H'
theorem PO_imp {e : Option Expr} {t t' : L2.TO} (h : L2.PO X e t) (k : ∀ σ H Q, t' σ H Q → t σ H Q) : L2.PO X e t' := fun pins s σ H Q I q => h pins s σ H Q I (k σ H Q q)
theorem r_lno : L2.PO X none (EvL X.K cm lNo) := PO_imp L2.po_none fun σ H Q ⟨ρ, A, σp, v, A', rl, rs, ev, k⟩ => by
  cases ev; exact k ρ H (Ext.refl _ _) rl
theorem r_lat {e : Expr} {d : ED} (h : L2.PE X e (EvE X.K cm d)) : L2.PO X (some e) (EvL X.K cm (lAt d)) := PO_imp (L2.po_some h) fun σ H Q ⟨ρ, A, σp, v, A', rl, rs, ev, k⟩ => by
  obtain ⟨x, A1, e1, ev1⟩ := bnd_inv ev
  refine ⟨ρ, A, σp, x, A1, rl, rs, e1, fun ρ1 H1 v1 x1 rl1 rv1 => ?_⟩
  cases x with
  | int i => cases ev1; cases rv1; exact ⟨i, rfl, k ρ1 H1 x1 rl1⟩
  | _ => cases ev1
theorem r_cut {e : Expr} {lo hi : Option Expr} {d : ED} {dl dh : LD} {p2 pos : Pos} (he : L2.PE X e (EvE X.K cm d)) (hl : L2.PO X lo (EvL X.K cm dl)) (hu : L2.PO X hi (EvL X.K cm dh)) : L2.PE X (.Subscript e (.Slice lo hi none p2) pos) (EvE X.K cm (eCut d dl dh)) :=
  PE_imp (L2.pe_slice (L2.sl_list.or L2.sl_tup) he hl hu) fun σ H Q ⟨ρ, A, σp, v, A', rl, rs, ev, k⟩ => by
    obtain ⟨x, A1, e1, ev1⟩ := bnd_inv ev
    obtain ⟨l, A2, e2, ev2⟩ := bnd_inv ev1
    obtain ⟨h, A3, e3, ev3⟩ := bnd_inv ev2
    refine ⟨ρ, A, σp, x, A1, rl, rs, e1, fun ρ1 H1 v1 x1 rl1 rv1 => ⟨ρ1, A1, σp, l, A2, rl1, rs.mono x1, e2, fun ρ2 H2 x2 rl2 => ⟨ρ2, A2, σp, h, A3, rl2, (rs.mono x1).mono x2, e3, fun ρ3 H3 x3 rl3 => ?_⟩⟩⟩
    have x13 := (x1.trans x2).trans x3
    have rv3 := rv1.mono (x2.trans x3)
    cases x with
    | ref n =>
      obtain ⟨xs, A4, e4, ev4⟩ := bnd_inv ev3
      obtain ⟨rfl, a, vs, rfl, hs, r⟩ := lst_read rl3 rv3 e4
      cases ev4
      refine .inl ⟨a, vs, rfl, hs, fun p hp => ?_⟩
      have e : Ext ρ3 H3 (ρ3 ++ [p]) (L2.upd H3 p (.lst (L2.cutV vs l h))) := Ext.new hp
      exact k (ρ3 ++ [p]) _ _ (x13.trans e) (rl3.alloc hp ⟨_, L2.upd_same, (r.slc l h).mono e⟩ rfl) (.ref (by rw [← rl3.len]; simp))
    | tup xs =>
      obtain ⟨c, ev4⟩ := guard_inv ev3
      cases ev4
      cases rv3 with
      | tup ha r =>
        refine .inr ⟨_, _, rfl, L2.SqT.of ha, by rw [cutIx_eq, cutIx_eq, ← r.length]; exact c, fun p hp => ?_⟩
        exact k ρ3 _ _ (x13.trans (Ext.same hp)) (rl3.tup hp) (.tup L2.upd_same ((r.slc l h).mono (Ext.same hp)))
    | _ => cases ev3
theorem ev_one {d : ED} {f : PV → M PV} {r : List L2.V → L2.Hp → L2.VK → Prop} {e : ED} (he : ∀ σ, e σ = bnd (d σ) f)
    (hf : ∀ ρ A H x z A' v (Q : L2.VK), Rel X.K cm ρ A H → RV ρ H x v → f x A = .ok z A' → (∀ ρ' H' v', Ext ρ H ρ' H' → Rel X.K cm ρ' A' H' → RV ρ' H' z v' → Q v' H') → r [v] H Q)
    {σ : L2.St} {H : L2.Hp} {Q : L2.VK} (h : EvE X.K cm e σ H Q) : L2.tCB r (EvA X.K cm (aCons d aNil)) σ H Q := by
  obtain ⟨ρ, A, σp, z, A', rl, rs, ev, k⟩ := h
  rw [he] at ev
  obtain ⟨x, A1, e1, ev1⟩ := bnd_inv ev
  refine ⟨ρ, A, σp, [x], A1, rl, rs, by show bnd (d σp) _ A = _; rw [bnd_ok e1]; rfl, fun ρ1 H1 vs1 x1 rl1 rv1 => ?_⟩
  cases rv1 with
  | cons hv hr =>
    cases hr
    exact hf ρ1 A1 H1 x z A' _ Q rl1 hv ev1 fun ρ2 H2 v2 x2 rl2 rv2 => k ρ2 H2 v2 (x1.trans x2) rl2 rv2
theorem r_len {e : Expr} {d : ED} {p pos : Pos} (he : L2.PE X e (EvE X.K cm d)) (hg : L2.Gl X "len") (hm : X.mg "len" = none) (hs : starEach [e] X.env = (false, eval e X.env) :: starEach [] X.env := by rfl) : L2.PE X (.Call (.Name "len" p) [e] [] pos) (EvE X.K cm (eLen d)) :=
  PE_imp (L2.pe_callB L2.call_len_seq hg hm PySem.boot_len (r_cons he r_nil hs) (he := hs)) fun σ H Q h => ev_one (f := fun x => bnd (seqOf x) fun l => ret (.int l.length)) (fun _ => rfl) (fun ρ A H x z A' v Q rl rx ev k => by
    obtain ⟨l, A1, e1, ev1⟩ := bnd_inv ev
    obtain ⟨rfl, a, xs, rfl, hq, r⟩ := seq_read rl rx e1
    cases ev1
    exact ⟨a, xs, rfl, hq, k ρ H _ (Ext.refl _ _) rl (by rw [← r.length]; exact .int _)⟩) h
theorem r_listOf {e : Expr} {d : ED} {p pos : Pos} (he : L2.PE X e (EvE X.K cm d)) (hg : L2.Gl X "list") (hm : X.mg "list" = none) (hv : bootBuiltins "list" = some (.type "list")) (hs : starEach [e] X.env = (false, eval e X.env) :: starEach [] X.env := by rfl) : L2.PE X (.Call (.Name "list" p) [e] [] pos) (EvE X.K cm (eListOf d)) :=
  PE_imp (L2.pe_callTy L2.call_list_of hg hm hv (r_cons he r_nil hs) (he := hs)) fun σ H Q h => ev_one (f := fun x => bnd (seqOf x) fun l => alloc (.lst l)) (fun _ => rfl) (fun ρ A H x z A' v Q rl rx ev k => by
    obtain ⟨l, A1, e1, ev1⟩ := bnd_inv ev
    obtain ⟨rfl, a, xs, rfl, hq, r⟩ := seq_read rl rx e1
    cases ev1
    refine ⟨a, xs, rfl, hq, fun p hp => ?_⟩
    have e : Ext ρ H (ρ ++ [p]) (L2.upd H p (.lst xs)) := Ext.new hp
    exact k (ρ ++ [p]) _ _ e (rl.alloc hp ⟨_, L2.upd_same, r.mono e⟩ rfl) (.ref (by rw [← rl.len]; simp))) h
theorem Pairs.look {f : Nat → Str} {ρ : List Addr} {H : L2.Hp} (hf : ∀ i j, f i = f j → i < 19 → j < 19 → i = j) : ∀ {kvs : List (Nat × PV)} {kv : List (Str × L2.V)} {i : Nat} {x : PV}, Pairs f ρ H kvs kv → (∀ p ∈ kvs, p.1 < 19) → i < 19 → getFld i kvs = some x → ∃ v, kv.lookup (f i) = some v ∧ RV ρ H x v
  | [], kv, i, x, h, _, _, e => by cases e
  | (g, u) :: r, kv, i, x, h, hs, hi, e => by
    cases kv with
    | nil => have := h.keys; simp at this
    | cons p q =>
      have k := h.keys
      simp only [List.map_cons, List.cons.injEq] at k
      have hv := h.vals
      simp only [List.map_cons] at hv
      cases hv with
      | cons h1 h2 =>
        have hg : g < 19 := hs _ List.mem_cons_self
        obtain ⟨p1, p2⟩ := p
        by_cases hgi : g = i
        · subst hgi
          simp [getFld] at e
          subst e
          exact ⟨p2, by rw [List.lookup_cons]; simp [show p1 = f g from k.1], h1⟩
        · have hne : ¬ f i = p1 := fun z => hgi (hf g i (by rw [z]; exact k.1.symm) hg hi)
          simp only [getFld, hgi, if_false] at e
          obtain ⟨v, a, b⟩ := Pairs.look hf (kvs := r) (kv := q) ⟨k.2, h2⟩ (fun p hp => hs p (List.mem_cons_of_mem _ hp)) hi e
          refine ⟨v, ?_, b⟩
          rw [List.lookup_cons, beq_eq_false_iff_ne.mpr hne]
          exact a
end
end Ws
namespace Ws
open PySem
theorem fnm_inj : ∀ i j, fnm i = fnm j → i < 19 → j < 19 → i = j := by
  intro i j h hi hj
  have key : ∀ i : _root_.Fin 19, ∀ j : _root_.Fin 19, fnm i.1 = fnm j.1 → i = j := by decide +kernel
  exact congrArg (·.1) (key ⟨i, hi⟩ ⟨j, hj⟩ h)
section
variable {X : L2.Cx} {cm : Nat → Addr}
theorem r_fld {o : Expr} {d : ED} {f : Str} {i : Nat} {pos : Pos} (he : L2.PE X o (EvE X.K cm d)) (hf : fnm i = f) (hi : i < 19) (hc : ∀ c, c < 7 → L2.Cls X.K (cm c)) (hn : ∀ c, c < 7 → L2.NoAttr X.K (cm c) f)
    (hb : attributeBase o f X.env (eval o X.env) = eval o X.env := by rfl) : L2.PE X (.Attribute o f pos) (EvE X.K cm (eFld d i)) :=
  PE_imp (L2.pe_fld he hb) fun σ H Q ⟨ρ, A, σp, v, A', rl, rs, ev, k⟩ => by
    obtain ⟨x, A1, e1, ev1⟩ := bnd_inv ev
    refine ⟨ρ, A, σp, x, A1, rl, rs, e1, fun ρ1 H1 v1 x1 rl1 rv1 => ?_⟩
    cases x with
    | ref n =>
      obtain ⟨o, A2, e2, ev2⟩ := bnd_inv ev1
      obtain ⟨rfl, hA, a, dx, kv, rfl, hn', hH, hp, hs⟩ := ins_read rl1 rv1 e2
      rcases hg : getFld i o.2 with _ | u
      · rw [hg] at ev2; cases ev2
      · rw [hg] at ev2
        cases ev2
        obtain ⟨w, hw, rw'⟩ := hp.look fnm_inj hs hi hg
        rw [hf] at hw
        exact ⟨a, _, dx, kv, w, rfl, hH, hc _ (ins_lt rl1 hA hn'), hn _ (ins_lt rl1 hA hn'), hw, k ρ1 H1 w x1 rl1 rw'⟩
    | _ => cases ev1
theorem Pairs.put {ρ : List Addr} {H : L2.Hp} {i : Nat} {x : PV} {v : L2.V} (hi : i < 19) (rv : RV ρ H x v) : ∀ {kvs : List (Nat × PV)} {kv : List (Str × L2.V)}, Pairs fnm ρ H kvs kv → (∀ p ∈ kvs, p.1 < 19) → Pairs fnm ρ H (putFld i x kvs) (L2.putF (fnm i) v kv)
  | [], kv, h, _ => by
    cases kv with
    | nil => exact ⟨rfl, .cons rv .nil⟩
    | cons p q => have := h.keys; simp at this
  | (g, u) :: r, kv, h, hs => by
    cases kv with
    | nil => have := h.keys; simp at this
    | cons p q =>
      have k := h.keys
      simp only [List.map_cons, List.cons.injEq] at k
      have hv := h.vals
      simp only [List.map_cons] at hv
      cases hv with
      | cons h1 h2 =>
        obtain ⟨p1, p2⟩ := p
        have hg : g < 19 := hs _ List.mem_cons_self
        have k1 : p1 = fnm g := k.1
        by_cases hgi : g = i
        · subst hgi
          have e : L2.putF (fnm g) v ((p1, p2) :: q) = (p1, v) :: q := by
            show (if p1 = fnm g then _ else _) = _
            rw [if_pos k1]
          rw [e]
          simp only [putFld, if_true]
          exact ⟨by simp [k1, k.2], .cons rv h2⟩
        · have hne : ¬ p1 = fnm i := fun z => hgi (fnm_inj g i (by rw [← z]; exact k1.symm) hg hi)
          have e : L2.putF (fnm i) v ((p1, p2) :: q) = (p1, p2) :: L2.putF (fnm i) v q := by
            show (if p1 = fnm i then _ else _) = _
            rw [if_neg hne]
          rw [e]
          simp only [putFld, hgi, if_false]
          have ih := Pairs.put hi rv (kvs := r) (kv := q) ⟨k.2, h2⟩ fun p hp => hs p (List.mem_cons_of_mem _ hp)
          exact ⟨by simp only [List.map_cons]; rw [ih.keys, k1], .cons h1 ih.vals⟩
theorem putFld_lt {i : Nat} {x : PV} (hi : i < 19) : ∀ {kvs : List (Nat × PV)}, (∀ p ∈ kvs, p.1 < 19) → ∀ p ∈ putFld i x kvs, p.1 < 19
  | [], _, p, hp => by simp [putFld] at hp; subst hp; exact hi
  | (g, u) :: r, hs, p, hp => by
    unfold putFld at hp
    split at hp
    · rcases List.mem_cons.mp hp with rfl | hp
      · exact hs (g, u) List.mem_cons_self
      · exact hs p (List.mem_cons_of_mem _ hp)
    · rcases List.mem_cons.mp hp with rfl | hp
      · exact hs (g, u) List.mem_cons_self
      · exact putFld_lt hi (fun q hq => hs q (List.mem_cons_of_mem _ hq)) p hp
theorem s_fld {o value : Expr} {d e : ED} {f : Str} {i : Nat} {pos pos' : Pos} (ho : L2.PE X o (EvE X.K cm d)) (hv : L2.PE X value (EvE X.K cm e)) (hf : fnm i = f) (hi : i < 19) (hc : ∀ c, c < 7 → L2.Cls X.K (cm c)) (hn : ∀ c, c < 7 → L2.NoAttr X.K (cm c) f)
    (hs : swapsWith value (some (.Attribute o f pos')) pos.line X.env = pure false := by rfl) : L2.PS X (.Assign [.Attribute o f pos'] value pos) (EvS X.K cm (sFld d i e)) :=
  PS_imp (L2.ps_fld ho hv hs) fun D σ H ⟨ρ, A, σp, fl, A', rl, rs, ev, k⟩ => by
    obtain ⟨y, A1, e1, ev1⟩ := bnd_inv ev
    obtain ⟨x, A2, e2, ev2⟩ := bnd_inv ev1
    refine ⟨ρ, A, σp, y, A1, rl, rs, e1, fun ρ1 H1 v1 x1 rl1 rv1 => ⟨ρ1, A1, σp, x, A2, rl1, rs.mono x1, e2, fun ρ2 H2 v2 x2 rl2 rv2 => ?_⟩⟩
    cases x with
    | ref n =>
      obtain ⟨o, A3, e3, ev3⟩ := bnd_inv ev2
      obtain ⟨rfl, hA, a, dx, kv, rfl, hn', hH, hp, hs'⟩ := ins_read rl2 rv2 e3
      obtain ⟨c, ev4⟩ := guard_inv ev3
      cases ev4
      have hkl : kv.length = o.2.length := by have := congrArg List.length hp.keys; simpa using this
      refine ⟨a, cm o.1, dx, kv, rfl, hH, hc _ (ins_lt rl2 hA hn'), hn _ (ins_lt rl2 hA hn'), by omega, ?_⟩
      rw [← hf]
      have ex : Ext ρ2 H2 ρ2 (L2.upd H2 a (.ins (cm o.1) dx (L2.putF (fnm i) v1 kv))) := Ext.put rl2 hn' hA rfl
      have rl3 : Rel X.K cm ρ2 (A3.set n (.ins o.1 (putFld i y o.2))) (L2.upd H2 a (.ins (cm o.1) dx (L2.putF (fnm i) v1 kv))) :=
        rl2.put hn' hA rfl rfl ⟨⟨ins_lt rl2 hA hn', putFld_lt hi hs'⟩, dx, _, L2.upd_same, (hp.mono ex).put hi ((rv1.mono x2).mono ex) hs'⟩
      exact k ρ2 _ ((x1.trans x2).trans ex) rl3 σ (((rs.mono x1).mono x2).mono ex)
    | _ => cases ev2
theorem r_append {o e : Expr} {d u : ED} {apos cpos : Pos} (ho : L2.PE X o (EvE X.K cm d)) (he : L2.PE X e (EvE X.K cm u))
    (hb : attributeBase o "append" X.env (eval o X.env) = eval o X.env := by rfl) (hs : starEach [e] X.env = (false, eval e X.env) :: starEach [] X.env := by rfl)
    (hfew : ((backTo cpos (starEach [e] X.env)).all (fun x => !x.1) && (backToKw cpos (keywordEach [] X.env)).all (fun x => x.1.isSome) && decide ([e].length + ([] : List Keyword).length + (if ([] : List Keyword).isEmpty then 0 else 1) < 30)) = true := by rfl)
    (hline : (apos.endLine == cpos.line) = true := by rfl) : L2.PE X (.Call (.Attribute o "append" apos) [e] [] cpos) (EvE X.K cm (eAppend d u)) :=
  PE_imp (L2.pe_bm PySem.F.plainAttrs_list PySem.F.slot_list_append PySem.F.type_list_append L2.mt_append ho (r_cons he r_nil hs) (hbase := hb) (hfew := hfew) (hline := hline) (hs := hs)) fun σ H Q ⟨ρ, A, σp, v, A', rl, rs, ev, k⟩ => by
    obtain ⟨x, A1, e1, ev1⟩ := bnd_inv ev
    refine ⟨ρ, A, σp, x, A1, rl, rs, e1, fun ρ1 H1 v1 x1 rl1 rv1 => ?_⟩
    cases x with
    | ref n =>
      obtain ⟨l0, A2, e2, ev2⟩ := bnd_inv ev1
      obtain ⟨rfl, hA, a, xs, rfl, hn, hH, r0⟩ := mut_read rl1 rv1 e2
      refine ⟨.inl ⟨rfl, xs, L2.SqL.of hH⟩, ?_⟩
      obtain ⟨y, A3, e3, ev3⟩ := bnd_inv ev2
      obtain ⟨l, A4, e4, ev4⟩ := bnd_inv ev3
      obtain ⟨c, ev5⟩ := guard_inv ev4
      cases ev5
      refine ⟨ρ1, _, σp, [y], A3, rl1, rs.mono x1, by show bnd (u σp) _ _ = _; rw [bnd_ok e3]; rfl, fun ρ2 H2 vs2 x2 rl2 rv2 => ?_⟩
      cases rv2 with
      | cons hv hr =>
        cases hr
        obtain ⟨rfl, hA2, a2, ys, e5, hn2, hH2, r2⟩ := mut_read rl2 (rv1.mono x2) e4
        cases e5
        refine ⟨a, ys, _, rfl, rfl, hH2, by rw [← r2.length]; exact LIM_lt c, ?_⟩
        refine k ρ2 _ _ ((x1.trans x2).trans (Ext.put rl2 hn2 hA2 rfl)) (rl2.put hn2 hA2 rfl rfl ⟨_, L2.upd_same, ?_⟩) .non
        exact (r2.mono (Ext.put rl2 hn2 hA2 rfl)).append (.cons (hv.mono (Ext.put rl2 hn2 hA2 rfl)) .nil)
    | _ => cases ev1
theorem g_name {i : Nat} {e : Expr} (h : L2.PG X e (L2.gName i)) : L2.PG X e (EvG X.K cm (gName i)) := PG_imp h fun v σ H Q ⟨ρ, A, σp, x, σp', A', rl, rs, rv, ev, k⟩ => by
  cases ev
  exact k ρ H _ (Ext.refl _ _) rl (rs.set i rv)
theorem g_nil : L2.PGs X [] (EvGs X.K cm gNil) := PGs_imp L2.pgs_nil fun vs σ H Q ⟨ρ, A, σp, xs, σp', A', rl, rs, rv, ev, k⟩ => by
  cases xs with
  | nil => cases ev; cases rv; exact ⟨rfl, k ρ H _ (Ext.refl _ _) rl rs⟩
  | cons y ys => cases ev
theorem g_cons {e : Expr} {es : List Expr} {g : GD} {r : GDs} (h1 : L2.PG X e (EvG X.K cm g)) (h2 : L2.PGs X es (EvGs X.K cm r)) (hs : (assignEach (e :: es) X.env).map (·.2) = assign e X.env :: (assignEach es X.env).map (·.2) := by rfl) : L2.PGs X (e :: es) (EvGs X.K cm (gCons g r)) :=
  PGs_imp (L2.pgs_cons h1 h2 hs) fun vs σ H Q ⟨ρ, A, σp, xs, σp', A', rl, rs, rv, ev, k⟩ => by
    cases xs with
    | nil => cases ev
    | cons y ys =>
      obtain ⟨σ1, A1, e1, ev1⟩ := bnd_inv ev
      cases rv with
      | cons hv hr =>
        exact ⟨_, _, rfl, ρ, A, σp, y, σ1, A1, rl, rs, hv, e1, fun ρ1 H1 σ' x1 rl1 rs1 => ⟨ρ1, A1, σ1, ys, σp', A', rl1, rs1, hr.mono x1, ev1, fun ρ2 H2 σ2 x2 rl2 rs2 => k ρ2 H2 σ2 (x1.trans x2) rl2 rs2⟩⟩
theorem g_tup {es : List Expr} {j n : Nat} {g : GDs} {pos : Pos} (hc : X.calm = true) (h : L2.PGs X es (EvGs X.K cm g)) (hn : (assignEach es X.env).length = n := by rfl) (hst : (assignEach es X.env).findIdx? (·.1) = none := by rfl) : L2.PG X (.Tuple es j pos) (EvG X.K cm (gTup n g)) :=
  PG_imp (L2.pg_tup hc h hn hst) fun v σ H Q ⟨ρ, A, σp, x, σp', A', rl, rs, rv, ev, k⟩ => by
    cases x with
    | tup l =>
      obtain ⟨c, ev1⟩ := guard_inv ev
      cases rv with
      | tup ha r => exact ⟨_, _, rfl, L2.SqT.of ha, by rw [← r.length]; exact c, ρ, A, σp, l, σp', A', rl, rs, r, ev1, k⟩
    | _ => cases ev
theorem s_never {st : Stmt} : L2.PS X st (EvS X.K cm sNever) := PS_imp L2.ps_never fun D σ H ⟨ρ, A, σp, f, A', rl, rs, ev, k⟩ => by cases ev
theorem ss_nil : L2.PSs X [] (EvS X.K cm sPass) := PSs_imp L2.pss_nil fun D σ H ⟨ρ, A, σp, f, A', rl, rs, ev, k⟩ => by
  cases ev; exact k ρ H (Ext.refl _ _) rl σ rs
theorem ss_one {st : Stmt} {s : SD} (h : L2.PS X st (EvS X.K cm s)) : L2.PSs X [st] (EvS X.K cm s) := L2.pss_one h
theorem ss_cons {st : Stmt} {rest : List Stmt} {s r : SD} (h1 : L2.PS X st (EvS X.K cm s)) (h2 : L2.PSs X rest (EvS X.K cm r)) : L2.PSs X (st :: rest) (EvS X.K cm (sSeq s r)) :=
  PSs_imp (L2.pss_cons h1 h2) fun D σ H ⟨ρ, A, σp, f, A', rl, rs, ev, k⟩ => by
    obtain ⟨o, A1, e1, ev1⟩ := bnd_inv ev
    refine ⟨ρ, A, σp, o, A1, rl, rs, e1, fun ρ1 H1 x1 rl1 => ?_⟩
    cases o with
    | nx σ1 => exact fun σ' rs' => ⟨ρ1, A1, σ1, f, A', rl1, rs', ev1, fun ρ2 H2 x2 rl2 => k ρ2 H2 (x1.trans x2) rl2⟩
    | rt v => cases ev1; exact fun v' rv => k ρ1 H1 x1 rl1 v' rv
    | bk σ1 => cases ev1; exact fun σ' rs' => k ρ1 H1 x1 rl1 σ' rs'
    | ct σ1 => cases ev1; exact fun σ' rs' => k ρ1 H1 x1 rl1 σ' rs'
theorem s_expr {e : Expr} {d : ED} {pos : Pos} (h : L2.PE X e (EvE X.K cm d)) (hs : swapsWith e none pos.line X.env = pure false := by rfl) : L2.PS X (.Expr e pos) (EvS X.K cm (sExpr d)) :=
  PS_imp (L2.ps_expr h hs) fun D σ H ⟨ρ, A, σp, f, A', rl, rs, ev, k⟩ => by
    obtain ⟨x, A1, e1, ev1⟩ := bnd_inv ev
    cases ev1
    exact ⟨ρ, A, σp, x, A', rl, rs, e1, fun ρ1 H1 v1 x1 rl1 rv1 => k ρ1 H1 x1 rl1 σ (rs.mono x1)⟩
theorem s_ret {e : Expr} {d : ED} {pos : Pos} (h : L2.PE X e (EvE X.K cm d)) : L2.PS X (.Return (some e) pos) (EvS X.K cm (sRet d)) :=
  PS_imp (L2.ps_ret h) fun D σ H ⟨ρ, A, σp, f, A', rl, rs, ev, k⟩ => by
    obtain ⟨x, A1, e1, ev1⟩ := bnd_inv ev
    cases ev1
    exact ⟨ρ, A, σp, x, A', rl, rs, e1, fun ρ1 H1 v1 x1 rl1 rv1 => k ρ1 H1 x1 rl1 v1 rv1⟩
theorem s_if {c : Expr} {a b : List Stmt} {t : TD} {s u : SD} {pos : Pos} (hc : L2.PT X c (EvT X.K cm t)) (ha : L2.PSs X a (EvS X.K cm s)) (hb : L2.PSs X b (EvS X.K cm u)) : L2.PS X (.If c a b pos) (EvS X.K cm (sIf t s u)) :=
  PS_imp (L2.ps_if hc ha hb) fun D σ H ⟨ρ, A, σp, f, A', rl, rs, ev, k⟩ => by
    obtain ⟨x, A1, e1, ev1⟩ := bnd_inv ev
    refine ⟨ρ, A, σp, x, A1, rl, rs, e1, fun ρ1 H1 x1 rl1 => ?_⟩
    cases x with
    | true => rw [if_pos rfl] at ev1 ⊢; exact ⟨ρ1, A1, σp, f, A', rl1, rs.mono x1, ev1, fun ρ2 H2 x2 rl2 => k ρ2 H2 (x1.trans x2) rl2⟩
    | false => rw [if_neg (by simp)] at ev1 ⊢; exact ⟨ρ1, A1, σp, f, A', rl1, rs.mono x1, ev1, fun ρ2 H2 x2 rl2 => k ρ2 H2 (x1.trans x2) rl2⟩
theorem ev_asg {d : ED} {g : GD} {te : L2.TE} {tg : L2.TG} (he : ∀ σ H Q, EvE X.K cm d σ H Q → te σ H Q) (hg : ∀ v σ H Q, EvG X.K cm g v σ H Q → tg v σ H Q) {D : L2.Ends} {σ : L2.St} {H : L2.Hp} (h : EvS X.K cm (sAsg d g) D σ H) : L2.tAsg te tg D σ H := by
  obtain ⟨ρ, A, σp, f, A', rl, rs, ev, k⟩ := h
  obtain ⟨x, A1, e1, ev1⟩ := bnd_inv ev
  obtain ⟨σ1, A2, e2, ev2⟩ := bnd_inv ev1
  cases ev2
  exact he _ _ _ ⟨ρ, A, σp, x, A1, rl, rs, e1, fun ρ1 H1 v1 x1 rl1 rv1 => hg _ _ _ _ ⟨ρ1, A1, σp, x, σ1, A', rl1, rs.mono x1, rv1, e2, fun ρ2 H2 σ2 x2 rl2 rs2 => k ρ2 H2 (x1.trans x2) rl2 σ2 rs2⟩⟩
theorem s_asg {tg e : Expr} {d : ED} {g : GD} {pos : Pos} (he : L2.PE X e (EvE X.K cm d)) (hg : L2.PG X tg (EvG X.K cm g)) (hs : swapsWithSole [tg] e pos.line X.env = pure false := by rfl) (hw : swappedStores [tg] e X.env = pure none := by rfl)
    (h1 : (assignEach [tg] X.env).map (·.2) = [assign tg X.env] := by rfl) : L2.PS X (.Assign [tg] e pos) (EvS X.K cm (sAsg d g)) :=
  PS_imp (L2.ps_asg he hg hs hw h1) fun D σ H h => ev_asg (fun _ _ _ z => z) (fun _ _ _ _ z => z) h
theorem s_set {i : Nat} {x : Str} {e : Expr} {d : ED} {pos pos' : Pos} (hN : X.N.Nodup) (hi : X.N[i]? = some x) (hx : L2.Loc X.env.scope x) (he : L2.PE X e (EvE X.K cm d)) (hs : swapsWith e (some (.Name x pos')) pos.line X.env = pure false := by rfl)
    (hf : X.fn x = true ∨ X.env.scope.names.lookup x = some .local := by first | exact .inl rfl | exact .inr rfl | assumption) : L2.PS X (.Assign [.Name x pos'] e pos) (EvS X.K cm (sAsg d (gName i))) :=
  PS_imp (L2.ps_set hN hi hx he hs hf) fun D σ H h => ev_asg (fun _ _ _ z => z) (fun v σ H Q ⟨ρ, A, σp, x, σp', A', rl, rs, rv, ev, k⟩ => by
    cases ev
    exact k ρ H _ (Ext.refl _ _) rl (rs.set i rv)) h
end
end Ws
namespace Ws
open PySem
noncomputable def SpF (K : PySem.W.Frag) (cm : Nat → Addr) (f : Fun) (n : Nat) : L2.Sp := fun vs H Q _ => ∃ (ρ : List Addr) (A : PHp) (ps : List PV) (v : PV) (A' : PHp), Rel K cm ρ A H ∧ RVs ρ H ps vs ∧ ps.length = n ∧ f ps A = .ok v A' ∧
  ∀ ρ' H' v', Ext ρ H ρ' H' → Rel K cm ρ' A' H' → RV ρ' H' v v' → Q v' H'
theorem RSt.start0 {ρ : List Addr} {H : L2.Hp} {ps : List PV} {vs : List L2.V} {N : List Str} (r : RVs ρ H ps vs) : RSt ρ H (Ws.start N.length ps) (L2.start N vs) := by
  have hl := r.length
  refine ⟨by unfold Ws.start L2.start; simp [hl], fun i p hp => ?_⟩
  unfold Ws.start at hp
  by_cases hi : i < ps.length
  · rw [List.getElem?_append_left (by simpa using hi), List.getElem?_map] at hp
    rcases e : ps[i]? with _ | q
    · rw [e] at hp; cases hp
    · rw [e] at hp; cases hp
      obtain ⟨v, h1, h2⟩ := r.get e
      refine ⟨v, ?_, h2⟩
      unfold L2.start
      rw [List.getElem?_append_left (by simp; omega), List.getElem?_map, h1]; rfl
  · rw [List.getElem?_append_right (by simpa using hi), List.getElem?_replicate] at hp
    split at hp <;> cases hp
section
variable {P : Program} {w : World} {K : PySem.W.Frag} {mg : Str → Option Value} {base : Heap} {cm : Nat → Addr}
theorem fn_ok {x qual : Str} {st : Stmt} {f : Addr} {fd : FuncData} {N ps : List Str} {k : Nat} {s : SD} (F : L2.Fun K x qual st f fd) (S : L2.FnScope N ps (L2.defScope st))
    (hbody : ∀ (cdv : Value) (A : Around) (outer : List Env) (s0 : Shared) (H : L2.Hp) (E : L2.XK), L2.Room k (A.deeper (PyProof.Rows.envOfC qual (L2.defScope st) s0.heap.objs.size f cdv)) →
      L2.PSs (L2.cxOf L2.CX0 P w K mg base N qual (L2.defScope st) f cdv A outer s0 H E).nox (L2.defBody st) (EvS K cm s)) :
    L2.FnOk P w K mg base L2.CX0 (k + 1) f fd ps (SpF K cm (fn N.length ps.length s) ps.length) := by
  refine F.ok S (fun vs H Q E ⟨ρ, A, qs, v, A', rl, rv, hl, _, _⟩ => by rw [← rv.length]; exact hl) fun cdv A outer s0 H vs Q E hr h => ⟨_, hbody cdv A outer s0 H E hr, ?_⟩
  obtain ⟨ρ, B, qs, v, B', rl, rv, hl, ev, k⟩ := h
  obtain ⟨_, ev1⟩ := guard_inv ev
  obtain ⟨o, B1, e1, ev2⟩ := bnd_inv ev1
  refine ⟨ρ, B, Ws.start N.length qs, o, B1, rl, RSt.start0 rv, e1, fun ρ1 H1 x1 rl1 => ?_⟩
  cases o with
  | nx σ1 => cases ev2; exact fun σ' _ => k ρ1 H1 _ x1 rl1 .non
  | rt u => cases ev2; exact fun v' rv' => k ρ1 H1 v' x1 rl1 rv'
  | bk σ1 => cases ev2
  | ct σ1 => cases ev2
end
section
variable {X : L2.Cx} {cm : Nat → Addr}
theorem ev_call {f : Fun} {n : Nat} {ds : AD} (hn : ∀ vs A v A', f vs A = .ok v A' → vs.length = n) {σ : L2.St} {H : L2.Hp} {Q : L2.VK} (h : EvE X.K cm (eCall f ds) σ H Q) : L2.tCall (SpF X.K cm f n) [] L2.E0 (EvA X.K cm ds) σ H Q := by
  obtain ⟨ρ, A, σp, v, A', rl, rs, ev, k⟩ := h
  obtain ⟨xs, A1, e1, ev1⟩ := bnd_inv ev
  refine ⟨ρ, A, σp, xs, A1, rl, rs, e1, fun ρ1 H1 vs1 x1 rl1 rv1 => ?_⟩
  show SpF X.K cm f n (vs1 ++ []) H1 Q _
  rw [List.append_nil]
  exact ⟨ρ1, A1, xs, v, A', rl1, rv1, hn _ _ _ _ ev1, ev1, fun ρ2 H2 v2 x2 rl2 rv2 => k ρ2 H2 v2 (x1.trans x2) rl2 rv2⟩
theorem fn_len {n p : Nat} {s : SD} {vs : List PV} {A A' : PHp} {v : PV} (h : fn n p s vs A = .ok v A') : vs.length = p := (guard_inv h).1
theorem r_call {f : Fun} {n k : Nat} {fa : Addr} {fd : FuncData} {ps : List Str} {x : Str} {e : Expr} {es : List Expr} {ds : AD} {p pos : Pos} (F : L2.FnOk X.prog X.w X.K X.mg X.base L2.CX0 k fa fd ps (SpF X.K cm f n)) (hn : ∀ vs A v A', f vs A = .ok v A' → vs.length = n) (hr : L2.Room k X.A) (hg : L2.Gl X x) (hm : X.mg x = some (.ref fa)) (hk : PySem.W.keepIn X.K (.ref fa) = true) (hb : L2.Binds X.K fd ps [])
    (ha : L2.PA X (e :: es) (EvA X.K cm ds)) (hdb : (x == ("__debug__" : Str)) = false := by decide) (he : starEach (e :: es) X.env = (false, eval e X.env) :: starEach es X.env := by rfl) (hpl : (backTo pos (starEach es X.env)).any (·.1) = false := by rfl) :
    L2.PE X (.Call (.Name x p) (e :: es) [] pos) (EvE X.K cm (eCall f ds)) :=
  PE_imp (L2.pe_call F hr hg hm hk hb .nil L2.pass0 ha hdb he hpl) fun σ H Q h => ev_call hn h
theorem ev_meth {c : Nat} {f : Fun} {n : Nat} {m : Str} {d : ED} {ds : AD} (hn : ∀ vs A v A', f vs A = .ok v A' → vs.length = n) (hm : ∀ i, i < 19 → fnm i ≠ m) {σ : L2.St} {H : L2.Hp} {Q : L2.VK} (h : EvE X.K cm (eMeth c f d ds) σ H Q) :
    L2.tMeth (cm c) m (SpF X.K cm f n) [] L2.E0 (EvE X.K cm d) (EvA X.K cm ds) σ H Q := by
  obtain ⟨ρ, A, σp, v, A', rl, rs, ev, k⟩ := h
  obtain ⟨x, A1, e1, ev1⟩ := bnd_inv ev
  refine ⟨ρ, A, σp, x, A1, rl, rs, e1, fun ρ1 H1 v1 x1 rl1 rv1 => ?_⟩
  cases x with
  | ref j =>
    obtain ⟨o, A2, e2, ev2⟩ := bnd_inv ev1
    obtain ⟨rfl, hA, a, dx, kv, rfl, hn', hH, hp, hs⟩ := ins_read rl1 rv1 e2
    obtain ⟨hc, ev3⟩ := guard_inv ev2
    obtain ⟨xs, A3, e3, ev4⟩ := bnd_inv ev3
    subst hc
    have hno : kv.lookup m = none := by
      have key : ∀ (l : List (Str × L2.V)), (∀ z ∈ l.map (·.1), z ≠ m) → l.lookup m = none := fun l => by
        induction l with
        | nil => intro _; rfl
        | cons p q ih =>
          intro hz
          rw [List.lookup_cons, beq_eq_false_iff_ne.mpr (fun z => hz p.1 (by simp) z.symm)]
          exact ih fun z hz' => hz z (by simp at hz' ⊢; exact .inr hz')
      refine key kv fun z hz => ?_
      rw [hp.keys] at hz
      obtain ⟨q, hq, rfl⟩ := List.mem_map.mp hz
      exact hm _ (hs q hq)
    refine ⟨a, dx, kv, rfl, hH, hno, ρ1, _, σp, xs, A3, rl1, rs.mono x1, e3, fun ρ2 H2 vs2 x2 rl2 rv2 => ?_⟩
    show SpF X.K cm f n (.ref a :: (vs2 ++ [])) H2 Q _
    rw [List.append_nil]
    exact ⟨ρ2, A3, .ref j :: xs, v, A', rl2, .cons (rv1.mono x2) rv2, hn _ _ _ _ ev4, ev4, fun ρ3 H3 v3 x3 rl3 rv3 => k ρ3 H3 v3 ((x1.trans x2).trans x3) rl3 rv3⟩
  | _ => cases ev1
theorem r_meth {c : Nat} {f : Fun} {n k : Nat} {fa : Addr} {fd : FuncData} {ps : List Str} {m : Str} {o e : Expr} {es : List Expr} {d : ED} {ds : AD} {apos pos : Pos} {pl : Sem Bool} (ho : L2.PE X o (EvE X.K cm d)) (hc : L2.Cls X.K (cm c)) (hm : L2.Meth X.K (cm c) m fa)
    (F : L2.FnOk X.prog X.w X.K X.mg X.base L2.CX0 k fa fd ps (SpF X.K cm f n)) (hn : ∀ vs A v A', f vs A = .ok v A' → vs.length = n) (hnm : ∀ i, i < 19 → fnm i ≠ m) (hr : L2.Room k X.A) (hb : L2.Binds X.K fd ps []) (ha : L2.PA X (e :: es) (EvA X.K cm ds))
    (hst : starEach (e :: es) X.env = (false, eval e X.env) :: starEach es X.env := by rfl) (hpl : (backTo pos (starEach es X.env)).any (·.1) = false := by rfl)
    (ht : eval (.Call (.Attribute o m apos) (e :: es) [] pos) X.env = (do
      let ov ← eval o X.env
      standAt apos.atName
      let (f, first) ← holding [ov] (getMethod ov m pl)
      callWith pos f first (backTo pos (starEach (e :: es) X.env)) (backToKw pos (keywordEach [] X.env))) := by rfl) :
    L2.PE X (.Call (.Attribute o m apos) (e :: es) [] pos) (EvE X.K cm (eMeth c f d ds)) :=
  PE_imp (L2.pe_meth (pl := pl) ho hc hm F hr hb .nil L2.pass0 ha hst hpl ht) fun σ H Q h => ev_meth hn hnm h
theorem ev_make {c : Nat} {f : Fun} {n : Nat} {ds : AD} (h7 : c < 7) (hn : ∀ vs A v A', f vs A = .ok v A' → vs.length = n ∧ v = .non) {σ : L2.St} {H : L2.Hp} {Q : L2.VK} (h : EvE X.K cm (eMake c f ds) σ H Q) : L2.tMake (cm c) (SpF X.K cm f n) [] L2.E0 (EvA X.K cm ds) σ H Q := by
  obtain ⟨ρ, A, σp, v, A', rl, rs, ev, k⟩ := h
  obtain ⟨xs, A1, e1, ev1⟩ := bnd_inv ev
  obtain ⟨x, A2, e2, ev2⟩ := bnd_inv ev1
  cases e2
  obtain ⟨u, A3, e3, ev3⟩ := bnd_inv ev2
  cases ev3
  refine ⟨ρ, A, σp, xs, A1, rl, rs, e1, fun ρ1 H1 vs1 x1 rl1 rv1 x dx hx hdx hne => ?_⟩
  rw [List.append_nil]
  have g1 : Ext ρ1 H1 ρ1 (L2.upd H1 dx (.own x)) := Ext.same hdx
  have rl2 : Rel X.K cm ρ1 A1 (L2.upd H1 dx (.own x)) := rl1.grow g1 (keep_new hdx)
  have hx2 : L2.upd H1 dx (.own x) x = none := by rw [L2.upd_ne (Ne.symm hne)]; exact hx
  have g2 : Ext ρ1 (L2.upd H1 dx (.own x)) (ρ1 ++ [x]) (L2.upd (L2.upd H1 dx (.own x)) x (.ins (cm c) dx [])) := Ext.new hx2
  have rl3 : Rel X.K cm (ρ1 ++ [x]) (A1 ++ [.ins c []]) (L2.upd (L2.upd H1 dx (.own x)) x (.ins (cm c) dx [])) := rl2.alloc hx2 ⟨⟨h7, by simp⟩, dx, [], L2.upd_same, ⟨rfl, .nil⟩⟩ rfl
  have hl : (ρ1 ++ [x])[A1.length]? = some x := by rw [← rl1.len]; simp
  obtain ⟨hn1, rfl⟩ := hn _ _ _ _ e3
  refine ⟨ρ1 ++ [x], _, .ref A1.length :: xs, .non, A', rl3, .cons (.ref hl) ((rv1.mono g1).mono g2), hn1, e3, fun ρ4 H4 v4 x4 rl4 rv4 => ?_⟩
  cases rv4
  exact ⟨rfl, k ρ4 H4 _ (((x1.trans g1).trans g2).trans x4) rl4 (.ref (pre_at x4.pre hl))⟩
theorem r_make {c : Nat} (h7 : c < 7) {f : Fun} {n k : Nat} {fa : Addr} {fd : FuncData} {ps : List Str} {x : Str} {e : Expr} {es : List Expr} {ds : AD} {p pos : Pos} (Mk : L2.Mk X.K (cm c) fa) (F : L2.FnOk X.prog X.w X.K X.mg X.base L2.CX0 k fa fd ps (SpF X.K cm f n)) (hn : ∀ vs A v A', f vs A = .ok v A' → vs.length = n ∧ v = .non) (hr : L2.Room (k + 1) X.A)
    (hg : L2.Gl X x) (hm : X.mg x = some (.ref (cm c))) (hb : L2.Binds X.K fd ps []) (ha : L2.PA X (e :: es) (EvA X.K cm ds)) (hdb : (x == ("__debug__" : Str)) = false := by decide) (he : starEach (e :: es) X.env = (false, eval e X.env) :: starEach es X.env := by rfl) (hpl : (backTo pos (starEach es X.env)).any (·.1) = false := by rfl) :
    L2.PE X (.Call (.Name x p) (e :: es) [] pos) (EvE X.K cm (eMake c f ds)) :=
  PE_imp (L2.pe_make Mk F hr hg hm hb .nil L2.pass0 ha hdb he hpl) fun σ H Q h => ev_make h7 hn h
noncomputable def Ite (K : PySem.W.Frag) (a : Addr) : L2.It :=
  ⟨fun i H => ∃ xs x, L2.SqL K H a xs ∧ xs[i]? = some x, fun i H x H' => ∃ y p, (∀ xs, L2.SqL K H a xs → xs[i]? = some y) ∧ H p = none ∧ x = .ref p ∧ H' = L2.upd H p (.tup [.int i, y]), fun i H => ∃ xs, L2.SqL K H a xs ∧ xs.length ≤ i⟩
noncomputable def Itf (vs : List L2.V) : L2.It := ⟨fun i _ => i < vs.length, fun i H x H' => H' = H ∧ vs[i]? = some x, fun i _ => vs.length ≤ i⟩
noncomputable def SqK (k : Bool) (K : PySem.W.Frag) (H : L2.Hp) (a : Addr) (xs : List L2.V) : Prop := match k with
  | true => L2.SqT K H a xs
  | false => L2.SqL K H a xs
noncomputable def kindOf : PV → Bool
  | .tup _ => true
  | _ => false
noncomputable def Itz (K : PySem.W.Frag) (k1 k2 : Bool) (a b : Addr) : L2.It :=
  ⟨fun i H => ∃ xs ys x y, SqK k1 K H a xs ∧ SqK k2 K H b ys ∧ xs[i]? = some x ∧ ys[i]? = some y,
   fun i H v H' => ∃ x y p, (∀ xs, SqK k1 K H a xs → xs[i]? = some x) ∧ (∀ ys, SqK k2 K H b ys → ys[i]? = some y) ∧ H p = none ∧ v = .ref p ∧ H' = L2.upd H p (.tup [x, y]),
   fun i H => ∃ xs ys, SqK k1 K H a xs ∧ SqK k2 K H b ys ∧ (xs.length ≤ i ∨ ys.length ≤ i)⟩
theorem seqk_read {K : PySem.W.Frag} {ρ : List Addr} {H : L2.Hp} {A : PHp} {l : List PV} {v : L2.V} {x : PV} {A' : PHp} (rl : Rel K cm ρ A H) (r : RV ρ H x v) (h : seqOf x A = .ok l A') : A' = A ∧ ∃ a xs, v = .ref a ∧ SqK (kindOf x) K H a xs ∧ RVs ρ H l xs := by
  cases x with
  | ref n =>
    obtain ⟨e, a, xs, h1, h2, h3⟩ := lst_read rl r h
    exact ⟨e, a, xs, h1, h2, h3⟩
  | tup m =>
    cases h
    cases r with
    | tup h1 h2 => exact ⟨rfl, _, _, rfl, L2.SqT.of h1, h2⟩
  | _ => cases h
noncomputable def RIt (K : PySem.W.Frag) (ρ : List Addr) (H : L2.Hp) : It → L2.It → Prop
  | .rng lo n, j => j = L2.Itr lo n
  | .lst m, j => ∃ a, ρ[m]? = some a ∧ j = L2.Itl K a
  | .tup l, j => ∃ a vs, H a = some (.tup vs) ∧ RVs ρ H l vs ∧ j = L2.Itt K a
  | .enm m, j => ∃ a, ρ[m]? = some a ∧ j = Ite K a
  | .fix l, j => ∃ vs, RVs ρ H l vs ∧ j = Itf vs
  | .zip x y, j => ∃ a b, RV ρ H x (.ref a) ∧ RV ρ H y (.ref b) ∧ j = Itz K (kindOf x) (kindOf y) a b
theorem RIt.mono {K : PySem.W.Frag} {ρ ρ' : List Addr} {H H' : L2.Hp} {J : It} {j : L2.It} (h : RIt K ρ H J j) (e : Ext ρ H ρ' H') : RIt K ρ' H' J j := by
  cases J with
  | rng lo n => exact h
  | lst m => obtain ⟨a, h1, h2⟩ := h; exact ⟨a, pre_at e.pre h1, h2⟩
  | tup l => obtain ⟨a, vs, h1, h2, h3⟩ := h; exact ⟨a, vs, e.tup _ _ h1, h2.mono e, h3⟩
  | enm m => obtain ⟨a, h1, h2⟩ := h; exact ⟨a, pre_at e.pre h1, h2⟩
  | fix l => obtain ⟨vs, h1, h2⟩ := h; exact ⟨vs, h1.mono e, h2⟩
  | zip x y => obtain ⟨a, b, h1, h2, h3⟩ := h; exact ⟨a, b, h1.mono e, h2.mono e, h3⟩
noncomputable def EvI (K : PySem.W.Frag) (cm : Nat → Addr) (d : ID) : L2.TI := fun σ H R => ∃ (ρ : List Addr) (A : PHp) (σp : PSt) (J : It) (A' : PHp), Rel K cm ρ A H ∧ RSt ρ H σp σ ∧ d σp A = .ok J A' ∧
  ∀ ρ' H' j, Ext ρ H ρ' H' → Rel K cm ρ' A' H' → RIt K ρ' H' J j → R j H'
noncomputable def ItemIs (K : PySem.W.Frag) (cm : Nat → Addr) (ρ : List Addr) (A : PHp) (H : L2.Hp) (j : L2.It) (i : Nat) : Option PV → Prop
  | none => j.stop i H
  | some v => j.go i H ∧ ∀ y H', j.yld i H y H' → Ext ρ H ρ H' ∧ Rel K cm ρ A H' ∧ RV ρ H' v y
theorem item_ok {K : PySem.W.Frag} {ρ : List Addr} {H : L2.Hp} {A A' : PHp} {J : It} {j : L2.It} {i : Nat} {x : Option PV} (rl : Rel K cm ρ A H) (rj : RIt K ρ H J j) (e : item J i A = .ok x A') :
    A' = A ∧ ItemIs K cm ρ A H j i x := by
  cases J with
  | rng lo n =>
    cases e
    cases rj
    refine ⟨rfl, ?_⟩
    by_cases h : i < n
    · show ItemIs K cm ρ A H _ i (if i < n then some (PV.int (lo + i)) else none)
      rw [if_pos h]
      refine ⟨h, fun y H' ⟨e1, e2⟩ => ?_⟩
      subst e1; subst e2
      exact ⟨Ext.refl _ _, rl, .int _⟩
    · show ItemIs K cm ρ A H _ i (if i < n then some (PV.int (lo + i)) else none)
      rw [if_neg h]
      exact Nat.le_of_not_lt h
  | fix l =>
    cases e
    obtain ⟨vs, r, rfl⟩ := rj
    refine ⟨rfl, ?_⟩
    rcases hi : l[i]? with _ | v
    · show vs.length ≤ i
      rw [← r.length]; exact List.getElem?_eq_none_iff.mp hi
    · obtain ⟨u, hu, rv⟩ := r.get hi
      refine ⟨(List.getElem?_eq_some_iff.mp hu).1, fun y H' ⟨e3, e4⟩ => ?_⟩
      subst e3
      rw [hu] at e4; cases e4
      exact ⟨Ext.refl _ _, rl, rv⟩
  | zip x y =>
    obtain ⟨a, b, ra, rb, rfl⟩ := rj
    obtain ⟨l, A1, e1, e2⟩ := bnd_inv e
    obtain ⟨rfl, a', xs, h1, q1, r1⟩ := seqk_read rl ra e1
    cases h1
    obtain ⟨m, A2, e3, e4⟩ := bnd_inv e2
    obtain ⟨rfl, b', ys, h2, q2, r2⟩ := seqk_read rl rb e3
    cases h2
    cases e4
    refine ⟨rfl, ?_⟩
    rcases hi : l[i]? with _ | u
    · exact ⟨xs, ys, q1, q2, .inl (by rw [← r1.length]; exact List.getElem?_eq_none_iff.mp hi)⟩
    · rcases hj : m[i]? with _ | v
      · exact ⟨xs, ys, q1, q2, .inr (by rw [← r2.length]; exact List.getElem?_eq_none_iff.mp hj)⟩
      · obtain ⟨u', hu, ru⟩ := r1.get hi
        obtain ⟨v', hv, rv⟩ := r2.get hj
        refine ⟨⟨xs, ys, u', v', q1, q2, hu, hv⟩, fun z H' ⟨x', y', p, g1, g2, g3, g4, g5⟩ => ?_⟩
        have g1 := g1 xs q1
        have g2 := g2 ys q2
        rw [hu] at g1; cases g1
        rw [hv] at g2; cases g2
        subst g4; subst g5
        exact ⟨Ext.same g3, rl.tup g3, .tup L2.upd_same (.cons (ru.mono (Ext.same g3)) (.cons (rv.mono (Ext.same g3)) .nil))⟩
  | lst m =>
    obtain ⟨a, ha, rfl⟩ := rj
    obtain ⟨l, A1, e1, e2⟩ := bnd_inv e
    obtain ⟨rfl, b, xs, hb, hs, r⟩ := lst_read rl (.ref ha) e1
    cases hb
    cases e2
    refine ⟨rfl, ?_⟩
    rcases hi : l[i]? with _ | v
    · exact ⟨xs, hs, by rw [← r.length]; exact List.getElem?_eq_none_iff.mp hi⟩
    · obtain ⟨u, hu, rv⟩ := r.get hi
      refine ⟨⟨xs, u, hs, hu⟩, fun y H' ⟨e3, e4⟩ => ?_⟩
      subst e3
      have := e4 xs hs
      rw [hu] at this; cases this
      exact ⟨Ext.refl _ _, rl, rv⟩
  | tup l =>
    obtain ⟨a, vs, ha, r, rfl⟩ := rj
    cases e
    refine ⟨rfl, ?_⟩
    rcases hi : l[i]? with _ | v
    · exact ⟨vs, L2.SqT.of ha, by rw [← r.length]; exact List.getElem?_eq_none_iff.mp hi⟩
    · obtain ⟨u, hu, rv⟩ := r.get hi
      refine ⟨⟨vs, u, L2.SqT.of ha, hu⟩, fun y H' ⟨e3, e4⟩ => ?_⟩
      subst e3
      have := e4 vs (L2.SqT.of ha)
      rw [hu] at this; cases this
      exact ⟨Ext.refl _ _, rl, rv⟩
  | enm m =>
    obtain ⟨a, ha, rfl⟩ := rj
    obtain ⟨l, A1, e1, e2⟩ := bnd_inv e
    obtain ⟨rfl, b, xs, hb, hs, r⟩ := lst_read rl (.ref ha) e1
    cases hb
    cases e2
    refine ⟨rfl, ?_⟩
    rcases hi : l[i]? with _ | v
    · exact ⟨xs, hs, by rw [← r.length]; exact List.getElem?_eq_none_iff.mp hi⟩
    · obtain ⟨u, hu, rv⟩ := r.get hi
      refine ⟨⟨xs, u, hs, hu⟩, fun y H' ⟨y', p, h2, h3, h4, h5⟩ => ?_⟩
      have h2 := h2 xs hs
      rw [hu] at h2; cases h2
      subst h4; subst h5
      exact ⟨Ext.same h3, rl.tup h3, .tup L2.upd_same (.cons (.int _) (.cons (rv.mono (Ext.same h3)) .nil))⟩
theorem fuel_same {J : It} {A A' : PHp} {n : Nat} (h : fuelOf J A = .ok n A') : A' = A := by
  have key : ∀ a, bnd (lstAt a) (fun l => ret l.length) A = .ok n A' → A' = A := fun a h => by
    obtain ⟨l, A1, e1, e2⟩ := bnd_inv h
    cases e2
    unfold lstAt at e1
    rcases hA : A[a]? with _ | o
    · rw [hA] at e1; cases e1
    · cases o <;> rw [hA] at e1 <;> cases e1 <;> rfl
  cases J with
  | rng lo n => cases h; rfl
  | lst m => exact key m h
  | tup l => cases h; rfl
  | fix l => cases h; rfl
  | enm m => exact key m h
  | zip x y =>
    cases x with
    | ref n =>
      exact key n h
    | tup l => cases h; rfl
    | _ => cases h
theorem s_for {tg iter : Expr} {body : List Stmt} {it : ID} {g : GD} {b : SD} {pos : Pos} (hp : PassesOwn (model X.prog X.w) X.A X.env X.xe) (hc : X.calm = true) (hi : L2.PI X tg iter (EvI X.K cm it)) (hg : L2.PG X tg (EvG X.K cm g)) (hb : L2.PSs X body (EvS X.K cm b))
    (hs : ∀ x, foldedSetIterable iter X.env x = pure x := by intro _; rfl) : L2.PS X (.For tg iter body [] pos) (EvS X.K cm (sFor it g b)) :=
  PS_imp (L2.ps_for hp hc hi hg hb hs) fun D σ H ⟨ρ, A, σp, f, A', rl, rs, ev, k⟩ => by
    obtain ⟨J, A1, e1, ev1⟩ := bnd_inv ev
    obtain ⟨n, A2, e2, ev2⟩ := bnd_inv ev1
    obtain rfl := fuel_same e2
    refine ⟨ρ, A, σp, J, A2, rl, rs, e1, fun ρ1 H1 j x1 rl1 rj => ?_⟩
    refine ⟨fun i m σ' H' => ∃ ρ' B σp', Ext ρ1 H1 ρ' H' ∧ Rel X.K cm ρ' B H' ∧ RSt ρ' H' σp' σ' ∧ turns J g b (m + 1) i σp' B = .ok f A', ⟨n, ρ1, A2, σp, Ext.refl _ _, rl1, rs.mono x1, ev2⟩, ?_⟩
    rintro i m σ' H' ⟨ρ', B, σp', x2, rl2, rs2, ev3⟩
    rw [turns_succ] at ev3
    obtain ⟨x, B1, e3, ev4⟩ := bnd_inv ev3
    obtain ⟨rfl, hit⟩ := item_ok rl2 (rj.mono x2) e3
    cases x with
    | none =>
      cases ev4
      exact .inl ⟨hit, k ρ' H' (x1.trans x2) rl2 σ' rs2⟩
    | some v =>
      refine .inr ⟨hit.1, fun σ3 H3 => ∃ ρ3 B3 σp3, Ext ρ1 H1 ρ3 H3 ∧ Rel X.K cm ρ3 B3 H3 ∧ RSt ρ3 H3 σp3 σ3 ∧ turns J g b m (i + 1) σp3 B3 = .ok f A', ?_, fun y H3 hy => ?_⟩
      · rintro σ3 H3 ⟨ρ3, B3, σp3, x3, rl3, rs3, ev5⟩
        cases m with
        | zero => rw [turns_zero] at ev5; cases ev5
        | succ m => exact ⟨m, Nat.lt_succ_self _, ρ3, B3, σp3, x3, rl3, rs3, ev5⟩
      · obtain ⟨x3, rl3, rv3⟩ := hit.2 y H3 hy
        obtain ⟨σ4, B4, e4, ev5⟩ := bnd_inv ev4
        obtain ⟨o, B5, e5, ev6⟩ := bnd_inv ev5
        refine ⟨ρ', B1, σp', v, σ4, B4, rl3, rs2.mono x3, rv3, e4, fun ρ4 H4 σ5 x4 rl4 rs4 => ⟨ρ4, B4, σ4, o, B5, rl4, rs4, e5, fun ρ5 H5 x5 rl5 => ?_⟩⟩
        have x15 := (((x2.trans x3).trans x4).trans x5)
        cases o with
        | nx σ6 => exact fun σ7 rs7 => ⟨ρ5, B5, σ6, x15, rl5, rs7, ev6⟩
        | ct σ6 => exact fun σ7 rs7 => ⟨ρ5, B5, σ6, x15, rl5, rs7, ev6⟩
        | bk σ6 => cases ev6; exact fun σ7 rs7 => k ρ5 H5 (x1.trans x15) rl5 σ7 rs7
        | rt u => cases ev6; exact fun v' rv' => k ρ5 H5 (x1.trans x15) rl5 v' rv'
theorem s_while {c : Expr} {body : List Stmt} {t : TD} {b : SD} {pos : Pos} (hp : PassesOwn (model X.prog X.w) X.A X.env X.xe) (hc : L2.PT X c (EvT X.K cm t)) (hb : L2.PSs X body (EvS X.K cm b)) : L2.PS X (.While c body [] pos) (EvS X.K cm (sWhile t b)) :=
  PS_imp (L2.ps_while hp hc hb) fun D σ H ⟨ρ, A, σp, f, A', rl, rs, ev, k⟩ => by
    refine ⟨fun m σ' H' => ∃ ρ' B σp', Ext ρ H ρ' H' ∧ Rel X.K cm ρ' B H' ∧ RSt ρ' H' σp' σ' ∧ wturns t b m σp' B = .ok f A', ⟨LIM, ρ, A, σp, Ext.refl _ _, rl, rs, ev⟩, ?_⟩
    rintro m σ' H' ⟨ρ', B, σp', x1, rl1, rs1, ev1⟩
    cases m with
    | zero => rw [wturns_zero] at ev1; cases ev1
    | succ m =>
      rw [wturns_succ] at ev1
      obtain ⟨x, B1, e1, ev2⟩ := bnd_inv ev1
      refine ⟨ρ', B, σp', x, B1, rl1, rs1, e1, fun ρ2 H2 x2 rl2 => ?_⟩
      cases x with
      | false =>
        rw [if_neg (by simp)] at ev2 ⊢
        cases ev2
        exact k ρ2 H2 (x1.trans x2) rl2 σ' (rs1.mono x2)
      | true =>
        rw [if_pos rfl] at ev2 ⊢
        obtain ⟨o, B2, e2, ev3⟩ := bnd_inv ev2
        refine ⟨fun σ3 H3 => ∃ ρ3 B3 σp3, Ext ρ H ρ3 H3 ∧ Rel X.K cm ρ3 B3 H3 ∧ RSt ρ3 H3 σp3 σ3 ∧ wturns t b m σp3 B3 = .ok f A', fun σ3 H3 h => ⟨m, Nat.lt_succ_self _, h⟩, ρ2, B1, σp', o, B2, rl2, rs1.mono x2, e2, fun ρ3 H3 x3 rl3 => ?_⟩
        have x13 := (x1.trans x2).trans x3
        cases o with
        | nx σ6 => exact fun σ7 rs7 => ⟨ρ3, B2, σ6, x13, rl3, rs7, ev3⟩
        | ct σ6 => exact fun σ7 rs7 => ⟨ρ3, B2, σ6, x13, rl3, rs7, ev3⟩
        | bk σ6 => cases ev3; exact fun σ7 rs7 => k ρ3 H3 x13 rl3 σ7 rs7
        | rt u => cases ev3; exact fun v' rv' => k ρ3 H3 x13 rl3 v' rv'
theorem PI_imp {tg iter : Expr} {t t' : L2.TI} (h : L2.PI X tg iter t) (k : ∀ σ H R, t' σ H R → t σ H R) : L2.PI X tg iter t' := fun pins s σ H R I q => h pins s σ H R I (k σ H R q)
theorem i_rng1 {tg a : Expr} {d : ED} {p pos : Pos} (hg : L2.Gl X "range") (hm : X.mg "range" = none) (ha : L2.PE X a (EvE X.K cm d)) (hs : starEach [a] X.env = [(false, eval a X.env)] := by rfl) : L2.PI X tg (.Call (.Name "range" p) [a] [] pos) (EvI X.K cm (iRng1 d)) :=
  PI_imp (L2.pi_range1 hg hm (r_cons ha r_nil hs) hs) fun σ H R ⟨ρ, A, σp, J, A', rl, rs, ev, k⟩ => by
    obtain ⟨x, A1, e1, ev1⟩ := bnd_inv ev
    refine ⟨ρ, A, σp, [x], A1, rl, rs, by show bnd (d σp) _ A = _; rw [bnd_ok e1]; rfl, fun ρ1 H1 vs1 x1 rl1 rv1 => ?_⟩
    cases x with
    | int i =>
      obtain ⟨c, ev2⟩ := guard_inv ev1
      cases ev2
      cases rv1 with
      | cons hv hr => cases hr; cases hv; exact ⟨i, rfl, c.1, c.2, k ρ1 H1 _ x1 rl1 rfl⟩
    | _ => cases ev1
theorem i_rng2 {tg a b : Expr} {d e : ED} {p pos : Pos} (hg : L2.Gl X "range") (hm : X.mg "range" = none) (ha : L2.PE X a (EvE X.K cm d)) (hb : L2.PE X b (EvE X.K cm e)) (hs : starEach [a, b] X.env = [(false, eval a X.env), (false, eval b X.env)] := by rfl) (hs2 : starEach [b] X.env = [(false, eval b X.env)] := by rfl) : L2.PI X tg (.Call (.Name "range" p) [a, b] [] pos) (EvI X.K cm (iRng2 d e)) :=
  PI_imp (L2.pi_range2 hg hm (r_cons ha (r_cons hb r_nil hs2) (by rw [hs, hs2])) hs hs2) fun σ H R ⟨ρ, A, σp, J, A', rl, rs, ev, k⟩ => by
    obtain ⟨x, A1, e1, ev1⟩ := bnd_inv ev
    obtain ⟨y, A2, e2, ev2⟩ := bnd_inv ev1
    refine ⟨ρ, A, σp, [x, y], A2, rl, rs, by show bnd (d σp) _ A = _; rw [bnd_ok e1]; show bnd (bnd (e σp) _) _ A1 = _; rw [bnd_ok (show bnd (e σp) _ A1 = .ok [y] A2 by rw [bnd_ok e2]; rfl)]; rfl, fun ρ1 H1 vs1 x1 rl1 rv1 => ?_⟩
    cases x with
    | int i =>
      cases y with
      | int j =>
        obtain ⟨c, ev3⟩ := guard_inv ev2
        cases ev3
        cases rv1 with
        | cons hv hr =>
          cases hr with
          | cons hv2 hr2 => cases hr2; cases hv; cases hv2; exact ⟨i, j, rfl, ⟨c.1.1, c.1.2, c.2.1, c.2.2⟩, k ρ1 H1 _ x1 rl1 rfl⟩
      | _ => cases ev2
    | _ => cases ev2
noncomputable def iSeq2 (K : PySem.W.Frag) (tl : L2.TE) : L2.TI := fun σ H R => tl σ H fun x H1 => (∃ a, x = .ref a ∧ (∃ xs, L2.SqL K H1 a xs) ∧ R (L2.Itl K a) H1) ∨ (∃ a, x = .ref a ∧ (∃ xs, L2.SqT K H1 a xs) ∧ R (L2.Itt K a) H1)
theorem pi_seq2 {tg l : Expr} {tl : L2.TE} (hl : L2.PE X l tl) : L2.PI X tg l (iSeq2 X.K tl) := by
  intro pins s σ H R I h
  have a1 := L2.pi_list (tg := tg) hl
  have a2 := L2.pi_tup (tg := tg) hl
  refine L2.thn (hl pins s σ H _ I h) fun v s1 ⟨x, H1, I1, r1, q1⟩ => ?_
  rcases q1 with ⟨a, e, ⟨xs, hq⟩, q⟩ | ⟨a, e, ⟨xs, hq⟩, q⟩
  · subst e
    cases r1
    obtain ⟨its, rv, p, hz⟩ := I1.list hq
    refine wpAny_pyIter_list p.isList ?_
    refine ⟨s1.heap.objs.size, [s1.heap.objs.size], _, _, H1, rfl, I1.kept (t' := s1.toks) fun b o e => Heap.get?_push_of_some _ e, L2.turn_list a _, ⟨_, Heap.get?_push_size _ rfl, rfl, rfl⟩, fun b hb => ?_, q⟩
    have e : b = s1.heap.objs.size := by simpa using hb
    subst e
    exact I1.fpOk (Nat.le_refl _) (I1.hok.fresh (Nat.le_refl _))
  · subst e
    cases r1
    obtain ⟨its, rv, p, hz⟩ := I1.tuple hq
    refine wpAny_pyIter_tuple (show s1.heap.IsTuple a its.toArray from p) ?_
    refine ⟨s1.heap.objs.size, [s1.heap.objs.size], _, _, H1, rfl, I1.kept (t' := s1.toks) fun b o e => Heap.get?_push_of_some _ e, L2.turn_tuple a _, ⟨_, Heap.get?_push_size _ rfl, rfl, rfl⟩, fun b hb => ?_, q⟩
    have e : b = s1.heap.objs.size := by simpa using hb
    subst e
    exact I1.fpOk (Nat.le_refl _) (I1.hok.fresh (Nat.le_refl _))
theorem i_seq {tg l : Expr} {d : ED} (hl : L2.PE X l (EvE X.K cm d)) : L2.PI X tg l (EvI X.K cm (iSeq d)) := PI_imp (pi_seq2 hl) fun σ H R ⟨ρ, A, σp, J, A', rl, rs, ev, k⟩ => by
  obtain ⟨x, A1, e1, ev1⟩ := bnd_inv ev
  refine ⟨ρ, A, σp, x, A1, rl, rs, e1, fun ρ1 H1 v1 x1 rl1 rv1 => ?_⟩
  cases x with
  | ref n =>
    obtain ⟨l, A2, e2, ev2⟩ := bnd_inv ev1
    obtain ⟨rfl, a, xs, rfl, hs, r⟩ := lst_read rl1 rv1 e2
    cases ev2
    cases rv1 with
    | ref hn => exact .inl ⟨a, rfl, ⟨xs, hs⟩, k ρ1 H1 _ x1 rl1 ⟨a, hn, rfl⟩⟩
  | tup l =>
    cases ev1
    cases rv1 with
    | tup ha r => exact .inr ⟨_, rfl, ⟨_, L2.SqT.of ha⟩, k ρ1 H1 _ x1 rl1 ⟨_, _, ha, r, rfl⟩⟩
  | _ => cases ev1
end
end Ws
namespace Ws
open PySem
section
variable {ρ : List Addr} {H : L2.Hp}
mutual
theorem RV.uniq : ∀ {x y : PV} {v : L2.V}, RV ρ H x v → RV ρ H y v → nice x = true → nice y = true → x = y
  | _, _, _, .non, h, _, _ => by cases h; rfl
  | _, _, _, .bl b, _, n, _ => by simp [nice] at n
  | _, _, _, .int i, h, _, _ => by cases h; rfl
  | _, _, _, .str z, h, _, _ => by cases h; rfl
  | _, _, _, .tup h1 r1, h, n1, n2 => by
    cases h with
    | tup h2 r2 =>
      rw [h1] at h2; cases h2
      rw [RVs.uniq r1 r2 (by simpa [nice] using n1) (by simpa [nice] using n2)]
    | ref h2 => simp [nice] at n2
  | _, _, _, .ref _, _, n, _ => by simp [nice] at n
theorem RVs.uniq : ∀ {l m : List PV} {vs : List L2.V}, RVs ρ H l vs → RVs ρ H m vs → nices l = true → nices m = true → l = m
  | _, _, _, .nil, h, _, _ => by cases h; rfl
  | _, _, _, .cons h1 r1, h, n1, n2 => by
    cases h with
    | cons h2 r2 =>
      simp only [nices, Bool.and_eq_true] at n1 n2
      rw [RV.uniq h1 h2 n1.1 n2.1, RVs.uniq r1 r2 n1.2 n2.2]
end
end
theorem eqvs_len : ∀ {l m : List PV}, l.length ≠ m.length → eqvs l m = false
  | [], [], h => absurd rfl h
  | [], _ :: _, _ => rfl
  | _ :: _, [], _ => rfl
  | x :: xs, y :: ys, h => by
    have : xs.length ≠ ys.length := by simpa using h
    simp [eqvs, eqvs_len this]
theorem eqvs_all : ∀ {l m : List PV}, l.length = m.length → eqvs l m = (List.range l.length).all fun j => eqv (l.getD j .non) (m.getD j .non)
  | [], [], _ => rfl
  | [], _ :: _, h => by simp at h
  | _ :: _, [], h => by simp at h
  | x :: xs, y :: ys, h => by
    have e : xs.length = ys.length := by simpa using h
    rw [List.length_cons, List.range_succ_eq_map, List.all_cons, List.all_map]
    simp only [eqvs, eqvs_all e]
    rfl
theorem eqvs_tup {l m : List PV} : eqvs l m = ((List.range (min l.length m.length)).all (fun j => eqv (l.getD j .non) (m.getD j .non)) && l.length == m.length) := by
  by_cases h : l.length = m.length
  · rw [eqvs_all h, h]; simp
  · rw [eqvs_len h, beq_eq_false_iff_ne.mpr h, Bool.and_false]
section
variable {X : L2.Cx} {pins : List (Addr × Obj)} {σ : L2.St} {H : L2.Hp} {s : Shared} {ρ : List Addr} {A : Around}
open PySem.SeqAt
theorem eqAt0 {x y : PV} {vx vy : L2.V} {u v : Value} (rx : RV ρ H x vx) (ry : RV ρ H y vy) (hx : flat0 x = true) (hy : flat0 y = true) (ux : L2.RelV vx u) (uy : L2.RelV vy v) : EqAt A s u v (eqv x y) := by
  have key := L2.eqAt_V (A := A) (s := s) ux uy (by cases rx <;> simp_all [flat0, L2.flatV]) (by cases ry <;> simp_all [flat0, L2.flatV])
  have e : L2.eqV vx vy = eqv x y := by
    cases rx <;> cases ry <;> simp_all [flat0, L2.eqV, eqv] <;> (try (exact (Bool.beq_eq_decide_eq _ _)))
  rw [← e]; exact key
theorem eqAt_tups {f : PV → Bool} {l m : List PV} {a b : Addr} {vs ws : List L2.V} (I : L2.Inv X pins σ H s) (ha : H a = some (.tup vs)) (hb : H b = some (.tup ws)) (r1 : RVs ρ H l vs) (r2 : RVs ρ H m ws) (hl : l.all f = true) (hm : m.all f = true) (hf : ∀ x, f x = true → nice x = true) (hu : A.units < cLine)
    (ih : ∀ x y vx vy u v, RV ρ H x vx → RV ρ H y vy → f x = true → f y = true → L2.RelV vx u → L2.RelV vy v → EqAt A.in1 s u v (eqv x y)) :
    (a ≠ b → RcAt A s (.ref a) (.ref b) (eqvs l m)) ∧ RcAt A s (.ref a) (.ref b) (eqvs l m) ∧ EqAt A s (.ref a) (.ref b) (eqvs l m) := by
  obtain ⟨_, its, ri, pi⟩ := I.hok a _ ha
  obtain ⟨_, its2, ri2, pi2⟩ := I.hok b _ hb
  have rc : RcAt A s (.ref a) (.ref b) (eqvs l m) := by
    have h := RcAt.tuples (A := A) (s := s) (l := a) (b := b) (items := its.toArray) (items2 := its2.toArray) (e := fun j => eqv (l.getD j .non) (m.getD j .non)) pi pi2 hu (fun j h1 h2 => by
      simp only [List.size_toArray] at h1 h2
      have l1 : j < vs.length := by rw [ri.length]; exact h1
      have l2 : j < ws.length := by rw [ri2.length]; exact h2
      obtain ⟨x, ex, rx⟩ := r1.get' (i := j) (v := vs[j]) (by simp [l1])
      obtain ⟨y, ey, ry⟩ := r2.get' (i := j) (v := ws[j]) (by simp [l2])
      obtain ⟨u, eu, ru⟩ := ri.get (i := j) (x := vs[j]) (by simp [l1])
      obtain ⟨v, ev, rv⟩ := ri2.get (i := j) (x := ws[j]) (by simp [l2])
      have d1 : l.getD j .non = x := by rw [List.getD_eq_getElem?_getD, ex]; rfl
      have d2 : m.getD j .non = y := by rw [List.getD_eq_getElem?_getD, ey]; rfl
      have q1 : its.toArray[j] = u := by
        rw [List.getElem?_eq_getElem h1] at eu
        simpa using Option.some.inj eu
      have q2 : its2.toArray[j] = v := by
        rw [List.getElem?_eq_getElem h2] at ev
        simpa using Option.some.inj ev
      rw [d1, d2, q1, q2]
      exact ih x y _ _ u v rx ry (List.all_eq_true.mp hl x (List.mem_of_getElem? ex)) (List.all_eq_true.mp hm y (List.mem_of_getElem? ey)) ru rv)
    rw [eqvs_tup]
    have z1 : its.toArray.size = l.length := by rw [List.size_toArray, ← ri.length, r1.length]
    have z2 : its2.toArray.size = m.length := by rw [List.size_toArray, ← ri2.length, r2.length]
    rw [z1, z2] at h
    exact h
  refine ⟨fun _ => rc, rc, ?_⟩
  by_cases hab : a = b
  · subst hab
    rw [ha] at hb; cases hb
    have e := RVs.uniq r1 r2 (nices_of hf l hl) (nices_of hf m hm)
    subst e
    rw [(eqvs_nice l l (nices_of hf l hl)).mpr rfl]
    exact EqAt.same _
  · exact EqAt.of_refs hab rc
theorem eqAt_mix {x y : PV} {vx vy : L2.V} {u v : Value} (I : L2.Inv X pins σ H s) (rx : RV ρ H x vx) (ry : RV ρ H y vy) (hu : A.units < cLine) (ux : L2.RelV vx u) (uy : L2.RelV vy v)
    (h : (∃ l, x = .tup l ∧ flat0 y = true) ∨ (∃ m, y = .tup m ∧ flat0 x = true)) : EqAt A s u v (eqv x y) ∧ RcAt A s u v (eqv x y) ∧ RcNeAt A s u v (!eqv x y) := by
  rcases h with ⟨l, rfl, hy⟩ | ⟨m, rfl, hx⟩
  · cases rx with
    | tup ha r =>
      obtain ⟨_, its, ri, pi⟩ := I.hok _ _ ha
      cases ux
      cases ry with
      | non => cases uy; exact ⟨EqAt.tuple_none pi hu, RcAt.tuple_none pi hu, RcNeAt.tuple_none pi hu⟩
      | int i => obtain ⟨t, rfl⟩ := uy; exact ⟨EqAt.tuple_int _ _ pi hu, RcAt.tuple_int _ _ pi hu, RcNeAt.tuple_int _ _ pi hu⟩
      | str i => obtain ⟨t, rfl⟩ := uy; exact ⟨EqAt.tuple_str _ _ pi hu, RcAt.tuple_str _ _ pi hu, RcNeAt.tuple_str _ _ pi hu⟩
      | bl b => simp [flat0] at hy
      | tup h2 r2 => simp [flat0] at hy
      | ref h2 => simp [flat0] at hy
  · cases ry with
    | tup ha r =>
      obtain ⟨_, its, ri, pi⟩ := I.hok _ _ ha
      cases uy
      cases rx with
      | non => cases ux; exact ⟨EqAt.none_tuple pi hu, RcAt.none_tuple pi hu, RcNeAt.none_tuple pi hu⟩
      | int i => obtain ⟨t, rfl⟩ := ux; exact ⟨EqAt.int_tuple _ _ pi hu, RcAt.int_tuple _ _ pi hu, RcNeAt.int_tuple _ _ pi hu⟩
      | str i => obtain ⟨t, rfl⟩ := ux; exact ⟨EqAt.str_tuple _ _ pi hu, RcAt.str_tuple _ _ pi hu, RcNeAt.str_tuple _ _ pi hu⟩
      | bl b => simp [flat0] at hx
      | tup h2 r2 => simp [flat0] at hx
      | ref h2 => simp [flat0] at hx
theorem in1_units (A : Around) (n : Nat) (h : A.units + (n + 1) < cLine) : A.in1.units + n < cLine := by
  show A.units + 1 + n < cLine; omega
theorem eqAt1 (I : L2.Inv X pins σ H s) (A : Around) (hu : A.units + 1 < cLine) (x y : PV) (vx vy : L2.V) (u v : Value) (rx : RV ρ H x vx) (ry : RV ρ H y vy) (hx : flat1 x = true) (hy : flat1 y = true) (ux : L2.RelV vx u) (uy : L2.RelV vy v) : EqAt A s u v (eqv x y) := by
  cases x with
  | tup l =>
    cases y with
    | tup m =>
      cases rx with
      | tup ha r1 =>
        cases ry with
        | tup hb r2 =>
          cases ux; cases uy
          exact (eqAt_tups I ha hb r1 r2 hx hy nice0 (by omega) (fun x y vx vy u v rx ry h1 h2 u1 u2 => eqAt0 rx ry h1 h2 u1 u2)).2.2
    | _ => exact (eqAt_mix I rx ry (by omega) ux uy (.inl ⟨_, rfl, hy⟩)).1
  | _ =>
    cases y with
    | tup m => exact (eqAt_mix I rx ry (by omega) ux uy (.inr ⟨_, rfl, hx⟩)).1
    | _ => exact eqAt0 rx ry hx hy ux uy
theorem eqAt2 (I : L2.Inv X pins σ H s) (A : Around) (hu : A.units + 2 < cLine) (x y : PV) (vx vy : L2.V) (u v : Value) (rx : RV ρ H x vx) (ry : RV ρ H y vy) (hx : flat2 x = true) (hy : flat2 y = true) (ux : L2.RelV vx u) (uy : L2.RelV vy v) : EqAt A s u v (eqv x y) := by
  cases x with
  | tup l =>
    cases y with
    | tup m =>
      cases rx with
      | tup ha r1 =>
        cases ry with
        | tup hb r2 =>
          cases ux; cases uy
          exact (eqAt_tups I ha hb r1 r2 hx hy nice1 (by omega) (fun x y vx vy u v rx ry h1 h2 u1 u2 => eqAt1 I A.in1 (in1_units A 1 (by omega)) x y vx vy u v rx ry h1 h2 u1 u2)).2.2
    | _ => exact (eqAt_mix I rx ry (by omega) ux uy (.inl ⟨_, rfl, hy⟩)).1
  | _ =>
    cases y with
    | tup m => exact (eqAt_mix I rx ry (by omega) ux uy (.inr ⟨_, rfl, hx⟩)).1
    | _ => exact eqAt0 rx ry hx hy ux uy
theorem eqAt3 (I : L2.Inv X pins σ H s) (A : Around) (hu : A.units + 3 < cLine) (x y : PV) (vx vy : L2.V) (u v : Value) (rx : RV ρ H x vx) (ry : RV ρ H y vy) (hx : plain x = true) (hy : plain y = true) (ux : L2.RelV vx u) (uy : L2.RelV vy v) : EqAt A s u v (eqv x y) := by
  cases x with
  | tup l =>
    cases y with
    | tup m =>
      cases rx with
      | tup ha r1 =>
        cases ry with
        | tup hb r2 =>
          cases ux; cases uy
          exact (eqAt_tups I ha hb r1 r2 hx hy nice2 (by omega) (fun x y vx vy u v rx ry h1 h2 u1 u2 => eqAt2 I A.in1 (in1_units A 2 (by omega)) x y vx vy u v rx ry h1 h2 u1 u2)).2.2
    | _ => exact (eqAt_mix I rx ry (by omega) ux uy (.inl ⟨_, rfl, hy⟩)).1
  | _ =>
    cases y with
    | tup m => exact (eqAt_mix I rx ry (by omega) ux uy (.inr ⟨_, rfl, hx⟩)).1
    | _ => exact eqAt0 rx ry hx hy ux uy
end
end Ws
namespace Ws
open PySem PySem.SeqAt
section
variable {X : L2.Cx} {cm : Nat → Addr} {pins : List (Addr × Obj)} {σ : L2.St} {H : L2.Hp} {s : Shared} {ρ : List Addr} {A : Around}
theorem rc0 {x y : PV} {vx vy : L2.V} {u v : Value} (rx : RV ρ H x vx) (ry : RV ρ H y vy) (hx : flat0 x = true) (hy : flat0 y = true) (ux : L2.RelV vx u) (uy : L2.RelV vy v) : RcAt A s u v (eqv x y) ∧ RcNeAt A s u v (!eqv x y) := by
  have hb : ∀ (i j : Int), (i == j) = decide (i = j) := fun i j => by rw [Bool.beq_eq_decide_eq]
  have hs : ∀ (i j : Str), (i == j) = decide (i = j) := fun i j => by rw [Bool.beq_eq_decide_eq]
  cases rx with
  | non =>
    cases ux
    cases ry with
    | non => cases uy; exact ⟨RcAt.none_none, RcNeAt.none_none⟩
    | int i => obtain ⟨t, rfl⟩ := uy; exact ⟨RcAt.none_int _ _, RcNeAt.none_int _ _⟩
    | str i => obtain ⟨t, rfl⟩ := uy; exact ⟨RcAt.none_str _ _, RcNeAt.none_str _ _⟩
    | _ => simp [flat0] at hy
  | int i =>
    obtain ⟨t, rfl⟩ := ux
    cases ry with
    | non => cases uy; exact ⟨RcAt.int_none _ _, RcNeAt.int_none _ _⟩
    | int j => obtain ⟨t', rfl⟩ := uy; simp only [eqv, ← hb]; exact ⟨RcAt.int_int _ _ _ _, RcNeAt.int_int _ _ _ _⟩
    | str j => obtain ⟨t', rfl⟩ := uy; exact ⟨RcAt.int_str _ _ _ _, RcNeAt.int_str _ _ _ _⟩
    | _ => simp [flat0] at hy
  | str i =>
    obtain ⟨t, rfl⟩ := ux
    cases ry with
    | non => cases uy; exact ⟨RcAt.str_none _ _, RcNeAt.str_none _ _⟩
    | int j => obtain ⟨t', rfl⟩ := uy; exact ⟨RcAt.str_int _ _ _ _, RcNeAt.str_int _ _ _ _⟩
    | str j => obtain ⟨t', rfl⟩ := uy; simp only [eqv, ← hs]; exact ⟨RcAt.str_str _ _ _ _, RcNeAt.str_str _ _ _ _⟩
    | _ => simp [flat0] at hy
  | _ => simp [flat0] at hx
theorem items_eq {f : PV → Bool} {l m : List PV} {vs ws : List L2.V} {its its2 : List Value} (r1 : RVs ρ H l vs) (r2 : RVs ρ H m ws) (ri : L2.Vals vs its) (ri2 : L2.Vals ws its2) (hl : l.all f = true) (hm : m.all f = true)
    (ih : ∀ x y vx vy u v, RV ρ H x vx → RV ρ H y vy → f x = true → f y = true → L2.RelV vx u → L2.RelV vy v → EqAt A s u v (eqv x y)) :
    ∀ j (h1 : j < its.toArray.size) (h2 : j < its2.toArray.size), EqAt A s its.toArray[j] its2.toArray[j] (eqv (l.getD j .non) (m.getD j .non)) := fun j h1 h2 => by
  simp only [List.size_toArray] at h1 h2
  have l1 : j < vs.length := by rw [ri.length]; exact h1
  have l2 : j < ws.length := by rw [ri2.length]; exact h2
  obtain ⟨x, ex, rx⟩ := r1.get' (i := j) (v := vs[j]) (by simp [l1])
  obtain ⟨y, ey, ry⟩ := r2.get' (i := j) (v := ws[j]) (by simp [l2])
  obtain ⟨u, eu, ru⟩ := ri.get (i := j) (x := vs[j]) (by simp [l1])
  obtain ⟨v, ev, rv⟩ := ri2.get (i := j) (x := ws[j]) (by simp [l2])
  have d1 : l.getD j .non = x := by rw [List.getD_eq_getElem?_getD, ex]; rfl
  have d2 : m.getD j .non = y := by rw [List.getD_eq_getElem?_getD, ey]; rfl
  have q1 : its.toArray[j] = u := by
    rw [List.getElem?_eq_getElem h1] at eu
    simpa using Option.some.inj eu
  have q2 : its2.toArray[j] = v := by
    rw [List.getElem?_eq_getElem h2] at ev
    simpa using Option.some.inj ev
  rw [d1, d2, q1, q2]
  exact ih x y _ _ u v rx ry (List.all_eq_true.mp hl x (List.mem_of_getElem? ex)) (List.all_eq_true.mp hm y (List.mem_of_getElem? ey)) ru rv
noncomputable def rEqP (K : PySem.W.Frag) (g : Bool → Bool) : L2.R2 := fun vx vy H Q => ∃ (ρ : List Addr), 
  (∃ x y, RV ρ H x vx ∧ RV ρ H y vy ∧ plain x = true ∧ plain y = true ∧ Q (.bl (g (eqv x y))) H) ∨ (∃ b c, vx = .bl b ∧ vy = .bl c ∧ Q (.bl (g (b == c))) H) ∨
  (∃ a b l m xs ys, vx = .ref a ∧ vy = .ref b ∧ L2.SqL K H a xs ∧ L2.SqL K H b ys ∧ RVs ρ H l xs ∧ RVs ρ H m ys ∧ plains l = true ∧ plains m = true ∧ Q (.bl (g (eqvs l m))) H)
theorem eq_core (hr : X.A.units + 64 < cLine) {vx vy : L2.V} {u v : Value} {Q : L2.VK} {g : Bool → Bool} (I : L2.Inv X pins σ H s) (ux : L2.RelV vx u) (uy : L2.RelV vy v) (h : rEqP X.K g vx vy H Q) : ∃ b, RcAt X.A s u v b ∧ RcNeAt X.A s u v (!b) ∧ Q (.bl (g b)) H := by
  obtain ⟨ρ, h⟩ := h
  rcases h with ⟨x, y, rx, ry, px, py, q⟩ | ⟨b, c, rfl, rfl, q⟩ | ⟨a, b, l, m, xs, ys, rfl, rfl, h1, h2, r1, r2, p1, p2, q⟩
  · refine ⟨eqv x y, ?_, ?_, q⟩ <;>
    (cases x with
    | tup l =>
      cases y with
      | tup m =>
        cases rx with
        | tup ha r1 =>
          cases ry with
          | tup hb r2 =>
            cases ux; cases uy
            obtain ⟨_, its, ri, pi⟩ := I.hok _ _ ha
            obtain ⟨_, its2, ri2, pi2⟩ := I.hok _ _ hb
            have z1 : its.toArray.size = l.length := by rw [List.size_toArray, ← ri.length, r1.length]
            have z2 : its2.toArray.size = m.length := by rw [List.size_toArray, ← ri2.length, r2.length]
            have hi := items_eq (A := X.A.in1) (s := s) r1 r2 ri ri2 (show l.all flat2 = true from px) (show m.all flat2 = true from py) (fun x y vx vy u v rx ry h1 h2 u1 u2 => eqAt2 I X.A.in1 (in1_units X.A 2 (by omega)) x y vx vy u v rx ry h1 h2 u1 u2)
            first
              | (have h := RcAt.tuples (A := X.A) (s := s) (e := fun j => eqv (l.getD j .non) (m.getD j .non)) pi pi2 (by omega) hi
                 rw [z1, z2, ← eqvs_tup] at h; exact h)
              | (have h := RcNeAt.tuples (A := X.A) (s := s) (e := fun j => eqv (l.getD j .non) (m.getD j .non)) pi pi2 (by omega) hi
                 rw [z1, z2, ← eqvs_tup] at h; exact h)
      | _ => first | exact (eqAt_mix I rx ry (by omega) ux uy (.inl ⟨_, rfl, py⟩)).2.1 | exact (eqAt_mix I rx ry (by omega) ux uy (.inl ⟨_, rfl, py⟩)).2.2
    | _ =>
      cases y with
      | tup m => first | exact (eqAt_mix I rx ry (by omega) ux uy (.inr ⟨_, rfl, px⟩)).2.1 | exact (eqAt_mix I rx ry (by omega) ux uy (.inr ⟨_, rfl, px⟩)).2.2
      | _ => first | exact (rc0 rx ry px py ux uy).1 | exact (rc0 rx ry px py ux uy).2)
  · cases ux; cases uy
    exact ⟨b == c, RcAt.bool_bool _ _, RcNeAt.bool_bool _ _, q⟩
  · cases ux; cases uy
    obtain ⟨its, ri, pi, _⟩ := I.list h1
    obtain ⟨its2, ri2, pi2, _⟩ := I.list h2
    have z1 : its.toArray.size = l.length := by rw [List.size_toArray, ← ri.length, r1.length]
    have z2 : its2.toArray.size = m.length := by rw [List.size_toArray, ← ri2.length, r2.length]
    refine ⟨eqvs l m, ?_, ?_, q⟩
    · by_cases hlm : l.length = m.length
      · have hi := items_eq (A := X.A.in1) (s := s) r1 r2 ri ri2 p1 p2 (fun x y vx vy u v rx ry h1 h2 u1 u2 => eqAt3 I X.A.in1 (in1_units X.A 3 (by omega)) x y vx vy u v rx ry h1 h2 u1 u2)
        have h := RcAt.lists (A := X.A) (s := s) (e := fun j => eqv (l.getD j .non) (m.getD j .non)) pi.isList pi2.isList (by rw [z1, z2, hlm]) (by omega) hi
        rw [z1, ← eqvs_all hlm] at h; exact h
      · rw [eqvs_len hlm]
        exact RcAt.lists_lengths pi.isList pi2.isList (by rw [z1, z2]; exact bne_iff_ne.mpr hlm) (by omega)
    · by_cases hlm : l.length = m.length
      · have hi := items_eq (A := X.A.in1) (s := s) r1 r2 ri ri2 p1 p2 (fun x y vx vy u v rx ry h1 h2 u1 u2 => eqAt3 I X.A.in1 (in1_units X.A 3 (by omega)) x y vx vy u v rx ry h1 h2 u1 u2)
        have h := RcNeAt.lists (A := X.A) (s := s) (e := fun j => eqv (l.getD j .non) (m.getD j .non)) pi.isList pi2.isList (by rw [z1, z2, hlm]) (by omega) hi
        rw [z1, ← eqvs_all hlm] at h; exact h
      · rw [eqvs_len hlm]
        exact RcNeAt.lists_lengths pi.isList pi2.isList (by rw [z1, z2]; exact bne_iff_ne.mpr hlm) (by omega)
theorem op_eqP (hr : X.A.units + 64 < cLine) : L2.OpR X (compareOp .Eq) (rEqP X.K id) := by
  intro pins s σ H x y v u Q I rx ry q
  obtain ⟨b, h1, _, h3⟩ := eq_core hr I rx ry q
  exact h1 _ _ _ _ ⟨.bl b, H, I, rfl, h3⟩
theorem op_neP (hr : X.A.units + 64 < cLine) : L2.OpR X (compareOp .NotEq) (rEqP X.K not) := by
  intro pins s σ H x y v u Q I rx ry q
  obtain ⟨b, _, h2, h3⟩ := eq_core hr I rx ry q
  exact h2 _ _ _ _ ⟨.bl (!b), H, I, rfl, h3⟩
theorem pEq_ok {x y : PV} {B B' : PHp} {b : Bool} {vx vy : L2.V} {Q : L2.VK} {g : Bool → Bool} (rl : Rel X.K cm ρ B H) (rx : RV ρ H x vx) (ry : RV ρ H y vy) (h : pEq x y B = .ok b B') (q : Q (.bl (g b)) H) : B' = B ∧ rEqP X.K g vx vy H Q := by
  have gen : ∀ x y, RV ρ H x vx → RV ρ H y vy → guard (bothBl x y = true ∨ (plain x = true ∧ plain y = true)) (ret (eqv x y)) B = .ok b B' → B' = B ∧ rEqP X.K g vx vy H Q := fun x y rx ry h => by
    obtain ⟨c, h⟩ := guard_inv h
    cases h
    refine ⟨rfl, ρ, ?_⟩
    rcases c with c | c
    · cases x with
      | bl b1 =>
        cases y with
        | bl b2 => cases rx; cases ry; exact .inr (.inl ⟨b1, b2, rfl, rfl, q⟩)
        | _ => simp [bothBl] at c
      | _ => simp [bothBl] at c
    · exact .inl ⟨x, y, rx, ry, c.1, c.2, q⟩
  cases x with
  | ref n =>
    cases y with
    | ref k =>
      obtain ⟨l, B1, e1, h1⟩ := bnd_inv h
      obtain ⟨rfl, a, xs, rfl, hs, r⟩ := lst_read rl rx e1
      obtain ⟨m, B2, e2, h2⟩ := bnd_inv h1
      obtain ⟨rfl, a2, ys, rfl, hs2, r2⟩ := lst_read rl ry e2
      obtain ⟨c, h3⟩ := guard_inv h2
      cases h3
      exact ⟨rfl, ρ, .inr (.inr ⟨a, a2, l, m, xs, ys, rfl, rfl, hs, hs2, r, r2, c.1, c.2, q⟩)⟩
    | _ => exact gen _ _ rx ry h
  | _ => cases y <;> exact gen _ _ rx ry h
theorem ok_eq : OkOp X.K cm oEq (rEqP X.K id) := fun ρ B H x y z B' vx vy Q rl rx ry ev k => by
  obtain ⟨b, B1, e1, ev1⟩ := bnd_inv ev
  cases ev1
  have hB : B' = B := (pEq_ok (g := id) (Q := fun _ _ => True) rl rx ry e1 trivial).1
  subst hB
  exact (pEq_ok (g := id) rl rx ry e1 (k ρ H _ (Ext.refl _ _) rl (.bl b))).2
theorem ok_ne : OkOp X.K cm oNe (rEqP X.K not) := fun ρ B H x y z B' vx vy Q rl rx ry ev k => by
  obtain ⟨b, B1, e1, ev1⟩ := bnd_inv ev
  cases ev1
  have hB : B' = B := (pEq_ok (g := not) (Q := fun _ _ => True) rl rx ry e1 trivial).1
  subst hB
  exact (pEq_ok (g := not) rl rx ry e1 (k ρ H _ (Ext.refl _ _) rl (.bl _))).2
noncomputable def rInP (K : PySem.W.Frag) (neg : Bool) : L2.R2 := fun vx vy H Q => ∃ (ρ : List Addr) (x : PV) (a : Addr) (l : List PV) (xs : List L2.V), RV ρ H x vx ∧ vy = .ref a ∧ (L2.SqL K H a xs ∨ L2.SqT K H a xs) ∧ RVs ρ H l xs ∧ plain x = true ∧ plains l = true ∧ Q (.bl (if neg then !pIn x l else pIn x l)) H
noncomputable def ansU (ρ : List Addr) (H : L2.Hp) (x : PV) (u : Value) : Bool := @decide (∃ y vy, L2.RelV vy u ∧ RV ρ H y vy ∧ plain y = true ∧ eqv y x = true) (Classical.propDecidable _)
theorem ansU_of {x y : PV} {vy : L2.V} {u : Value} (ru : L2.RelV vy u) (ry : RV ρ H y vy) (py : plain y = true) : ansU ρ H x u = eqv y x := by
  unfold ansU
  cases e : eqv y x with
  | true => exact @decide_eq_true _ (Classical.propDecidable _) ⟨y, vy, ru, ry, py, e⟩
  | false =>
    refine @decide_eq_false _ (Classical.propDecidable _) fun ⟨z, vz, rz, qz, pz, ez⟩ => ?_
    have := rz.inj ru
    subst this
    have := RV.uniq qz ry (plain_nice _ pz) (plain_nice _ py)
    subst this
    rw [e] at ez; cases ez
theorem any_ansU {x : PV} : ∀ {l : List PV} {xs : List L2.V} {us : List Value}, RVs ρ H l xs → L2.Vals xs us → plains l = true → us.any (ansU ρ H x) = pIn x l
  | _, _, _, .nil, .nil, _ => rfl
  | _, _, _, .cons h r, .cons h' r', p => by
    have p' := p
    unfold plains at p'
    rw [List.all_cons, Bool.and_eq_true] at p'
    rw [List.any_cons, ansU_of h' h p'.1, any_ansU r r' p'.2]; rfl
theorem mem_ansU {x : PV} {vx : L2.V} {v : Value} (I : L2.Inv X pins σ H s) (A : Around) (hu : A.units + 3 < cLine) (rx : RV ρ H x vx) (px : plain x = true) (ux : L2.RelV vx v) : ∀ {l : List PV} {xs : List L2.V} {us : List Value}, RVs ρ H l xs → L2.Vals xs us → plains l = true → ∀ u ∈ us, EqAt A s u v (ansU ρ H x u)
  | _, _, _, .nil, .nil, _ => fun u hu => by cases hu
  | _, _, _, .cons h r, .cons h' r', p => fun u hm => by
    have p' := p
    unfold plains at p'
    rw [List.all_cons, Bool.and_eq_true] at p'
    rcases List.mem_cons.mp hm with rfl | hm
    · rw [ansU_of h' h p'.1]; exact eqAt3 I A hu _ _ _ _ _ _ h rx p'.1 px h' ux
    · exact mem_ansU I A hu rx px ux r r' p'.2 u hm
theorem op_inP (hr : X.A.units + 64 < cLine) : L2.OpR X (compareOp .In) (rInP X.K false) := by
  intro pins s σ H x y v u Q I rx ry h
  obtain ⟨ρ, z, a, l, xs, rz, rfl, hq, r, pz, pl, q⟩ := h
  cases ry
  rcases hq with hq | hq
  · obtain ⟨its, ri, pi, hz⟩ := I.list hq
    refine in_listAt (ansU ρ H z) pi.isList (fun w hw => mem_ansU I X.A.in1 (in1_units X.A 3 (by omega)) rz pz rx r ri pl w (by simpa using hw)) ⟨.bl _, H, I, rfl, ?_⟩
    rw [List.any_toArray, any_ansU r ri pl]; exact q
  · obtain ⟨its, ri, pi, hz⟩ := I.tuple hq
    refine in_tupleAt (ansU ρ H z) pi (fun w hw => mem_ansU I X.A.in1 (in1_units X.A 3 (by omega)) rz pz rx r ri pl w (by simpa using hw)) ⟨.bl _, H, I, rfl, ?_⟩
    rw [List.any_toArray, any_ansU r ri pl]; exact q
theorem op_notInP (hr : X.A.units + 64 < cLine) : L2.OpR X (compareOp .NotIn) (rInP X.K true) := by
  intro pins s σ H x y v u Q I rx ry h
  obtain ⟨ρ, z, a, l, xs, rz, rfl, hq, r, pz, pl, q⟩ := h
  cases ry
  rcases hq with hq | hq
  · obtain ⟨its, ri, pi, hz⟩ := I.list hq
    refine notIn_listAt (ansU ρ H z) pi.isList (fun w hw => mem_ansU I X.A.in1 (in1_units X.A 3 (by omega)) rz pz rx r ri pl w (by simpa using hw)) ⟨.bl _, H, I, rfl, ?_⟩
    rw [List.any_toArray, any_ansU r ri pl]; exact q
  · obtain ⟨its, ri, pi, hz⟩ := I.tuple hq
    refine notIn_tupleAt (ansU ρ H z) pi (fun w hw => mem_ansU I X.A.in1 (in1_units X.A 3 (by omega)) rz pz rx r ri pl w (by simpa using hw)) ⟨.bl _, H, I, rfl, ?_⟩
    rw [List.any_toArray, any_ansU r ri pl]; exact q
theorem ok_in : OkOp X.K cm oIn (rInP X.K false) := fun ρ B H x y z B' vx vy Q rl rx ry ev k => by
  obtain ⟨l, B1, e1, ev1⟩ := bnd_inv ev
  obtain ⟨rfl, a, xs, rfl, hs, r⟩ := seq_read rl ry e1
  obtain ⟨c, ev2⟩ := guard_inv ev1
  cases ev2
  exact ⟨ρ, x, a, l, xs, rx, rfl, hs, r, c.1, c.2, k ρ H _ (Ext.refl _ _) rl (.bl _)⟩
theorem ok_notIn : OkOp X.K cm oNotIn (rInP X.K true) := fun ρ B H x y z B' vx vy Q rl rx ry ev k => by
  obtain ⟨l, B1, e1, ev1⟩ := bnd_inv ev
  obtain ⟨rfl, a, xs, rfl, hs, r⟩ := seq_read rl ry e1
  obtain ⟨c, ev2⟩ := guard_inv ev1
  cases ev2
  exact ⟨ρ, x, a, l, xs, rx, rfl, hs, r, c.1, c.2, k ρ H _ (Ext.refl _ _) rl (.bl _)⟩
noncomputable def tyName : Ty → String
  | .int => "int"
  | .bool => "bool"
  | .tuple => "tuple"
  | .list => "list"
structure Kit (K : PySem.W.Frag) : Prop where
  t (a b : String) (ha : a ∈ ["NoneType", "bool", "int", "str", "list", "tuple"]) (hb : b ∈ ["int", "bool", "tuple", "list"]) : PySem.W.kitOne K (.type a) (.type b) = some (a == b || (a == "bool" && b == "int"))
noncomputable def rIsA (K : PySem.W.Frag) (t : Ty) : List L2.V → L2.Hp → L2.VK → Prop := fun vs H Q => ∃ v ty, vs = [v, .ty (tyName t)] ∧ ty ∈ ["NoneType", "bool", "int", "str", "list", "tuple"] ∧ L2.TyOf K H v (.type ty) ∧ Q (.bl (ty == tyName t || (ty == "bool" && tyName t == "int"))) H
theorem call_isA (kit : Kit X.K) (t : Ty) : L2.CallR X (.builtin "isinstance") (rIsA X.K t) := by
  intro pins s σ H xs us Q I r h
  obtain ⟨v, ty, rfl, hm, hty, q⟩ := h
  obtain ⟨u, w, rfl, ru, rw'⟩ := L2.vals2 r
  cases rw'
  exact L2.isinst_ok I ru hty (kit.t ty (tyName t) hm (by cases t <;> simp [tyName])) fun tk => ⟨.bl _, H, I.tok tk, rfl, q⟩
theorem r_isA {e : Expr} {d : ED} {t : Ty} {tn : Str} {p p2 pos : Pos} (kit : Kit X.K) (he : L2.PE X e (EvE X.K cm d)) (hg : L2.Gl X "isinstance") (hm : X.mg "isinstance" = none) (hgt : L2.Gl X tn) (hmt : X.mg tn = none) (hbt : bootBuiltins tn = some (.type (tyName t)))
    (hs : starEach [e, .Name tn p2] X.env = (false, eval e X.env) :: starEach [.Name tn p2] X.env := by rfl) (hs2 : starEach [Expr.Name tn p2] X.env = (false, eval (.Name tn p2) X.env) :: starEach [] X.env := by rfl) (hpl : (backTo pos (starEach [Expr.Name tn p2] X.env)).any (·.1) = false := by rfl)
    (hn : tn ≠ "__name__" := by decide) (hdb : (tn == ("__debug__" : Str)) = false := by decide) :
    L2.PE X (.Call (.Name "isinstance" p) [e, .Name tn p2] [] pos) (EvE X.K cm (eIsA d t)) :=
  PE_imp (L2.pe_callB (call_isA kit t) hg hm PyProof.Rows.boot_isinstance (L2.pa_cons he (L2.pa_cons (L2.pe_bltn (v := .ty (tyName t)) hgt hmt hbt rfl hn hdb) L2.pa_nil hs2) hs) (he := hs) (hpl := hpl)) fun σ H Q ⟨ρ, A, σp, v, A', rl, rs, ev, k⟩ => by
    obtain ⟨x, A1, e1, ev1⟩ := bnd_inv ev
    obtain ⟨b, A2, e2, ev2⟩ := bnd_inv ev1
    cases ev2
    refine ⟨ρ, A, σp, x, A1, rl, rs, e1, fun ρ1 H1 v1 x1 rl1 rv1 => ?_⟩
    cases x with
    | non => cases rv1; cases t <;> cases e2 <;> exact ⟨_, "NoneType", rfl, by simp, .non, k ρ1 H1 _ x1 rl1 (.bl _)⟩
    | bl c => cases rv1; cases t <;> cases e2 <;> exact ⟨_, "bool", rfl, by simp, .bl c, k ρ1 H1 _ x1 rl1 (.bl _)⟩
    | int i => cases rv1; cases t <;> cases e2 <;> exact ⟨_, "int", rfl, by simp, .int i, k ρ1 H1 _ x1 rl1 (.bl _)⟩
    | str z => cases rv1; cases t <;> cases e2 <;> exact ⟨_, "str", rfl, by simp, .str z, k ρ1 H1 _ x1 rl1 (.bl _)⟩
    | tup l =>
      cases rv1 with
      | tup ha r => cases t <;> cases e2 <;> exact ⟨_, "tuple", rfl, by simp, .tup ha, k ρ1 H1 _ x1 rl1 (.bl _)⟩
    | ref n =>
      cases t <;>
      (obtain ⟨l, A3, e3, e4⟩ := bnd_inv e2
       obtain ⟨rfl, hA, a, xs, rfl, hn, hH, r⟩ := mut_read rl1 rv1 e3
       cases e4
       exact ⟨_, "list", rfl, by simp, .lst hH, k ρ1 H1 _ x1 rl1 (.bl _)⟩)
end
end Ws
namespace Ws
open PySem
theorem turned_new {X : L2.Cx} {pins : List (Addr × Obj)} {σ : L2.St} {H : L2.Hp} {s : Shared} {h' : Heap} {t' : Nat} {fp : List Addr} {T : Addr} {o : L2.HO} (I : L2.Inv X pins σ H s) (hf : ∀ b ∈ fp, L2.FpOk X pins H b)
    (k : ∀ b u, b ∉ fp → s.heap.get? b = some u → h'.get? b = some u) (hT : s.heap.objs.size ≤ T) (new : L2.ObjOk X.prog X.w (L2.upd H T o) h' T o) : L2.Inv X pins σ (L2.upd H T o) { s with heap := h', toks := t' } := by
  have hn : H T = none := I.hok.fresh hT
  have neT : ∀ b u, s.heap.get? b = some u → b ≠ T := fun b u e => Nat.ne_of_lt (Nat.lt_of_lt_of_le (Heap.lt_size e) hT)
  have nfp : ∀ b u, H b = some u → b ∉ fp := fun b u e z => by rw [(hf b z).1] at e; cases e
  refine I.step (g' := s.gens) (d' := s.drawn) (ch := fp) (fun b hb => ?_) (fun b u _ _ hc e _ => k b u hc e) (fun b u _ _ hc e _ => ⟨u.slots, k b u hc e⟩) (fun b u hc e n => by rw [L2.upd_ne (neT b u e)]; exact n) (fun b u hc e => ⟨u, k b u hc e⟩)
    (fun b xs e => by rw [L2.upd_ne (L2.ne_of_none e hn)]; exact e) (fun b u xs e => by rw [L2.upd_ne (L2.ne_of_none e hn)]; exact e) (fun b ps e => ⟨#[], by rw [L2.upd_ne (L2.ne_of_none e hn), e]; simp⟩) (fun m hm => ?_) (fun b u e => ?_) I.bare
  · obtain ⟨_, f1, _, f3, f4, f5⟩ := hf b hb
    exact ⟨f3, f1, f4, f5⟩
  · obtain ⟨ob, es, ep, ho, r⟩ := hm
    exact ⟨ob, es, ep, k _ ob (fun z => (hf _ z).2.1 rfl) ho, r⟩
  · by_cases hb : b = T
    · subst hb; rw [L2.upd_same] at e; cases e; exact new
    · rw [L2.upd_ne hb] at e
      refine (I.hok b u e).stay (fun c v hc q => k c v ?_ q) (fun c q => by rw [L2.upd_ne (L2.ne_of_none q hn)]; exact q) fun c xs q => by rw [L2.upd_ne (L2.ne_of_none q hn)]; exact q
      rcases hc with rfl | hc
      · exact nfp c u e
      · exact nfp c _ hc
theorem turned_fp {X : L2.Cx} {pins : List (Addr × Obj)} {σ : L2.St} {H : L2.Hp} {s : Shared} {h' : Heap} {t' : Nat} {fp : List Addr} (I : L2.Inv X pins σ H s) (hf : ∀ b ∈ fp, L2.FpOk X pins H b)
    (k : ∀ b u, b ∉ fp → s.heap.get? b = some u → h'.get? b = some u) : L2.Inv X pins σ H { s with heap := h', toks := t' } := by
  have nfp : ∀ b u, H b = some u → b ∉ fp := fun b u e z => by rw [(hf b z).1] at e; cases e
  refine I.step (g' := s.gens) (d' := s.drawn) (ch := fp) (fun b hb => ?_) (fun b u _ _ hc e _ => k b u hc e) (fun b u _ _ hc e _ => ⟨u.slots, k b u hc e⟩) (fun b u hc e n => n) (fun b u hc e => ⟨u, k b u hc e⟩)
    (fun b xs e => e) (fun b u xs e => e) (fun b ps e => ⟨#[], by rw [e]; simp⟩) (fun m hm => ?_) (fun b u e => ?_) I.bare
  · obtain ⟨_, f1, _, f3, f4, f5⟩ := hf b hb
    exact ⟨f3, f1, f4, f5⟩
  · obtain ⟨ob, es, ep, ho, r⟩ := hm
    exact ⟨ob, es, ep, k _ ob (fun z => (hf _ z).2.1 rfl) ho, r⟩
  · refine (I.hok b u e).stay (fun c v hc q => k c v ?_ q) (fun c q => q) fun c xs q => q
    rcases hc with rfl | hc
    · exact nfp c u e
    · exact nfp c _ hc
theorem turn_enum {P : Program} {w : World} {K : PySem.W.Frag} {elts : List Expr} {x1 : Nat} {pos : Pos} (a e it : Addr) (hei : e ≠ it) : L2.Turn P w K (.Tuple elts x1 pos) (Ite K a) [e, it] e (fun i h => (∃ old, IsEnum h e it i old) ∧ h.IsListIter it a i) where
  mem := by simp
  obj := fun i h st b hb => by
    obtain ⟨⟨old, he⟩, o, e1, c, d⟩ := st
    rcases List.mem_cons.mp hb with rfl | hb
    · exact ⟨_, he, fun v z => by cases z⟩
    · have e2 : b = it := by simpa using hb
      subst e2
      exact ⟨o, e1, fun v z => by rw [d] at z; cases z⟩
  keep := fun i h h' st k => by
    obtain ⟨⟨old, he⟩, hit⟩ := st
    exact ⟨⟨old, k e (by simp) _ he⟩, hit.at fun o x => k it (by simp) o x⟩
  item := by
    intro X hP hw hK hc i pins s σ H E I hf st hg
    subst hP hw hK
    obtain ⟨xs, x, hq, hx⟩ := hg
    obtain ⟨its, rv, p, hz⟩ := I.list hq
    obtain ⟨u, hu, ru⟩ := rv.get hx
    obtain ⟨⟨old, he⟩, hit⟩ := st
    have el := Heap.lt_size he
    refine wpAny_pyNext_enum_item he hit p.isList (x := u) (by simpa using hu) hei fun h' ho hit' hT hsz hk => ?_
    refine ⟨.ref s.heap.objs.size, rfl, wpAny_letOwnedTupleGo_enum (s := { s with heap := h', toks := s.toks + 1 }) ho fun h2 he2 hs2 => ?_⟩
    have sb : ∀ b u, b ≠ e → h'.get? b = some u → h2.get? b = some u := fun b u hb q => (hs2.2 b hb).trans q
    have hTe : s.heap.objs.size ≠ e := Nat.ne_of_gt el
    have I2 : L2.Inv X pins σ (L2.upd H s.heap.objs.size (.tup [.int i, x])) { s with heap := h2, toks := s.toks + 1 } := by
      refine turned_new (s := s) (t' := s.toks + 1) I hf (fun b u hb q => ?_) (Nat.le_refl _) ?_
      · have h1 : b ≠ e := fun z => hb (by simp [z])
        have h2 : b ≠ it := fun z => hb (by simp [z])
        exact sb b u h1 (hk b u h1 h2 q)
      · exact ⟨by show 2 ≤ sizeLine; decide, [.int i s.toks, u], .cons ⟨_, rfl⟩ (.cons ru .nil), _, sb _ _ hTe hT, rfl, _, rfl⟩
    refine ⟨.ref s.heap.objs.size, L2.upd H s.heap.objs.size (.tup [.int i, x]), I2, rfl, ⟨x, s.heap.objs.size, fun ys hy => by rw [I.list_inj hy hq]; exact hx, I.hok.fresh (Nat.le_refl _), rfl, rfl⟩, ⟨⟨u, by exact_mod_cast he2⟩, hit'.at fun o y => sb it o hei.symm y⟩, fun b hb => ?_⟩
    · rw [L2.upd_ne]
      · exact (hf b hb).1
      · rcases List.mem_cons.mp hb with rfl | hb
        · exact hTe.symm
        · have e2 : b = it := by simpa using hb
          subst e2
          obtain ⟨_, y, _⟩ := hit
          exact Nat.ne_of_lt (Heap.lt_size y)
  done := by
    intro X hP hw hK hc i pins s σ H E I hf st hg
    subst hP hw hK
    obtain ⟨xs, hq, hx⟩ := hg
    obtain ⟨its, rv, p, hz⟩ := I.list hq
    obtain ⟨⟨old, he⟩, hit⟩ := st
    have hl := rv.length
    exact wpAny_pyNext_enum_end (I.ok.hd hc) he hit p.isList (by rw [Array.getElem?_eq_none]; simp; omega) fun h' eb => ⟨rfl, turned_fp (t' := s.toks) I hf fun b u hb q => eb b u (fun z => hb (by simp [z])) q⟩
  self := fun _ _ _ _ _ st h => by
    obtain ⟨⟨old, he⟩, _⟩ := st
    exact wpAny_pyIter_enum he h
section
variable {X : L2.Cx} {cm : Nat → Addr}
theorem i_enm {l : Expr} {d : ED} {elts : List Expr} {x1 : Nat} {tpos p pos : Pos} (hg : L2.Gl X "enumerate") (hm : X.mg "enumerate" = none) (hl : L2.PE X l (EvE X.K cm d)) (hs : starEach [l] X.env = (false, eval l X.env) :: starEach [] X.env := by rfl) : L2.PI X (.Tuple elts x1 tpos) (.Call (.Name "enumerate" p) [l] [] pos) (EvI X.K cm (iEnm d)) := by
  intro pins s σ H R I h
  obtain ⟨ρ, A, σp, J, A', rl, rs, ev, k⟩ := h
  obtain ⟨x, A1, e1, ev1⟩ := bnd_inv ev
  refine PyProof.Rows.Call_ (L2.ld_blt I hg hm PyProof.Rows.boot_enumerate (PyProof.Rows.callWith_type1 (L2.thn ((r_cons hl r_nil hs) pos pins s σ H (fun vs H1 => ∃ a xs, vs = [.ref a] ∧ L2.SqL X.K H1 a xs ∧ R (Ite X.K a) H1) I ⟨ρ, A, σp, [x], A1, rl, rs, by show bnd (d σp) _ A = _; rw [bnd_ok e1]; rfl, fun ρ1 H1 vs1 x1 rl1 rv1 => ?_⟩) fun us s1 ⟨vs, H1, I1, r1, q1⟩ => ?_) hs rfl))
  · cases x with
    | ref n =>
      obtain ⟨m, A2, e2, ev2⟩ := bnd_inv ev1
      cases rv1 with
      | cons hv hr =>
        cases hr
        obtain ⟨rfl, a, xs, rfl, hq, r⟩ := lst_read rl1 hv e2
        cases ev2
        cases hv with
        | ref hn => exact ⟨a, xs, rfl, hq, k ρ1 H1 _ x1 rl1 ⟨a, hn, rfl⟩⟩
    | _ => cases ev1
  · obtain ⟨a, xs, rfl, hq, q⟩ := q1
    obtain ⟨u, rfl, rx⟩ := L2.vals1 r1
    cases rx
    obtain ⟨its, rv, pl, hz⟩ := I1.list hq
    refine call_enumerate_list pl.isList fun h' he hit hsz kp => ?_
    refine wpAny_pyIter_enum he ?_
    have I2 : L2.Inv X pins σ H1 { s1 with heap := h' } := I1.kept (t' := s1.toks) kp
    refine ⟨s1.heap.objs.size + 1, [s1.heap.objs.size + 1, s1.heap.objs.size], _, _, H1, rfl, I2, turn_enum a _ _ (Nat.succ_ne_self _), ⟨⟨_, he⟩, hit⟩, fun b hb => ?_, q⟩
    have hb2 : s1.heap.objs.size ≤ b := by
      rcases List.mem_cons.mp hb with rfl | hb
      · exact Nat.le_succ _
      · have : b = s1.heap.objs.size := by simpa using hb
        exact Nat.le_of_eq this.symm
    exact I1.fpOk hb2 (I1.hok.fresh hb2)
end
end Ws
namespace Ws
open PySem
structure Def (P : Program) (w : World) (K : PySem.W.Frag) (mg : Str → Option Value) (base : Heap) (cm : Nat → Addr) (x : Str) (k : Nat) (ps : List Str) (f : Fun) (n : Nat) : Prop where
  ex : ∃ (fa : Addr) (fd : FuncData), L2.FnOk P w K mg base L2.CX0 k fa fd ps (SpF K cm f n) ∧ mg x = some (.ref fa) ∧ PySem.W.keepIn K (.ref fa) = true ∧ L2.Binds K fd ps []
  len : ∀ vs A v A', f vs A = .ok v A' → vs.length = n
structure MDef (P : Program) (w : World) (K : PySem.W.Frag) (mg : Str → Option Value) (base : Heap) (cm : Nat → Addr) (c : Nat) (m : Str) (k : Nat) (ps : List Str) (f : Fun) (n : Nat) : Prop where
  ex : ∃ (fa : Addr) (fd : FuncData), L2.FnOk P w K mg base L2.CX0 k fa fd ps (SpF K cm f n) ∧ L2.Meth K (cm c) m fa ∧ L2.Binds K fd ps []
  len : ∀ vs A v A', f vs A = .ok v A' → vs.length = n
structure CDef (P : Program) (w : World) (K : PySem.W.Frag) (mg : Str → Option Value) (base : Heap) (cm : Nat → Addr) (c : Nat) (x : Str) (k : Nat) (ps : List Str) (f : Fun) (n : Nat) : Prop where
  ex : ∃ (fa : Addr) (fd : FuncData), L2.FnOk P w K mg base L2.CX0 k fa fd ps (SpF K cm f n) ∧ L2.Mk K (cm c) fa ∧ mg x = some (.ref (cm c)) ∧ L2.Binds K fd ps []
  len : ∀ vs A v A', f vs A = .ok v A' → vs.length = n ∧ v = .non
section
variable {X : L2.Cx} {cm : Nat → Addr}
theorem r_callD {f : Fun} {n k k' : Nat} {ps : List Str} {x : Str} {e : Expr} {es : List Expr} {ds : AD} {p pos : Pos} (D : Def X.prog X.w X.K X.mg X.base cm x k ps f n) (hk : k ≤ k') (hr : L2.Room k' X.A) (hg : L2.Gl X x)
    (ha : L2.PA X (e :: es) (EvA X.K cm ds)) (hdb : (x == ("__debug__" : Str)) = false := by decide) (he : starEach (e :: es) X.env = (false, eval e X.env) :: starEach es X.env := by rfl) (hpl : (backTo pos (starEach es X.env)).any (·.1) = false := by rfl) :
    L2.PE X (.Call (.Name x p) (e :: es) [] pos) (EvE X.K cm (eCall f ds)) := by
  obtain ⟨fa, fd, F, hm, hkp, hb⟩ := D.ex
  exact r_call F D.len (hr.mono hk) hg hm hkp hb ha hdb he hpl
theorem r_methD {c : Nat} {f : Fun} {n k k' : Nat} {ps : List Str} {m : Str} {o e : Expr} {es : List Expr} {d : ED} {ds : AD} {apos pos : Pos} {pl : Sem Bool} (D : MDef X.prog X.w X.K X.mg X.base cm c m k ps f n) (hk : k ≤ k') (hr : L2.Room k' X.A) (hc : L2.Cls X.K (cm c)) (ho : L2.PE X o (EvE X.K cm d)) (ha : L2.PA X (e :: es) (EvA X.K cm ds)) (hnm : ∀ i, i < 19 → fnm i ≠ m)
    (hst : starEach (e :: es) X.env = (false, eval e X.env) :: starEach es X.env := by rfl) (hpl : (backTo pos (starEach es X.env)).any (·.1) = false := by rfl)
    (ht : eval (.Call (.Attribute o m apos) (e :: es) [] pos) X.env = (do
      let ov ← eval o X.env
      standAt apos.atName
      let (f, first) ← holding [ov] (getMethod ov m pl)
      callWith pos f first (backTo pos (starEach (e :: es) X.env)) (backToKw pos (keywordEach [] X.env))) := by rfl) :
    L2.PE X (.Call (.Attribute o m apos) (e :: es) [] pos) (EvE X.K cm (eMeth c f d ds)) := by
  obtain ⟨fa, fd, F, hm, hb⟩ := D.ex
  exact r_meth (pl := pl) ho hc hm F D.len hnm (hr.mono hk) hb ha hst hpl ht
theorem r_makeD {c : Nat} {f : Fun} {n k k' : Nat} {ps : List Str} {x : Str} {e : Expr} {es : List Expr} {ds : AD} {p pos : Pos} (D : CDef X.prog X.w X.K X.mg X.base cm c x k ps f n) (hk : k + 1 ≤ k') (hr : L2.Room k' X.A)
    (hg : L2.Gl X x) (ha : L2.PA X (e :: es) (EvA X.K cm ds)) (hdb : (x == ("__debug__" : Str)) = false := by decide) (he : starEach (e :: es) X.env = (false, eval e X.env) :: starEach es X.env := by rfl) (hpl : (backTo pos (starEach es X.env)).any (·.1) = false := by rfl) (h7 : c < 7 := by decide) :
    L2.PE X (.Call (.Name x p) (e :: es) [] pos) (EvE X.K cm (eMake c f ds)) := by
  obtain ⟨fa, fd, F, hM, hm, hb⟩ := D.ex
  exact r_make h7 hM F D.len (hr.mono hk) hg hm hb ha hdb he hpl
theorem r_glob {x : Str} {i : Int} {pos : Pos} (hg : L2.Gl X x) (hm : ∃ t, X.mg x = some (.int i t)) (hd : (x == ("__debug__" : Str)) = false := by decide) : L2.PE X (.Name x pos) (EvE X.K cm (eK (.int i))) := by
  obtain ⟨t, hm⟩ := hm
  exact r_k (L2.pe_glob hg hm (show L2.RelV (.int i) (.int i t) from ⟨t, rfl⟩) hd) fun _ _ => .int i
end
structure Base (K : PySem.W.Frag) (mg : Str → Option Value) (cm : Nat → Addr) : Prop where
  kit : Kit K
  cls : ∀ c, c < 7 → L2.Cls K (cm c)
  na : ∀ c i, i < 19 → c < 7 → L2.NoAttr K (cm c) (fnm i)
  b_len : mg "len" = none
  b_range : mg "range" = none
  b_list : mg "list" = none
  b_sorted : mg "sorted" = none
  b_isinstance : mg "isinstance" = none
  b_int : mg "int" = none
  b_bool : mg "bool" = none
  b_tuple : mg "tuple" = none
  b_enumerate : mg "enumerate" = none
  b_reversed : mg "reversed" = none
  b_max : mg "max" = none
  b_min : mg "min" = none
  b_all : mg "all" = none
  b_any : mg "any" = none
  b_set : mg "set" = none
  b_zip : mg "zip" = none
  b_dict : mg "dict" = none
end Ws
namespace Ws
open PySem
section
variable {prog : Program} {w : World} {A : Around} {R : Result → Shared → Prop} {s : Shared}
noncomputable abbrev testsOf (ifs : List Expr) (env : Env) : Sem Bool := forIn ifs true fun c r => if r = true then do let ok ← isTrue c env (eval c env); pure (ForInStep.yield ok) else pure (ForInStep.yield r)
theorem comp_loop {elt target iter : Expr} {ifs : List Expr} {scope : Scope} {pos : Pos} {it acc : Value} {env : Env} (I : Nat → Shared → Prop)
    (turn : ∀ n s, I n s → wpAny (model prog w) A (pyNext it) (fun r s₁ => match r with
      | none => R (.ok .next) s₁
      | some v => wpAny (model prog w) A (letOwnedTupleGo target it v) (fun _ s₀ => wpAny (model prog w) A (assign target env v) (fun _ s₂ =>
          wpAny (model prog w) A (testsOf ifs env) (fun ok s₃ =>
            if ok = true then wpAny (model prog w) A (eval elt env) (fun x s₄ =>
              wpAny (model prog w) A (call (.builtin "list.append") [acc, x]) (fun _ s₅ => ∃ m, m < n ∧ I m s₅) (fun _ _ => False) s₄) (fun _ _ => False) s₃
            else ∃ m, m < n ∧ I m s₃) (fun _ _ => False) s₂) (fun _ _ => False) s₀) (fun _ _ => False) s₁) (fun _ _ => False) s)
    (n : Nat) (h : I n s) : codeAny (model prog w) A (.compLoop (.ListComp elt [⟨target, iter, ifs, 0⟩] scope pos) 0 it acc env) R s := by
  have fe : ∀ {E' : Value → Shared → Prop} {e : Value} {s' : Shared}, False → E' e s' := fun h => h.elim
  refine codeAny_loop rfl I (fun n s hI => ?_) n h
  show wpAny _ A ((compTurn (.ListComp elt [⟨target, iter, ifs, 0⟩] scope pos) 0 it acc env).onRaise (fun x => do noteFrame x env; theTreesLotGoes x)) _ _ s
  refine wpAny_noted ?_
  rw [compTurn_list]
  refine wpAny_bind (wpAny_standAt (wpAny_bind (wpAny_mono (turn n s hI) (fun r s₁ h₁ => ?_) fun _ _ h' => h'.elim)))
  cases r with
  | none => exact wpAny_pure h₁
  | some v =>
    refine wpAny_bind (wpAny_mono h₁ (fun _ s₀ h₀ => ?_) fun _ _ h' => h'.elim)
    refine wpAny_bind (wpAny_mono h₀ (fun _ s₂ h₂ => wpAny_bind (wpAny_mono h₂ (fun ok s₃ h₃ => ?_) fun _ _ h' => h'.elim)) fun _ _ h' => h'.elim)
    cases ok with
    | false => exact wpAny_pure ⟨rfl, h₃⟩
    | true =>
      exact wpAny_bind (wpAny_bind (wpAny_mono h₃ (fun x s₄ h₄ => wpAny_bind (wpAny_mono h₄ (fun _ s₅ h₅ => wpAny_pure (wpAny_pure ⟨rfl, h₅⟩)) fun _ _ h' => h'.elim)) fun _ _ h' => h'.elim))
end
noncomputable def blk (X : L2.Cx) (N : List Str) (scope : Scope) (cl : List (Str × Addr)) (C : Addr) (s₀ : Shared) (H₀ : L2.Hp) (fp : List Addr) : L2.Cx where
  prog := X.prog
  w := X.w
  K := X.K
  mg := X.mg
  base := X.base
  A := X.A
  N := N
  s₀ := s₀
  H₀ := H₀
  env := compEnvC scope cl C X.env
  outer := X.stack
  stack := X.stack
  ex := fp
  fn := fun _ => false
  calm := X.calm
  pn := []
  xe := fun _ _ => False
inductive FreeOk (X : L2.Cx) (scope : Scope) (cl : List (Str × Addr)) : List Str → List (Option Nat) → Prop where
  | nil : FreeOk X scope cl [] []
  | own {x : Str} {N : List Str} {js : List (Option Nat)} (h : FreeOk X scope cl N js) : FreeOk X scope cl (x :: N) (none :: js)
  | free {x : Str} {j : Nat} {N : List Str} {js : List (Option Nat)} (h1 : X.N[j]? = some x) (h2 : X.env.kindOf x = some .cell ∨ X.env.kindOf x = some .free) (h3 : L2.Vis X.env.scope x) (h4 : cl.lookup x = X.env.cells.lookup x) (h5 : (relabel scope X.env).names.lookup x = some .cell ∨ (relabel scope X.env).names.lookup x = some .free) (h : FreeOk X scope cl N js) : FreeOk X scope cl (x :: N) (some j :: js)
theorem FreeOk.len {X : L2.Cx} {scope : Scope} {cl : List (Str × Addr)} : ∀ {N : List Str} {js : List (Option Nat)}, FreeOk X scope cl N js → js.length = N.length
  | _, _, .nil => rfl
  | _, _, .own h => by simp [h.len]
  | _, _, .free _ _ _ _ _ h => by simp [h.len]
theorem FreeOk.get {X : L2.Cx} {scope : Scope} {cl : List (Str × Addr)} : ∀ {N : List Str} {js : List (Option Nat)} {i j : Nat} {x : Str}, FreeOk X scope cl N js → N[i]? = some x → js[i]? = some (some j) → X.N[j]? = some x ∧ (X.env.kindOf x = some .cell ∨ X.env.kindOf x = some .free) ∧ L2.Vis X.env.scope x ∧ cl.lookup x = X.env.cells.lookup x ∧ ((relabel scope X.env).names.lookup x = some .cell ∨ (relabel scope X.env).names.lookup x = some .free)
  | _, _, _, _, _, .nil, h, _ => by simp at h
  | _, _, 0, _, _, .own _, _, h => by simp at h
  | _, _, i + 1, _, _, .own h, h1, h2 => FreeOk.get (i := i) h (by simpa using h1) (by simpa using h2)
  | _, _, 0, _, _, .free a b c d e _, h1, h2 => by simp at h1 h2; subst h1; subst h2; exact ⟨a, b, c, d, e⟩
  | _, _, i + 1, _, _, .free _ _ _ _ _ h, h1, h2 => FreeOk.get (i := i) h (by simpa using h1) (by simpa using h2)
theorem bst_get {α : Type} {js : List (Option Nat)} {σ : List (Option α)} {i : Nat} {v : α} (h : (bst js σ)[i]? = some (some v)) : ∃ j, js[i]? = some (some j) ∧ σ[j]? = some (some v) := by
  unfold bst at h
  rw [List.getElem?_map] at h
  rcases e : js[i]? with _ | (_ | j)
  · rw [e] at h; cases h
  · rw [e] at h; cases h
  · rw [e] at h
    refine ⟨j, rfl, ?_⟩
    have h' : σ.getD j none = some v := Option.some.inj h
    rw [List.getD_eq_getElem?_getD] at h'
    rcases e2 : σ[j]? with _ | o
    · rw [e2] at h'; cases h'
    · rw [e2] at h'; exact congrArg some h'
theorem RSt.bst {ρ : List Addr} {H : L2.Hp} {σp : PSt} {σ : L2.St} (h : RSt ρ H σp σ) (js : List (Option Nat)) : RSt ρ H (Ws.bst js σp) (Ws.bst js σ) := by
  refine ⟨by simp [Ws.bst], fun i p hp => ?_⟩
  obtain ⟨j, h1, h2⟩ := bst_get hp
  obtain ⟨v, h3, h4⟩ := h.get j p h2
  refine ⟨v, ?_, h4⟩
  unfold Ws.bst
  rw [List.getElem?_map, h1]
  show some (σ.getD j none) = _
  rw [List.getD_eq_getElem?_getD, h3]; rfl
structure ScOk (X : L2.Cx) (scope : Scope) (cl : List (Str × Addr)) : Prop where
  kind : scope.kind = .function
  clos : closureFor scope X.env = pure cl
  nocell : ∀ y ∈ scope.names, y.2 ≠ .cell
  names : ∀ y ∈ scope.names, y.2 = .local → scope.names.lookup y.1 = some .local
  sub : ∀ p ∈ cl, X.env.cells.lookup p.1 = some p.2
  has : ∀ y ∈ scope.names, y.2 = .free → (cl.lookup y.1).isSome = true
theorem relabel_has {X : L2.Cx} {scope : Scope} {cl : List (Str × Addr)} (S : ScOk X scope cl) {x : Str} (h : (relabel scope X.env).names.lookup x = some .cell ∨ (relabel scope X.env).names.lookup x = some .free) : ∃ c, cl.lookup x = some c := by
  have key : ∀ k, (x, k) ∈ (relabel scope X.env).names → k = .cell ∨ k = .free → ∃ c, cl.lookup x = some c := fun k hm hk => by
    unfold relabel at hm
    obtain ⟨⟨n, k'⟩, hy, e⟩ := List.mem_map.mp hm
    dsimp only at e
    have hfree : n = x ∧ k' = .free := by
      split at e
      · rename_i hc
        cases e
        simp only [Bool.and_eq_true, beq_iff_eq] at hc
        exact ⟨rfl, hc.1.1⟩
      · cases e
        rcases hk with rfl | rfl
        · exact absurd rfl (S.nocell _ hy)
        · exact ⟨rfl, rfl⟩
    obtain ⟨rfl, rfl⟩ := hfree
    exact Option.isSome_iff_exists.mp (S.has _ hy rfl)
  rcases h with h | h
  · exact key _ (PySem.mem_of_lookup h) (.inl rfl)
  · exact key _ (PySem.mem_of_lookup h) (.inr rfl)
section
variable {X : L2.Cx} {cm : Nat → Addr} {pins : List (Addr × Obj)} {σ : L2.St} {H : L2.Hp} {s : Shared}
theorem blk_start {N : List Str} {js : List (Option Nat)} {scope : Scope} {cl : List (Str × Addr)} {C : Addr} {fp : List Addr} {h' : Heap} {t' : Nat} {m : Str → Option Value} (S : ScOk X scope cl) (Fr : FreeOk X scope cl N js) (I : L2.Inv X pins σ H s) (hf : ∀ b ∈ fp, L2.FpOk X pins H b) (hfl : ∀ b ∈ fp, b < s.heap.objs.size)
    (hC : s.heap.objs.size ≤ C) (kp : ∀ b u, s.heap.get? b = some u → h'.get? b = some u) (hns : h'.Ns C m) : L2.Inv (blk X N scope cl C s H fp) [] (Ws.bst js σ) H { s with heap := h', toks := t' } := by
  have I1 : L2.Inv X pins σ H { s with heap := h', toks := t' } := I.kept kp
  have sub : ∀ x c, cl.lookup x = some c → X.env.cells.lookup x = some c := fun x c e => S.sub (x, c) (PySem.mem_of_lookup e)
  refine ⟨⟨I.ok.mod, S.kind, I.ok.glob, I.ok.blt, hC, fun x y c h1 h2 => I.ok.inj x y c (sub x c h1) (sub y c h2), fun x hx => relabel_has S hx, fun x c h => (nomatch h), I.ok.hd, I.ok.frames, .inl rfl, fun b hb => ⟨Nat.ne_of_lt (Nat.lt_of_lt_of_le (hfl b hb) hC), fun x c e => (hf b hb).2.2.2.2.1 x c (sub x c e)⟩,
    I.bs, Nat.le_trans I.ok.bsz I.sz, fun b o e hb => ?_, fun b hb hz => ?_, I.stack, I.stkFree⟩, rfl, I.bare, L2.Un.kept kp, ⟨m, hns, fun i x v h1 h2 h3 => ?_⟩, fun x c e => I1.cell x c (sub x c e), I.hok.fresh hC, fun x c e => I.freeC x c (sub x c e), fun p hp => absurd (show p ∈ ([] : List (Addr × Obj)) from hp) (by simp), I1.hok, by simp [Ws.bst, Fr.len, blk]⟩
  · rcases (hf b hb).2.2.2.1 with z | z
    · exact I.ok.noex b o e z
    · exact absurd (Nat.lt_of_lt_of_le (Heap.lt_size e) (Nat.le_trans I.ok.bsz z)) (Nat.lt_irrefl _)
  · rcases List.mem_cons.mp (I.stkSub b hz) with z | z
    · exact (hf b hb).2.1 z
    · exact (hf b hb).2.2.1 z
  · obtain ⟨j, j1, j2⟩ := bst_get h2
    obtain ⟨a1, a2, a3, a4, a5⟩ := Fr.get h1 j1
    obtain ⟨m0, _, hl⟩ := I1.loc
    obtain ⟨u, ru, lk⟩ := hl j x v a1 j2 a3
    refine ⟨u, ru, ?_⟩
    rcases lk with ⟨q, _⟩ | ⟨_, c, e1, e2⟩
    · rcases a2 with a2 | a2 <;> (rw [a2] at q; cases q)
    · exact .inr ⟨a5, c, a4.trans e1, e2⟩
theorem adopt {D : Addr} {o : L2.HO} {fp : List Addr} (I : L2.Inv X pins σ H s) (hD : L2.FpOk X pins H D) (new : L2.ObjOk X.prog X.w (L2.upd H D o) s.heap D o) : L2.Inv X pins σ (L2.upd H D o) s := by
  have hn := hD.1
  have ne : ∀ b u, H b = some u → b ≠ D := fun b u e z => by rw [z, hn] at e; cases e
  obtain ⟨hp, g, d, tk, os⟩ := s
  refine I.step (g' := g) (d' := d) (t' := tk) (h' := hp) (ch := [D]) (fun b hb => ?_) (fun b u _ _ _ e _ => e) (fun b u _ _ _ e _ => ⟨u.slots, e⟩) (fun b u hc e n => by rw [L2.upd_ne (fun z => hc (by simp [z]))]; exact n) (fun b u _ e => ⟨u, e⟩)
    (fun b xs e => by rw [L2.upd_ne (ne b _ e)]; exact e) (fun b u xs e => by rw [L2.upd_ne (ne b _ e)]; exact e) (fun b ps e => ⟨#[], by rw [L2.upd_ne (ne b _ e), e]; simp⟩) (fun m hm => hm) (fun b u e => ?_) I.bare
  · have e : b = D := by simpa using hb
    subst e
    exact ⟨hD.2.2.2.1, hD.2.1, hD.2.2.2.2.1, hD.2.2.2.2.2⟩
  · by_cases hb : b = D
    · subst hb; rw [L2.upd_same] at e; cases e; exact new
    · rw [L2.upd_ne hb] at e
      exact (I.hok b u e).stay (fun c v _ q => q) (fun c q => by rw [L2.upd_ne (ne c _ q)]; exact q) fun c xs q => by rw [L2.upd_ne (ne c _ q)]; exact q
end
end Ws
namespace Ws
open PySem
section
variable {X : L2.Cx} {cm : Nat → Addr}
noncomputable def PTs (X : L2.Cx) (ifs : List Expr) (t : L2.TT) : Prop :=
  ∀ (pins : List (Addr × Obj)) (s : Shared) (σ : L2.St) (H : L2.Hp) (Q : Bool → L2.Hp → Prop), L2.Inv X pins σ H s → t σ H Q → wpAny (model X.prog X.w) X.A (testsOf ifs X.env) (L2.TP X pins σ Q) X.xe s
theorem ts_nil : PTs X [] (EvT X.K cm tTrue) := fun pins s σ H Q I ⟨ρ, A, σp, b, A', rl, rs, ev, k⟩ => by
  cases ev
  exact wpAny_tests_nil ⟨H, I, k ρ H (Ext.refl _ _) rl⟩
theorem ts_one {c : Expr} {t : TD} (h : L2.PT X c (EvT X.K cm t)) : PTs X [c] (EvT X.K cm t) := fun pins s σ H Q I q => wpAny_tests_one (h pins s σ H Q I q)
theorem comp_core {elt tg iter : Expr} {ifs : List Expr} {scope : Scope} {pos : Pos} {cl : List (Str × Addr)} {N : List Str} {js : List (Option Nat)} {g : GD} {t : TD} {e : ED} {pins : List (Addr × Obj)} {σ : L2.St} {H : L2.Hp} {s : Shared}
    {it : Addr} {fp : List Addr} {tn : Nat → Heap → Prop} {j : L2.It} {J : It} {ρ : List Addr} {A A' : PHp} {σp : PSt} {n : Nat} {ys : List PV} {RR : Value → Addr → Result → Shared → Prop} {E : Value → Shared → Prop}
    (hc : X.calm = true) (S : ScOk X scope cl) (Fr : FreeOk X scope cl N js)
    (hg : ∀ C s0 H0 fp, L2.PG (blk X N scope cl C s0 H0 fp) tg (EvG X.K cm g)) (ht : ∀ C s0 H0 fp, PTs (blk X N scope cl C s0 H0 fp) ifs (EvT X.K cm t)) (he : ∀ C s0 H0 fp, L2.PE (blk X N scope cl C s0 H0 fp) elt (EvE X.K cm e))
    (I : L2.Inv X pins σ H s) (T : L2.Turn X.prog X.w X.K tg j fp it tn) (st : tn 0 s.heap) (hf : ∀ b ∈ fp, L2.FpOk X pins H b) (rj : RIt X.K ρ H J j) (rl : Rel X.K cm ρ A H) (rs : RSt ρ H σp σ)
    (ev : cturns J g t e (n + 1) 0 (Ws.bst js σp) A = .ok ys A') (hy : ys.length ≤ LIM)
    (hRR : ∀ D C s' m, s'.heap.Ns C m → C ≠ X.env.locals → (∀ h'', Heap.SameBut C s'.heap h'' → ∃ ρ' H', Ext ρ H ρ' H' ∧ Rel X.K cm ρ' (A' ++ [.lst ys]) H' ∧ ρ'[A'.length]? = some D ∧ L2.Inv X pins σ H' { s' with heap := h'' } ∧ L2.FpOk X pins H' C) → RR (.ref D) C (.ok .next) s') :
    wpAny (model X.prog X.w) X.A (newList []) (fun acc s₃ => wpAny (model X.prog X.w) X.A (newFunctionEnv scope X.env.globals cl [] X.env.qual none .none (some X.env)) (fun cenv s₄ =>
      codeAny (model X.prog X.w) X.A (.compStart (.ListComp elt [⟨tg, iter, ifs, 0⟩] scope pos) 0 (.ref it) acc { cenv with scope := relabel scope X.env }) (RR acc cenv.locals) s₄) E s₃) E s := by
  refine wpAny_newObj_type (wpAny_newFunctionEnv S.nocell (by intro y hy; simp at hy) (fun h₁ hns₁ hsb₁ => ?_) S.kind)
  dsimp only at hns₁ hsb₁ ⊢
  generalize hH2 : s.heap.push { cls := .type "list", dict := none, data := .seq ([] : List Value).toArray } = H2 at hns₁ hsb₁ ⊢
  have hCz : H2.objs.size = s.heap.objs.size + 1 := by rw [← hH2, Heap.size_push]
  have hfl : ∀ b ∈ fp, b < s.heap.objs.size := fun b hb => by
    obtain ⟨o, ho, _⟩ := T.obj 0 _ st b hb
    exact Heap.lt_size ho
  have hDC : s.heap.objs.size ≠ H2.objs.size := by rw [hCz]; exact Nat.ne_of_lt (Nat.lt_succ_self _)
  have hCle : s.heap.objs.size ≤ H2.objs.size := by rw [hCz]; exact Nat.le_succ _
  have old : ∀ b o, s.heap.get? b = some o → h₁.get? b = some o := fun b o q => hsb₁.extBut b o (by rw [hCz]; exact Nat.ne_of_lt (Nat.lt_succ_of_lt (Heap.lt_size q))) (Heap.get?_push_of_some _ (hH2 ▸ Heap.get?_push_of_some _ q))
  have hacc : h₁.PlainList s.heap.objs.size #[] := ⟨_, hsb₁.extBut _ _ hDC (Heap.get?_push_of_some _ (hH2 ▸ Heap.get?_push_size _ rfl))⟩
  generalize hDe : s.heap.objs.size = D at *
  generalize hCe : H2.objs.size = C at *
  let Y := blk X N scope cl C s H fp
  have hDfp : ∀ b ∈ fp, b ≠ D := fun b hb => Nat.ne_of_lt (hfl b hb)
  have lt_of : ∀ b o, s.heap.get? b = some o → b < D := fun b o q => by rw [← hDe]; exact Heap.lt_size q
  have nD : D ∉ L2.frs X.stack := fun z => by
    obtain ⟨_, o, ho, _⟩ := I.stack.mem z
    exact Nat.lt_irrefl _ (lt_of _ _ ho)
  have cellD : ∀ x c, X.env.cells.lookup x = some c → c < D := fun x c q => by
    obtain ⟨v, o, ho, _⟩ := I.cell x c q
    exact lt_of _ _ ho
  have subc : ∀ x c, cl.lookup x = some c → X.env.cells.lookup x = some c := fun x c q => S.sub (x, c) (PySem.mem_of_lookup q)
  have fpY : ∀ (ps : List (Addr × Obj)) (H' : L2.Hp), (∀ p ∈ ps, ∀ b ∈ fp, p.1 ≠ b) → (∀ b ∈ fp, H' b = none) → ∀ b ∈ fp, L2.FpOk Y ps H' b := fun ps H' hps hn b hb =>
    ⟨hn b hb, Nat.ne_of_lt (Nat.lt_of_lt_of_le (hfl b hb) hCle), fun hz => (List.mem_cons.mp (I.stkSub b hz)).elim (hf b hb).2.1 (hf b hb).2.2.1, .inl hb, fun x c q => (hf b hb).2.2.2.2.1 x c (subc x c q), fun p hp => hps p (by simpa [Y, blk] using hp) b hb⟩
  have I0 : L2.Inv Y [] (Ws.bst js σ) H { s with heap := h₁, toks := s.toks + ([] : List (Str × Value)).length } := blk_start S Fr I hf (fun b hb => by rw [hDe]; exact hfl b hb) (by rw [hDe]; exact hCle) old hns₁
  have st1 : tn 0 h₁ := T.keep 0 _ _ st fun b hb o q => old b o q
  have loop : ∀ s₃ : Shared, s₃ = { s with heap := h₁, toks := s.toks + ([] : List (Str × Value)).length } →
      codeAny (model X.prog X.w) X.A (.compLoop (.ListComp elt [⟨tg, iter, ifs, 0⟩] scope pos) 0 (.ref it) (.ref D) (compEnvC scope cl C X.env)) (RR (.ref D) C) s₃ := by
    rintro s₃ rfl
    refine comp_loop (fun m s' => ∃ i σ' H' ρ' B σp' rest accp accv its, L2.Inv Y [] σ' H' s' ∧ tn i s'.heap ∧ (∀ b ∈ fp, H' b = none) ∧ Ext ρ H ρ' H' ∧ Rel X.K cm ρ' B H' ∧ RSt ρ' H' σp' σ' ∧ cturns J g t e (m + 1) i σp' B = .ok rest A' ∧
      s'.heap.PlainList D (List.toArray its) ∧ H' D = none ∧ L2.Vals accv its ∧ RVs ρ' H' accp accv ∧ accp ++ rest = ys) ?_ n ⟨0, _, H, ρ, A, Ws.bst js σp, ys, [], [], [], I0, st1, fun b hb => (hf b hb).1, Ext.refl _ _, rl, rs.bst js, ev, hacc, by rw [← hDe]; exact I.hok.fresh (Nat.le_refl _), .nil, .nil, rfl⟩
    rintro m s' ⟨i, σ', H', ρ', B, σp', rest, accp, accv, its, I1, st', fn', x1, rl1, rs1, ev1, pl, hDn, va, ra, hys⟩
    obtain ⟨nD0, hDo⟩ := id pl
    have dD : ∀ v, ({ cls := .type "list", data := .seq its.toArray nD0 } : Obj).data ≠ .cell v := fun v z => nomatch z
    have I2 : L2.Inv Y [(D, { cls := .type "list", data := .seq its.toArray nD0 })] σ' H' s' := I1.pins_of fun p hp => by
      have e : p = (D, { cls := .type "list", data := .seq its.toArray nD0 }) := by simpa using hp
      subst e
      exact ⟨hDo, hDn, hDC, nD, dD⟩
    have f2 := fpY [(D, { cls := .type "list", data := .seq its.toArray nD0 })] H' (fun p hp b hb => by
      have e : p = (D, { cls := .type "list", data := .seq its.toArray nD0 }) := by simpa using hp
      subst e
      exact (hDfp b hb).symm) fn'
    rw [cturns_succ] at ev1
    obtain ⟨x, B1, e1, ev2⟩ := bnd_inv ev1
    obtain ⟨rfl, hit⟩ := item_ok rl1 (rj.mono x1) e1
    cases x with
    | none =>
      cases ev2
      rw [List.append_nil] at hys
      subst hys
      refine L2.thn (T.done Y rfl rfl rfl hc i _ s' σ' H' (fun _ _ => False) I2 f2 st' hit) fun r s1 ⟨hr, I3⟩ => ?_
      subst hr
      have hD3 := I3.pin (D, { cls := .type "list", data := .seq its.toArray nD0 }) (by simp)
      obtain ⟨mC, hnC, _⟩ := id I3.loc
      refine hRR D C s1 mC hnC (fun z => ?_) fun h2 sb => ?_
      · have := I.lt
        rw [← z, hDe] at this
        exact absurd (Nat.lt_of_lt_of_le this hCle) (Nat.lt_irrefl _)
      · have ch : ∀ b ∈ fp, (b ∈ X.ex ∨ X.s₀.heap.objs.size ≤ b) ∧ b ≠ X.env.locals ∧ (∀ x c, X.env.cells.lookup x = some c → c ≠ b) ∧ ∀ p ∈ X.pn ++ pins, p.1 ≠ b := fun b hb => ⟨(hf b hb).2.2.2.1, (hf b hb).2.1, (hf b hb).2.2.2.2.1, (hf b hb).2.2.2.2.2⟩
        have IX : L2.Inv X pins σ H' s1 := I.call' I3.os I3.base I3.hok I3.bare ch
        have fpn : ∀ (H'' : L2.Hp) b, D ≤ b → H'' b = none → L2.FpOk X pins H'' b := fun H'' b hb hn => by
          rw [← hDe] at hb
          exact I.fpOk (H' := H'') hb hn
        have IX2 : L2.Inv X pins σ H' { s1 with heap := h2 } := IX.turned (t' := s1.toks) (fun b o hb q => (sb.2 b hb).trans q) I3.free (fpn H' C hCle I3.free).2.1 (fpn H' C hCle I3.free).2.2.2.1 (fpn H' C hCle I3.free).2.2.2.2.1 (fpn H' C hCle I3.free).2.2.2.2.2
        have hlen : accv.length ≤ sizeLine := by rw [← ra.length]; exact LIM_line hy
        have IX3 : L2.Inv X pins σ (L2.upd H' D (.lst accv)) { s1 with heap := h2 } := adopt (fp := fp) IX2 (fpn H' D (Nat.le_refl _) hDn) ⟨hlen, its, nD0, va, (sb.2 D hDC).trans hD3.1⟩
        have ex : Ext ρ' H' (ρ' ++ [D]) (L2.upd H' D (.lst accv)) := Ext.new hDn
        refine ⟨ρ' ++ [D], L2.upd H' D (.lst accv), x1.trans ex, rl1.alloc hDn ⟨accv, L2.upd_same, ra.mono ex⟩ rfl, by rw [← rl1.len]; simp, IX3, fpn _ C hCle ?_⟩
        rw [L2.upd_ne (Ne.symm hDC)]; exact I3.free
    | some v =>
      refine L2.thn (T.item Y rfl rfl rfl hc i _ s' σ' H' (fun _ _ => False) I2 f2 st' hit.1) fun r s1 ⟨u, hr, h4⟩ => ?_
      subst hr
      refine L2.thn h4 fun _ s2 ⟨xv, H3, I3, ru, hyl, st3, fn3⟩ => ?_
      obtain ⟨x2, rl3, rv3⟩ := hit.2 xv H3 hyl
      have f3 := fpY [(D, { cls := .type "list", data := .seq its.toArray nD0 })] H3 (fun p hp b hb => by
        have e : p = (D, { cls := .type "list", data := .seq its.toArray nD0 }) := by simpa using hp
        subst e
        exact (hDfp b hb).symm) fn3
      have I4 := I3.pinned f3 (T.obj _ _ st3)
      obtain ⟨σ4, B4, e4, ev3⟩ := bnd_inv ev2
      obtain ⟨b5, B5, e5, ev4⟩ := bnd_inv ev3
      refine L2.thn (hg C s H fp _ s2 σ' H3 xv u (fun σ5 H5 => ∃ ρ5, Ext ρ' H3 ρ5 H5 ∧ Rel X.K cm ρ5 B4 H5 ∧ RSt ρ5 H5 σ4 σ5) I4 ru ⟨ρ', B1, σp', v, σ4, B4, rl3, rs1.mono x2, rv3, e4, fun ρ5 H5 σ5 x5 rl5 rs5 => ⟨ρ5, x5, rl5, rs5⟩⟩) fun _ s5 ⟨σ5, H5, I5, ρ5, x5, rl5, rs5⟩ => ?_
      refine L2.thn (ht C s H fp _ s5 σ5 H5 (fun b H6 => b = b5 ∧ ∃ ρ6, Ext ρ5 H5 ρ6 H6 ∧ Rel X.K cm ρ6 B5 H6) I5 ⟨ρ5, B4, σ4, b5, B5, rl5, rs5, e5, fun ρ6 H6 x6 rl6 => ⟨rfl, ρ6, x6, rl6⟩⟩) fun ok s6 ⟨H6, I6, hok, ρ6, x6, rl6⟩ => ?_
      subst hok
      have x16 : Ext ρ' H' ρ6 H6 := (x2.trans x5).trans x6
      have unpin : ∀ {σ7 : L2.St} {H7 : L2.Hp} {s7 : Shared}, L2.Inv Y ([(D, { cls := .type "list", data := .seq its.toArray nD0 })] ++ L2.pinsAt fp s2.heap) σ7 H7 s7 → (s7.heap.get? D = some { cls := .type "list", data := .seq its.toArray nD0 } ∧ H7 D = none) ∧ (∀ b ∈ fp, H7 b = none) ∧ (∀ b ∈ fp, ∀ o, s2.heap.get? b = some o → s7.heap.get? b = some o) := fun {σ7 H7 s7} I7 => by
        have p1 := I7.pin (D, { cls := .type "list", data := .seq its.toArray nD0 }) (List.mem_append_right _ (List.mem_append_left _ (by simp)))
        refine ⟨⟨p1.1, p1.2.1⟩, fun b hb => ?_, fun b hb o q => ?_⟩
        · obtain ⟨o, q, _⟩ := T.obj _ _ st3 b hb
          exact (I7.pin (b, o) (List.mem_append_right _ (List.mem_append_right _ (L2.mem_pinsAt hb q)))).2.1
        · exact (I7.pin (b, o) (List.mem_append_right _ (List.mem_append_right _ (L2.mem_pinsAt hb q)))).1
      have bare0 : ∀ {ps : List (Addr × Obj)} {σ7 : L2.St} {H7 : L2.Hp} {s7 : Shared}, L2.Inv Y ps σ7 H7 s7 → L2.Inv Y [] σ7 H7 s7 := fun I7 => I7.pins_of fun p hp => absurd hp (by simp)
      cases ok with
      | false =>
        rw [if_neg (by simp)]
        rw [if_neg (by simp)] at ev4
        cases m with
        | zero => rw [cturns_zero] at ev4; cases ev4
        | succ m =>
          obtain ⟨⟨u1, u2⟩, u3, u4⟩ := unpin I6
          exact ⟨m, Nat.lt_succ_self _, i + 1, σ5, H6, ρ6, B5, σ4, rest, accp, accv, its, bare0 I6, T.keep _ _ _ st3 u4, u3, x1.trans x16, rl6, rs5.mono x6, ev4, ⟨nD0, u1⟩, u2, va, ra.mono x16, hys⟩
      | true =>
        rw [if_pos rfl]
        rw [if_pos rfl] at ev4
        obtain ⟨y, B7, e7, ev5⟩ := bnd_inv ev4
        obtain ⟨more, B8, e8, ev6⟩ := bnd_inv ev5
        cases ev6
        refine L2.thn (he C s H fp _ s6 σ5 H6 (fun yv H7 => ∃ ρ7, Ext ρ6 H6 ρ7 H7 ∧ Rel X.K cm ρ7 B7 H7 ∧ RV ρ7 H7 y yv) I6 ⟨ρ6, B5, σ4, y, B7, rl6, rs5.mono x6, e7, fun ρ7 H7 yv x7 rl7 rv7 => ⟨ρ7, x7, rl7, rv7⟩⟩) fun yu s7 ⟨yv, H7, I7, ry, ρ7, x7, rl7, rv7⟩ => ?_
        obtain ⟨⟨u1, u2⟩, u3, u4⟩ := unpin I7
        have hlen : its.length ≤ sizeLine := by
          rw [← va.length, ← ra.length]
          refine LIM_line (Nat.le_trans ?_ hy)
          rw [← hys, List.length_append]; exact Nat.le_add_right _ _
        refine wpAny_list_append_plain (items := its.toArray) ⟨nD0, u1⟩ (fun h8 pl8 sb8 => ?_) (by rw [List.size_toArray]; exact hlen)
        have I8 : L2.Inv Y [] σ5 H7 { s7 with heap := h8 } := (bare0 I7).turned (t' := s7.toks) (fun b o hb q => (sb8.2 b hb).trans q) u2 hDC (.inr (by show s.heap.objs.size ≤ D; rw [hDe]; exact Nat.le_refl _)) (fun x c q => Nat.ne_of_lt (cellD x c (subc x c q))) (fun p hp => absurd (show p ∈ ([] : List (Addr × Obj)) from hp) (by simp))
        cases m with
        | zero => rw [cturns_zero] at e8; cases e8
        | succ m =>
          have x17 := x16.trans x7
          refine ⟨m, Nat.lt_succ_self _, i + 1, σ5, H7, ρ7, B7, σ4, more, accp ++ [y], accv ++ [yv], its ++ [yu], I8, T.keep _ _ _ st3 fun b hb o q => (sb8.2 b (hDfp b hb)).trans (u4 b hb o q), u3, x1.trans x17, rl7, (rs5.mono x6).mono x7, e8, by simpa using pl8, u2, va.append (.cons ry .nil), (ra.mono x17).append (.cons rv7 .nil), by rw [← hys]; simp⟩
  exact codeAny_compStart_list (loop _ rfl) (T.self X.A 0 _ _ _ st1 (loop _ rfl))
end
end Ws
namespace Ws
open PySem
section
variable {X : L2.Cx} {cm : Nat → Addr}
theorem r_comp {elt tg iter : Expr} {ifs : List Expr} {scope : Scope} {pos : Pos} {cl : List (Str × Addr)} {N : List Str} (js : List (Option Nat)) {it : ID} {g : GD} {t : TD} {e : ED} (hc : X.calm = true) (S : ScOk X scope cl) (Fr : FreeOk X scope cl N js) (hi : L2.PI X tg iter (EvI X.K cm it))
    (hg : ∀ C s0 H0 fp, L2.PG (blk X N scope cl C s0 H0 fp) tg (EvG X.K cm g)) (ht : ∀ C s0 H0 fp, PTs (blk X N scope cl C s0 H0 fp) ifs (EvT X.K cm t)) (he : ∀ C s0 H0 fp, L2.PE (blk X N scope cl C s0 H0 fp) elt (EvE X.K cm e))
    (hs : ∀ x, foldedSetIterable iter X.env x = pure x := by intro _; rfl) : L2.PE X (.ListComp elt [⟨tg, iter, ifs, 0⟩] scope pos) (EvE X.K cm (eComp it (Ws.bst js) g t e)) := by
  intro pins s σ H Q I ⟨ρ, A, σp, v, A', rl, rs, ev, k⟩
  obtain ⟨J, A1, e1, ev1⟩ := bnd_inv ev
  obtain ⟨n, A2, e2, ev2⟩ := bnd_inv ev1
  obtain rfl := fuel_same e2
  obtain ⟨ys, A3, e3, ev3⟩ := bnd_inv ev2
  obtain ⟨c, ev4⟩ := guard_inv ev3
  cases ev4
  rw [eval_ListComp]
  refine wpAny_comprehension_free (use := none) rfl hs S.clos S.kind S.names (wpAny_mono (hi pins s σ H (fun j H1 => ∃ ρ1, Ext ρ H ρ1 H1 ∧ Rel X.K cm ρ1 A2 H1 ∧ RIt X.K ρ1 H1 J j) I ⟨ρ, A, σp, J, A2, rl, rs, e1, fun ρ1 H1 j x1 rl1 rj => ⟨ρ1, x1, rl1, rj⟩⟩) (fun xv s1 h1 => wpAny_mono h1 (fun itv s2 h2 => ?_) fun _ _ z => z) fun _ _ z => z)
  obtain ⟨itA, fp, tn, j, H1, rfl, I1, T, st, hf, ρ1, x1, rl1, rj⟩ := h2
  refine comp_core (RR := fun acc C => compPost (model X.prog X.w) X.A X.xe none (L2.EP X pins σ Q) acc C) hc S Fr hg ht he I1 T st hf rj rl1 (rs.mono x1) e3 c fun D C s' m hn hCL hfin => ⟨m, hn, fun h'' sb => ?_⟩
  obtain ⟨ρ2, H2, x2, rl2, hD, I2, _⟩ := hfin h'' sb
  exact ⟨.ref D, H2, I2, rfl, k ρ2 H2 _ (x1.trans x2) rl2 (.ref hD)⟩
theorem s_comp {elt tg iter : Expr} {ifs : List Expr} {scope : Scope} {pos spos py : Pos} {y : Str} {i : Nat} {cl : List (Str × Addr)} {N : List Str} (js : List (Option Nat)) {it : ID} {g : GD} {t : TD} {e : ED} (hc : X.calm = true) (S : ScOk X scope cl) (Fr : FreeOk X scope cl N js) (hi : L2.PI X tg iter (EvI X.K cm it))
    (hg : ∀ C s0 H0 fp, L2.PG (blk X N scope cl C s0 H0 fp) tg (EvG X.K cm g)) (ht : ∀ C s0 H0 fp, PTs (blk X N scope cl C s0 H0 fp) ifs (EvT X.K cm t)) (he : ∀ C s0 H0 fp, L2.PE (blk X N scope cl C s0 H0 fp) elt (EvE X.K cm e))
    (hN : X.N.Nodup) (hiy : X.N[i]? = some y) (hy : L2.Loc X.env.scope y)
    (hsw : swapsWith (.ListComp elt [⟨tg, iter, ifs, 0⟩] scope pos) (some (.Name y py)) spos.line X.env = pure true := by rfl)
    (hfn : X.fn y = true ∨ X.env.scope.names.lookup y = some .local := by first | exact .inl rfl | exact .inr rfl)
    (hs : ∀ x, foldedSetIterable iter X.env x = pure x := by intro _; rfl) : L2.PS X (.Assign [.Name y py] (.ListComp elt [⟨tg, iter, ifs, 0⟩] scope pos) spos) (EvS X.K cm (sAsg (eComp it (Ws.bst js) g t e) (gName i))) := by
  intro pins s σ H Dn I ⟨ρ, A, σp, fl, A', rl, rs, ev, k⟩
  obtain ⟨v, A0, e0, ev0⟩ := bnd_inv ev
  obtain ⟨σ1, A9, e9, ev9⟩ := bnd_inv ev0
  cases e9
  cases ev9
  obtain ⟨J, A1, e1, ev1⟩ := bnd_inv e0
  obtain ⟨n, A2, e2, ev2⟩ := bnd_inv ev1
  obtain rfl := fuel_same e2
  obtain ⟨ys, A3, e3, ev3⟩ := bnd_inv ev2
  obtain ⟨c, ev4⟩ := guard_inv ev3
  cases ev4
  rw [exec_Assign_Name_used _ _ _ _ hsw]
  refine wpAny_bind (wpAny_standAt (wpAny_bind ?_))
  show wpAny _ X.A (do let _ ← comprehension (.ListComp elt [⟨tg, iter, ifs, 0⟩] scope pos) scope X.env _ (newList []) false (eval iter X.env) (some (assign (.Name y py) X.env))) _ _ s
  refine wpAny_bind (wpAny_mono (wpAny_comprehension_free (use := some (assign (.Name y py) X.env)) (Q := fun _ s' => L2.SP X pins Dn .next s') rfl hs S.clos S.kind S.names (wpAny_mono (hi pins s σ H (fun j H1 => ∃ ρ1, Ext ρ H ρ1 H1 ∧ Rel X.K cm ρ1 A2 H1 ∧ RIt X.K ρ1 H1 J j) I ⟨ρ, A, σp, J, A2, rl, rs, e1, fun ρ1 H1 j x1 rl1 rj => ⟨ρ1, x1, rl1, rj⟩⟩) (fun xv s1 h1 => wpAny_mono h1 (fun itv s2 h2 => ?_) fun _ _ z => z) fun _ _ z => z)) (fun _ s' hq => wpAny_pure (wpAny_pure hq)) fun _ _ z => z)
  obtain ⟨itA, fp, tn, j, H1, rfl, I1, T, st, hf, ρ1, x1, rl1, rj⟩ := h2
  refine comp_core (RR := fun acc C => compPost (model X.prog X.w) X.A X.xe (some (assign (.Name y py) X.env)) (fun _ s' => L2.SP X pins Dn .next s') acc C) hc S Fr hg ht he I1 T st hf rj rl1 (rs.mono x1) e3 c fun D C s' m hn hCL hfin => ?_
  show wpAny _ X.A (assign (.Name y py) X.env (.ref D)) _ _ _
  obtain ⟨ρ2, H2, x2, rl2, hD, I2, fC⟩ := hfin s'.heap (.refl ..)
  obtain ⟨oC, es, ep, hoC, hdC, rC⟩ := id hn
  have I3 : L2.Inv X (pins ++ [(C, oC)]) σ H2 s' := L2.Inv.pins_of (I := I2) fun p hp => by
    rcases List.mem_append.mp hp with hp | hp
    · exact I2.pin p (List.mem_append_right _ hp)
    · have e : p = (C, oC) := by simpa using hp
      subst e
      exact ⟨hoC, fC.1, fC.2.1, fC.2.2.1, fun v z => by rw [hdC] at z; cases z⟩
  refine wpAny_assign_Name (L2.store_ok I3 hN hiy hy (show L2.RelV (.ref D) (.ref D) from rfl) (fun s3 I4 => ?_) hfn)
  have pC := I4.pin (C, oC) (by simp)
  refine ⟨m, ⟨oC, es, ep, pC.1, hdC, rC⟩, fun h4 sb => ?_⟩
  have I5 : L2.Inv X pins (σ.set i (some (.ref D))) H2 s3 := I4.pins_of fun p hp => I4.pin p (List.mem_append_right _ (List.mem_append_left _ hp))
  have I6 : L2.Inv X pins (σ.set i (some (.ref D))) H2 { s3 with heap := h4 } := I5.turned (t' := s3.toks) (fun b o hb q => (sb.2 b hb).trans q) fC.1 fC.2.1 fC.2.2.2.1 fC.2.2.2.2.1 fC.2.2.2.2.2
  exact ⟨σ.set i (some (.ref D)), H2, I6, k ρ2 H2 (x1.trans x2) rl2 _ (((rs.mono x1).mono x2).set i (.ref hD))⟩
end
theorem fa_nil {α : Type} {P : α → Prop} : ∀ x ∈ ([] : List α), P x := fun _ h => nomatch h
theorem fa_cons {α : Type} {P : α → Prop} {a : α} {l : List α} (h : P a) (r : ∀ x ∈ l, P x) : ∀ x ∈ a :: l, P x := fun x hx => (List.mem_cons.mp hx).elim (fun e => e ▸ h) (r x)
end Ws
namespace Ws
open PySem PySem.W PyProof.Rows
noncomputable def wpk {α : Type} (n : Nat) (lt : Nat → Nat → Bool) : KasT α → (α → Prop) → Prop
  | .ret a, Q => Q a
  | .ask i j k, Q => i < n ∧ j < n ∧ wpk n lt (k (lt i j)) Q
theorem wpk_bind {α β : Type} {n : Nat} {lt : Nat → Nat → Bool} {f : α → KasT β} {Q : β → Prop} : ∀ {t : KasT α}, wpk n lt t (fun a => wpk n lt (f a) Q) → wpk n lt (t.bind f) Q
  | .ret _, h => h
  | .ask _ _ k, ⟨h1, h2, h3⟩ => ⟨h1, h2, wpk_bind (t := k _) h3⟩
theorem wpk_run {α : Type} {n : Nat} {lt : Nat → Nat → Bool} {cmp : Nat → Nat → (Bool → Shared → Prop) → Shared → Prop} {G : α → Shared → Prop} {s : Shared} (hc : ∀ i j C, i < n → j < n → C (lt i j) s → cmp i j C s) : ∀ {t : KasT α} {Q : α → Prop}, wpk n lt t Q → (∀ a, Q a → G a s) → t.kasWp cmp G s
  | .ret a, Q, h, hq => hq a h
  | .ask i j k, Q, ⟨h1, h2, h3⟩, hq => hc i j _ h1 h2 (wpk_run hc (t := k _) h3 hq)
section
variable {n : Nat} {α : Type} {key : Nat → α} {lt : Nat → Nat → Bool}
structure Ord (key : Nat → α) (lt : Nat → Nat → Bool) : Prop where
  asym : ∀ a b, lt a b = true → lt b a = false
  tr : ∀ a b c, lt b a = false → lt c b = false → lt c a = false
  tot : ∀ a b, lt a b = false → lt b a = false → key a = key b
  cong : ∀ a b c d, key a = key b → key c = key d → lt a c = lt b d
structure Pm (n : Nat) (p : Array Nat) : Prop where
  size : p.size = n
  perm : p.Perm (List.toArray (List.range n))
theorem Pm.bd {p : Array Nat} (h : Pm n p) (hn : 0 < n) (i : Nat) : p.getD i 0 < n := by
  by_cases hi : i < p.size
  · have e : p.getD i 0 = p[i] := by simp [Array.getD, hi]
    rw [e]
    have hm : p[i] ∈ p.toList := by simp
    have := (Array.perm_iff_toList_perm.mp h.perm).mem_iff.mp hm
    simpa using this
  · have e : p.getD i 0 = 0 := by simp [Array.getD, hi]
    rw [e]; exact hn
theorem getD_of {p q : Array Nat} {i j : Nat} (h : p[i]? = q[j]?) : p.getD i 0 = q.getD j 0 := by
  rw [Array.getD_eq_getD_getElem?, Array.getD_eq_getD_getElem?, h]
theorem Pm.rev {p : Array Nat} (h : Pm n p) (i j : Nat) : Pm n (kas_rev p i j) := ⟨by unfold kas_rev; rw [mirror_size]; exact h.size, (mirror_perm _ _ _ _).trans h.perm⟩
theorem rev_at {p : Array Nat} {i j : Nat} (hj : j ≤ p.size) (k : Nat) : (kas_rev p i j).getD k 0 = if i ≤ k ∧ k < j then p.getD (i + j - 1 - k) 0 else p.getD k 0 := by
  have e := getElem?_mirror_all (xs := p) (i := i) hj k
  unfold kas_rev
  by_cases h : i ≤ k ∧ k < j
  · rw [if_pos h] at e ⊢; exact getD_of e
  · rw [if_neg h] at e ⊢; exact getD_of e
theorem Pm.bub {p : Array Nat} (h : Pm n p) (i d : Nat) : Pm n (bubble p i d) := ⟨by rw [bubble_size]; exact h.size, (bubble_perm _ _ _).trans h.perm⟩
theorem bub_at {p : Array Nat} {src d : Nat} (hs : src < p.size) (hd : d ≤ src) (k : Nat) : (bubble p src d).getD k 0 = if k = src - d then p.getD src 0 else if src - d < k ∧ k ≤ src then p.getD (k - 1) 0 else p.getD k 0 := by
  have e := getElem?_bubble hs d hd k
  by_cases h1 : k = src - d
  · rw [if_pos h1] at e ⊢; exact getD_of e
  · rw [if_neg h1] at e ⊢
    by_cases h2 : src - d < k ∧ k ≤ src
    · rw [if_pos h2] at e ⊢; exact getD_of e
    · rw [if_neg h2] at e ⊢; exact getD_of e
noncomputable def Inc (lt : Nat → Nat → Bool) (p : Array Nat) (m : Nat) : Prop := ∀ i j, i ≤ j → j < m → lt (p.getD j 0) (p.getD i 0) = false
noncomputable def Dec (lt : Nat → Nat → Bool) (p : Array Nat) (m : Nat) : Prop := ∀ i j, i ≤ j → j < m → lt (p.getD i 0) (p.getD j 0) = false
variable (O : Ord key lt) (hn : 0 < n)
include O hn
theorem Ord.irr (a : Nat) : lt a a = false := by
  cases h : lt a a with
  | false => rfl
  | true => have := O.asym a a h; rw [h] at this; exact this
theorem inc_snoc {p : Array Nat} {m : Nat} (h : Inc lt p m) (h1 : m = 0 ∨ lt (p.getD m 0) (p.getD (m - 1) 0) = false) : Inc lt p (m + 1) := fun i j hij hj => by
  by_cases e : j = m
  · subst e
    by_cases e2 : i = j
    · subst e2; exact O.irr hn _
    · rcases h1 with h1 | h1
      · omega
      · exact O.tr _ _ _ (h i (j - 1) (by omega) (by omega)) h1
  · exact h i j hij (by omega)
theorem dec_snoc {p : Array Nat} {m : Nat} (h : Dec lt p m) (h1 : m = 0 ∨ lt (p.getD (m - 1) 0) (p.getD m 0) = false) : Dec lt p (m + 1) := fun i j hij hj => by
  by_cases e : j = m
  · subst e
    by_cases e2 : i = j
    · subst e2; exact O.irr hn _
    · rcases h1 with h1 | h1
      · omega
      · exact O.tr _ _ _ h1 (h i (j - 1) (by omega) (by omega))
  · exact h i j hij (by omega)
theorem k_asc {p : Array Nat} (hp : Pm n p) {Q : Nat → Prop} : ∀ f m, 1 ≤ m → Inc lt p m → (∀ m', m ≤ m' → m' ≤ m + f → Inc lt p m' → (m' < m + f → lt (p.getD m' 0) (p.getD (m' - 1) 0) = true) → Q m') → wpk n lt (kas_asc p f m) Q
  | 0, m, _, hi, h => h m (Nat.le_refl _) (Nat.le_refl _) hi fun z => by omega
  | f + 1, m, h1, hi, h => by
    refine ⟨hp.bd hn m, hp.bd hn (m - 1), ?_⟩
    cases hc : lt (p.getD m 0) (p.getD (m - 1) 0) with
    | true => exact h m (Nat.le_refl _) (by omega) hi fun _ => hc
    | false =>
      simp only [Bool.false_eq_true, if_false]
      exact k_asc hp f (m + 1) (by omega) (inc_snoc O hn hi (.inr hc)) fun m' a b c d => h m' (by omega) (by omega) c fun z => d (by omega)
theorem rev_same {p : Array Nat} {i j : Nat} (hj : j ≤ p.size) (he : ∀ k, i ≤ k → k < j → key (p.getD k 0) = key (p.getD (j - 1) 0)) (k : Nat) : key ((kas_rev p i j).getD k 0) = key (p.getD k 0) := by
  rw [rev_at hj]
  by_cases h : i ≤ k ∧ k < j
  · rw [if_pos h, he (i + j - 1 - k) (by omega) (by omega), he k h.1 h.2]
  · rw [if_neg h]
theorem dec_cong {p q : Array Nat} {m : Nat} (h : ∀ k, key (p.getD k 0) = key (q.getD k 0)) (hd : Dec lt q m) : Dec lt p m := fun i j hij hj => by rw [O.cong _ _ _ _ (h i) (h j)]; exact hd i j hij hj
noncomputable def Eqs (key : Nat → α) (p : Array Nat) (m q : Nat) : Prop := q + 1 ≤ m ∧ ∀ k, m - (q + 1) ≤ k → k < m → key (p.getD k 0) = key (p.getD (m - 1) 0)
omit O hn in
theorem eqs0 {p : Array Nat} {m : Nat} (h : 1 ≤ m) : Eqs key p m 0 := ⟨h, fun k h1 h2 => by rw [show k = m - 1 by omega]⟩
theorem k_desc {Q : Array Nat × Nat × Nat → Prop} : ∀ f (p : Array Nat) m q, Pm n p → m + f ≤ n → Dec lt p m → Eqs key p m q → (∀ p' m' q', Pm n p' → m ≤ m' → m' ≤ m + f → Dec lt p' m' → Eqs key p' m' q' → Q (p', m', q')) → wpk n lt (kas_desc f p m q) Q
  | 0, p, m, q, hp, hmf, hd, he, h => h p m q hp (Nat.le_refl _) (Nat.le_refl _) hd he
  | f + 1, p, m, q, hp, hmf, hd, he, h => by
    refine ⟨hp.bd hn m, hp.bd hn (m - 1), ?_⟩
    have h1 := he.1
    cases hc : lt (p.getD m 0) (p.getD (m - 1) 0) with
    | true =>
      simp only [if_true]
      by_cases hq : q > 0
      · rw [if_pos hq]
        have hs := rev_same O hn (p := p) (i := m - (q + 1)) (j := m) (by rw [hp.size]; omega) he.2
        refine k_desc f _ (m + 1) 0 (hp.rev _ _) (by omega) ?_ (eqs0 (by omega)) fun p' m' q' a b c d e => h p' m' q' a (by omega) (by omega) d e
        exact dec_cong O hn hs (dec_snoc O hn hd (.inr (O.asym _ _ hc)))
      · rw [if_neg hq]
        exact k_desc f p (m + 1) 0 hp (by omega) (dec_snoc O hn hd (.inr (O.asym _ _ hc))) (eqs0 (by omega)) fun p' m' q' a b c d e => h p' m' q' a (by omega) (by omega) d e
    | false =>
      simp only [Bool.false_eq_true, if_false]
      refine ⟨hp.bd hn (m - 1), hp.bd hn m, ?_⟩
      cases hc2 : lt (p.getD (m - 1) 0) (p.getD m 0) with
      | true => exact h p m q hp (Nat.le_refl _) (by omega) hd he
      | false =>
        simp only [Bool.false_eq_true, if_false]
        refine k_desc f p (m + 1) (q + 1) hp (by omega) (dec_snoc O hn hd (.inr hc2)) ⟨by omega, fun k k1 k2 => ?_⟩ fun p' m' q' a b c d e => h p' m' q' a (by omega) (by omega) d e
        rw [Nat.add_sub_cancel]
        by_cases e : k = m
        · rw [e]
        · rw [he.2 k (by omega) (by omega)]; exact O.tot _ _ hc2 hc
theorem k_tail {p : Array Nat} {m : Nat} (hp : Pm n p) (h1 : 1 ≤ m) (hmn : m ≤ n) (hd : Dec lt p m) {Q : Nat × Array Nat → Prop} (h : ∀ m' p', Pm n p' → 1 ≤ m' → m' ≤ n → Inc lt p' m' → Q (m', p')) : wpk n lt (kas_tail3 m n p) Q := by
  refine wpk_bind ?_
  have hi : Inc lt (kas_rev p 0 m) m := fun i j hij hj => by
    rw [rev_at (by rw [hp.size]; exact hmn), rev_at (by rw [hp.size]; exact hmn), if_pos ⟨by omega, hj⟩, if_pos ⟨by omega, by omega⟩]
    exact hd _ _ (by omega) (by omega)
  exact k_asc O hn (hp.rev 0 m) (n - m) m h1 hi fun m' a b c _ => h m' _ (hp.rev 0 m) (by omega) (by omega) c
theorem k_descPart {p : Array Nat} {m : Nat} (hp : Pm n p) (h1 : 1 ≤ m) (hmn : m < n) (hd : Dec lt p (m + 1)) {Q : Nat × Array Nat → Prop} (h : ∀ m' p', Pm n p' → 1 ≤ m' → m' ≤ n → Inc lt p' m' → Q (m', p')) : wpk n lt (kas_descPart m n p) Q := by
  refine wpk_bind (k_desc O hn (n - (m + 1)) p (m + 1) 0 hp (by omega) hd (eqs0 (by omega)) fun p' m' q' a b c d e => ?_)
  have e1 := e.1
  dsimp only
  by_cases hq : q' > 0
  · rw [if_pos hq]
    have hs := rev_same O hn (p := p') (i := m' - (q' + 1)) (j := m') (by rw [a.size]; omega) e.2
    exact k_tail O hn (a.rev _ _) (by omega) (by omega) (dec_cong O hn hs d) h
  · rw [if_neg hq]
    exact k_tail O hn a (by omega) (by omega) d h
theorem k_count {p : Array Nat} (hp : Pm n p) (h2 : 2 ≤ n) {Q : Nat × Array Nat → Prop} (h : ∀ m' p', Pm n p' → 1 ≤ m' → m' ≤ n → Inc lt p' m' → Q (m', p')) : wpk n lt (kas_count n p) Q := by
  refine wpk_bind (k_asc O hn hp (n - 1) 1 (Nat.le_refl _) (fun i j hij hj => by rw [show i = j by omega]; exact O.irr hn _) fun m a b c d => ?_)
  by_cases hm : (m == n) = true
  · rw [if_pos hm]; exact h m p hp a (by omega) c
  · rw [if_neg hm]
    have hmn : m < n := by have : m ≠ n := fun z => hm (by simp [z]); omega
    have hstop := d (by omega)
    by_cases h1 : m > 1
    · rw [if_pos h1]
      refine ⟨hp.bd hn 0, hp.bd hn (m - 1), ?_⟩
      cases hc : lt (p.getD 0 0) (p.getD (m - 1) 0) with
      | true => exact h m p hp a (by omega) c
      | false =>
        simp only [Bool.false_eq_true, if_false]
        have eq1 : ∀ k, 0 ≤ k → k < m → key (p.getD k 0) = key (p.getD (m - 1) 0) := fun k _ hk => by
          refine O.tot _ _ ?_ (c k (m - 1) (by omega) (by omega))
          exact O.tr _ _ _ hc (c 0 k (by omega) hk)
        have hs := rev_same O hn (p := p) (i := 0) (j := m) (by rw [hp.size]; omega) eq1
        refine k_descPart O hn (hp.rev 0 m) a hmn (dec_cong O hn hs (dec_snoc O hn (fun i j hij hj => ?_) (.inr (O.asym _ _ hstop)))) h
        rw [O.cong _ _ _ _ (eq1 i (by omega) (by omega)) (eq1 j (by omega) hj)]; exact O.irr hn _
    · rw [if_neg h1]
      have : m = 1 := by omega
      subst this
      refine k_descPart O hn hp a hmn (dec_snoc O hn (fun i j hij hj => by rw [show i = j by omega]; exact O.irr hn _) (.inr (O.asym _ _ hstop))) h
theorem k_place {p : Array Nat} (hp : Pm n p) {k : Nat} (hi : Inc lt p k) {Q : Nat → Prop} : ∀ f l r, l ≤ r → r ≤ k → r - l ≤ f → (∀ i, i < l → lt (p.getD k 0) (p.getD i 0) = false) → (∀ i, r ≤ i → i < k → lt (p.getD k 0) (p.getD i 0) = true) →
    (∀ l', l' ≤ k → (∀ i, i < l' → lt (p.getD k 0) (p.getD i 0) = false) → (∀ i, l' ≤ i → i < k → lt (p.getD k 0) (p.getD i 0) = true) → Q l') → wpk n lt (kas_place p k f l r) Q
  | 0, l, r, hlr, hrk, hf, h1, h2, h => h l (by omega) h1 fun i a b => h2 i (by omega) b
  | f + 1, l, r, hlr, hrk, hf, h1, h2, h => by
    unfold kas_place
    by_cases hc : l ≥ r
    · rw [if_pos hc]; exact h l (by omega) h1 fun i a b => h2 i (by omega) b
    · rw [if_neg hc]
      refine ⟨hp.bd hn k, hp.bd hn _, ?_⟩
      cases hm : lt (p.getD k 0) (p.getD ((l + r) / 2) 0) with
      | true =>
        simp only [if_true]
        refine k_place hp hi f l ((l + r) / 2) (by omega) (by omega) (by omega) h1 (fun i a b => ?_) h
        cases e : lt (p.getD k 0) (p.getD i 0) with
        | true => rfl
        | false =>
          have := O.tr _ _ _ (hi ((l + r) / 2) i a b) e
          rw [hm] at this; exact this.symm
      | false =>
        simp only [Bool.false_eq_true, if_false]
        refine k_place hp hi f ((l + r) / 2 + 1) r (by omega) hrk (by omega) (fun i a => ?_) h2 h
        exact O.tr _ _ _ (hi i ((l + r) / 2) (by omega) (by omega)) hm
theorem k_bin {Q : Array Nat → Prop} : ∀ f (p : Array Nat) k, Pm n p → k + f = n → Inc lt p k → (∀ p', Pm n p' → Inc lt p' n → Q p') → wpk n lt (kas_bin f p k) Q
  | 0, p, k, hp, hk, hi, h => h p hp (by rw [← hk]; exact hi)
  | f + 1, p, k, hp, hk, hi, h => by
    refine wpk_bind (k_place O hn hp hi k 0 k (by omega) (by omega) (by omega) (fun i a => by omega) (fun i a b => by omega) fun l hl h1 h2 => ?_)
    refine k_bin f _ (k + 1) (hp.bub _ _) (by omega) (fun i j hij hj => ?_) h
    have hsz : k < p.size := by rw [hp.size]; omega
    have hkl : k - (k - l) = l := by omega
    rw [bub_at hsz (by omega), bub_at hsz (by omega), hkl]
    by_cases hj1 : j = l
    · rw [if_pos hj1]
      by_cases hi1 : i = l
      · rw [if_pos hi1]; exact O.irr hn _
      · rw [if_neg hi1, if_neg (by omega)]; exact h1 i (by omega)
    · rw [if_neg hj1]
      by_cases hj2 : l < j ∧ j ≤ k
      · rw [if_pos hj2]
        by_cases hi1 : i = l
        · rw [if_pos hi1]; exact O.asym _ _ (h2 (j - 1) (by omega) (by omega))
        · rw [if_neg hi1]
          by_cases hi2 : l < i ∧ i ≤ k
          · rw [if_pos hi2]; exact hi (i - 1) (j - 1) (by omega) (by omega)
          · rw [if_neg hi2]; exact hi i (j - 1) (by omega) (by omega)
      · rw [if_neg hj2]
        have hjl : j < l := by omega
        rw [if_neg (by omega), if_neg (by omega)]
        exact hi i j hij (by omega)
theorem k_sort (h2 : 2 ≤ n) {Q : Array Nat → Prop} (h : ∀ p', Pm n p' → Inc lt p' n → Q p') : wpk n lt (kas_sort n) Q := by
  refine wpk_bind (k_count O hn (p := List.toArray (List.range n)) ⟨by simp, .refl _⟩ h2 fun m p a b c d => ?_)
  dsimp only
  by_cases hm : m < n
  · rw [if_pos hm, Nat.max_eq_left b]
    exact k_bin O hn (n - m) p m a (by omega) d h
  · rw [if_neg hm]
    have : m = n := by omega
    subst this
    exact h p a d
end
end Ws
namespace Ws
open PySem PySem.W PyProof.Rows
noncomputable def lexF (fin : Bool) : List Int → List Int → Bool
  | x :: xs, y :: ys => if x = y then lexF fin xs ys else decide (x < y)
  | _, _ => fin
theorem lexF_eq : ∀ xs ys : List Int, lexF (decide (xs.length < ys.length)) xs ys = lexLt xs ys
  | [], [] => rfl
  | [], _ :: _ => by simp [lexF, lexLt]
  | _ :: _, [] => by simp [lexF, lexLt]
  | x :: xs, y :: ys => by
    simp only [lexF, lexLt, List.length_cons, Nat.add_lt_add_iff_right]
    rw [lexF_eq xs ys]
section
variable {prog : Program} {w : World} {A : Around} {E : Value → Shared → Prop} {s : Shared}
theorem katlex_ints {fin : Bool} {Q : Bool → Shared → Prop} : ∀ {vs us : List Value} {ns ms : List Int} (i : Nat), IntsAre vs ns → IntsAre us ms → Q (lexF fin ns ms) s → KatLex prog w A true fin Q (vs.zip us) i s
  | _, _, _, _, i, .nil, _, h => by simpa [lexF] using kat_nil h
  | _, _, _, _, i, .cons _ _ _, .nil, h => by simpa [lexF] using kat_nil h
  | _, _, _, _, i, .cons a t hv, .cons c u hw, h => by
    rw [List.zip_cons_cons]
    refine kat_cons (wpAny_eqBool_int ?_)
    by_cases e : a = c
    · subst e
      simp only [lexF, if_true] at h
      rw [beq_self_eq_true]
      exact kat_yes (katlex_ints (i + 1) hv hw h)
    · rw [beq_eq_false_iff_ne.mpr e]
      simp only [lexF, e, if_false] at h
      refine kat_no ?_
      cases hb : (true && i == 0) with
      | true => exact oneLt_int h
      | false => exact kat_one _ _ (lt_int h)
noncomputable def TupAt (h : Heap) (v : Value) (t : List Int) : Prop := ∃ a o its n, v = .ref a ∧ h.get? a = some o ∧ o.cls = .type "tuple" ∧ o.data = .seq its n ∧ IntsAre its.toList t ∧ t ≠ []
theorem tups_get {h : Heap} : ∀ {vs : List Value} {ts : List (List Int)} {i : Nat}, Paired (TupAt h) vs ts → i < vs.length → TupAt h (vs.getD i .none) (ts.getD i [])
  | _, _, _, .nil, hi => by simp at hi
  | _, _, 0, .cons r _, _ => r
  | _, _, i + 1, .cons _ t, hi => by
    have := tups_get (i := i) t (by simpa using hi)
    simpa using this
theorem tups_kat {h : Heap} : ∀ {vs : List Value} {ts : List (List Int)}, Paired (TupAt h) vs ts → ∃ fs, KatTups h vs fs ∧ fs.length = vs.length ∧ ∀ f ∈ fs, ∃ i t, f = Value.int i t
  | _, _, .nil => ⟨[], KatTups.nil, rfl, by simp⟩
  | _, _, .cons r t => by
    obtain ⟨a, o, its, n, rfl, ho, hc, hd, hi, hne⟩ := r
    obtain ⟨fs, k, hl, hf⟩ := tups_kat t
    cases hh : its.toList with
    | nil => rw [hh] at hi; cases hi; exact absurd rfl hne
    | cons v r =>
      rw [hh] at hi
      cases hi with
      | cons i tk hr =>
        refine ⟨.int i tk :: fs, KatTups.cons ho hc hd (by rw [← Array.getElem?_toList, hh]; rfl) k, by simp [hl], fun f hm => ?_⟩
        rcases List.mem_cons.mp hm with rfl | hm
        · exact ⟨_, _, rfl⟩
        · exact hf f hm
theorem ord_lex (ts : List (List Int)) : Ord (fun i => ts.getD i []) (fun i j => lexLt (ts.getD i []) (ts.getD j [])) :=
  ⟨fun _ _ h => lex_asym _ _ h, fun _ _ _ h h' => lex_tr _ _ _ h h', fun _ _ h h' => lex_tot _ _ h h', fun _ _ _ _ h h' => congr (congrArg lexLt h) h'⟩
noncomputable def SortRes (ts : List (List Int)) (n : Nat) (p : List Nat) : Prop := p.Perm (List.range n) ∧ (p.map fun i => ts.getD i []).Pairwise (fun x y => lexLt y x = false)
theorem list_sort_tups {a : Addr} {vs : List Value} {ts : List (List Int)} {n : Nat} {P : PySem.Fin → Shared → Prop} (ho : s.heap.get? a = some (seqObj "list" vs.toArray n)) (ht : Paired (TupAt s.heap) vs ts) (h64 : vs.length < 64)
    (h : ∀ p, SortRes ts vs.length p → P (.done (.ret .none)) { s with heap := sortedHeap s.heap a vs (List.toArray (p.map fun i => vs.getD i Value.none)) }) :
    wpAny (model prog w) A (Builtin.«list.sort» ⟨[.ref a], []⟩) P E s := by
  rw [list_sort_plain]
  have ha : a < s.heap.objs.size := Heap.lt_size ho
  refine wpAny_bind (listItems_at ho rfl ?_)
  refine wpAny_bind (listUpdate_at ho rfl ?_)
  obtain ⟨e1, ho1⟩ : ∃ e1, (s.heap.update a (Obj.mapSeq fun _ => #[])).get? a = some (seqObj "list" #[] e1) := ⟨_, get?_update_seq ho (fun _ => #[])⟩
  refine wpAny_bind (seqEpoch_at ho1 rfl ?_)
  refine wpAny_bind (wpAny_newTuple ?_)
  refine wpAny_bind (wpAny_newList ?_)
  refine wpAny_holding ?_
  have ho6 : (((s.heap.update a (Obj.mapSeq fun _ => #[])).push (seqObj "tuple" vs.toArray 0)).push (seqObj "list" #[] 0)).get? a = some (seqObj "list" #[] e1) := by
    rw [Heap.get?_push_ne _ _ _ (by rw [size_push', Heap.size_update]; exact Nat.ne_of_lt (Nat.lt_succ_of_lt ha)), Heap.get?_push_ne _ _ _ (by rw [Heap.size_update]; exact Nat.ne_of_lt ha)]
    exact ho1
  show wpAny (model prog w) A _ P E { s with heap := ((s.heap.update a (Obj.mapSeq fun _ => #[])).push (seqObj "tuple" vs.toArray 0)).push (seqObj "list" #[] 0) }
  dsimp only
  have hsz : vs.toArray.size = vs.length := by simp
  have tst : ∀ v t, TupAt s.heap v t → TupAt (((s.heap.update a (Obj.mapSeq fun _ => #[])).push (seqObj "tuple" vs.toArray 0)).push (seqObj "list" #[] 0)) v t := fun v t ⟨b, o, its, k, e, q, c, d, r⟩ => by
    have hb : b ≠ a := by
      rintro rfl
      rw [ho] at q; cases q
      exact absurd (Value.type.inj (show Value.type "list" = Value.type "tuple" from c)) (by decide)
    exact ⟨b, o, its, k, e, Heap.get?_push_of_some _ (Heap.get?_push_of_some _ (by rw [Heap.get?_update_ne _ _ _ _ hb]; exact q)), c, d, r⟩
  have ht6 : Paired (TupAt (((s.heap.update a (Obj.mapSeq fun _ => #[])).push (seqObj "tuple" vs.toArray 0)).push (seqObj "list" #[] 0))) vs ts := L2.Paired.mapP ht tst
  by_cases h2 : vs.toArray.size < 2
  · rw [if_pos h2, if_pos h2]
    refine wpAny_bind (wpAny_pure ?_)
    rw [StateT.run_pure]
    refine wpAny_bind (wpAny_pure ?_)
    dsimp only
    refine wpAny_bind (seqEpoch_at ho6 rfl ?_)
    refine wpAny_bind (listUpdate_at ho6 rfl ?_ (hsz2 := by rw [Array.size_map]; show (pairsOf vs).size ≤ _; rw [pairsOf_size, sizeLine_eq]; omega))
    simp only [bne_self_eq_false, Bool.false_eq_true, if_false]
    have hp : SortRes ts vs.length (List.range vs.length) := by
      refine ⟨.refl _, ?_⟩
      rw [hsz] at h2
      match hl : vs.length, h2 with
      | 0, _ => simp
      | 1, _ => simp [List.range_succ]
    have hout : (arrOf (SortSt.mk' general' (vs.toArray.zip vs.toArray) #[] 7 none)).map (·.2) = List.toArray ((List.range vs.length).map fun i => vs.getD i Value.none) := by
      apply Array.toList_inj.mp
      show ((vs.toArray.zip vs.toArray).map (·.2)).toList = _
      apply List.ext_getElem
      · simp
      · intro i h1 h2
        have hi : i < vs.length := by simpa using h1
        simp [hi]
    have := h _ hp
    rw [← hout] at this
    exact wpAny_pure this
  · rw [if_neg h2, if_neg h2]
    have hl2 : 2 ≤ vs.length := by omega
    obtain ⟨fs, hk, hfl, hfi⟩ := tups_kat ht6
    refine wpAny_bind (kat_kind (T := .type "int") hk (by omega) (fun v hv => by
      obtain ⟨i, t, rfl⟩ := hfi v hv
      exact Looks.of_pure rfl) (by rfl) ?_)
    have ev : (kas_sort vs.length).kasWp (kas_ask prog w A (tuples' (Value.type "int" != Value.type "tuple")) vs) (fun p s' => SortRes ts vs.length p.toList ∧ s' = { s with heap := ((s.heap.update a (Obj.mapSeq fun _ => #[])).push (seqObj "tuple" vs.toArray 0)).push (seqObj "list" #[] 0) }) { s with heap := ((s.heap.update a (Obj.mapSeq fun _ => #[])).push (seqObj "tuple" vs.toArray 0)).push (seqObj "list" #[] 0) } := by
      refine wpk_run (n := vs.length) (lt := fun i j => lexLt (ts.getD i []) (ts.getD j [])) (fun i j C hi hj hC => ?_) (k_sort (ord_lex ts) (by omega) hl2 (Q := fun p => SortRes ts vs.length p.toList) fun p hp hinc => ?_) fun p hp => ⟨hp, rfl⟩
      · obtain ⟨b, o, its, k, e, q, c, d, r, _⟩ := tups_get ht6 hi
        obtain ⟨b', o', its', k', e', q', c', d', r', _⟩ := tups_get ht6 hj
        unfold kas_ask
        rw [e, e']
        refine kat_lt (b := true) q d q' d' (katlex_ints 0 r r' ?_)
        have z1 : its.size = (ts.getD i []).length := by rw [← r.length]; simp
        have z2 : its'.size = (ts.getD j []).length := by rw [← r'.length]; simp
        rw [z1, z2, lexF_eq]; exact hC
      · refine ⟨by simpa using Array.perm_iff_toList_perm.mp hp.perm, ?_⟩
        rw [List.pairwise_map, List.pairwise_iff_getElem]
        intro i j hi hj hij
        have := hinc i j (by omega) (by rw [← hp.size]; simpa using hj)
        have hi' : i < p.size := by simpa using hi
        have hj' : j < p.size := by simpa using hj
        simpa [Array.getD, hi', hj'] using this
    refine wpAny_bind (wpAny_mono (kat_run (Q := fun st' s' => ∃ p : Array Nat, p.size = vs.length ∧ arrOf st' = p.map (kas_item (vs.toArray.zip vs.toArray)) ∧ failedOf st' = none ∧ SortRes ts vs.length p.toList ∧ s' = { s with heap := ((s.heap.update a (Obj.mapSeq fun _ => #[])).push (seqObj "tuple" vs.toArray 0)).push (seqObj "list" #[] 0) })
      rfl hl2 h64 (fun p' st' s' a1 a2 a3 a4 => ⟨p', a1, a2, a3, a4.1, a4.2⟩) ev) ?_ fun _ _ e => e)
    rintro ⟨⟨⟩, st'⟩ s' ⟨p, hp, har, hf, hres, rfl⟩
    dsimp only
    have hout := kat_snds rfl har
    have hsz3 : (List.toArray (p.toList.map fun i => vs.getD i Value.none)).size = vs.length := by rw [List.size_toArray, List.length_map, Array.length_toList, hp]
    refine wpAny_bind (seqEpoch_at ho6 rfl ?_)
    rw [hout]
    refine wpAny_bind (listUpdate_at ho6 rfl ?_ (hsz2 := by rw [hsz3, sizeLine_eq]; omega))
    rw [hf]
    simp only [bne_self_eq_false, Bool.false_eq_true, if_false]
    exact wpAny_pure (h p.toList hres)
theorem sorted_tups {l : Addr} {vs : List Value} {ts : List (List Int)} {Q : Value → Shared → Prop} (hl : s.heap.IsList l vs.toArray) (ht : Paired (TupAt s.heap) vs ts) (h64 : vs.length < 64)
    (h : ∀ p, SortRes ts vs.length p → Q (.ref (s.heap.objs.size + 1)) { s with heap := sortedAll s.heap vs (List.toArray (p.map fun i => vs.getD i Value.none)) }) :
    wpAny (model prog w) A (call (.builtin "sorted") [.ref l]) Q E s := by
  refine Calls.call_function_entry kind_sorted plain_sorted entry_sorted (args_sorted1 _) ?_
  unfold Builtin.«sorted»
  refine wpAny_bind (m := checkCount "sorted" 1 1 _) (wpAny_pure ?_)
  refine wpAny_bind (collect_list hl ?_)
  refine wpAny_bind (wpAny_newList ?_)
  have hsz : ((s.heap.push (seqObj "list" #[] 0)).update s.heap.objs.size (Obj.mapSeq (· ++ vs.toArray))).objs.size = s.heap.objs.size + 1 := by
    rw [Heap.size_update, size_push']
  have hoL : (((s.heap.push (seqObj "list" #[] 0)).update s.heap.objs.size (Obj.mapSeq (· ++ vs.toArray))).push (seqObj "list" vs.toArray 0)).get? (s.heap.objs.size + 1) = some (seqObj "list" vs.toArray 0) := by
    rw [← hsz]; exact Heap.get?_push_size _ rfl
  show wpAny _ _ _ _ _ { s with heap := ((s.heap.push (seqObj "list" #[] 0)).update s.heap.objs.size (Obj.mapSeq (· ++ vs.toArray))).push (seqObj "list" vs.toArray 0) }
  rw [hsz]
  have keep : ∀ b o, s.heap.get? b = some o → (((s.heap.push (seqObj "list" #[] 0)).update s.heap.objs.size (Obj.mapSeq (· ++ vs.toArray))).push (seqObj "list" vs.toArray 0)).get? b = some o := fun b o q => by
    have hlt : b < s.heap.objs.size := Heap.lt_size q
    rw [Heap.get?_push_ne _ _ _ (by rw [hsz]; exact Nat.ne_of_lt (Nat.lt_succ_of_lt hlt)), Heap.get?_update_ne _ _ _ _ (Nat.ne_of_lt hlt), Heap.get?_push_ne _ _ _ (Nat.ne_of_lt hlt)]
    exact q
  refine wpAny_bind (wpAny_holding (wpAny_call_entry slot_list_sort ⟨_, hoL, rfl⟩ entry_list_sort (list_sort_tups hoL (L2.Paired.mapP ht fun v t ⟨b, o, its, k, e, q, r⟩ => ⟨b, o, its, k, e, keep b o q, r⟩) h64 fun p hp => ⟨_, rfl, ?_⟩) (args_list_sort _)))
  exact wpAny_pure ⟨_, rfl, h p hp⟩
end
section
variable {X : L2.Cx} {cm : Nat → Addr}
noncomputable def rSortI (K : PySem.W.Frag) : List L2.V → L2.Hp → L2.VK → Prop := fun vs H Q => ∃ a ns, vs = [.ref a] ∧ L2.SqL K H a (ns.map L2.V.int) ∧ ns.length < 64 ∧ ∀ l, H l = none → Q (.ref l) (L2.upd H l (.lst ((sortBy ltI ns).map L2.V.int)))
theorem call_sortI : L2.CallR X (.builtin "sorted") (rSortI X.K) := by
  intro pins s σ H xs us Q I r h
  obtain ⟨a, ns, rfl, hq, h64, q⟩ := h
  obtain ⟨u, rfl, rx⟩ := L2.vals1 r
  cases rx
  obtain ⟨its, ri, pl, hz⟩ := I.list hq
  have hI : IntsAre its ns := L2.intsAre_of ri
  have hl : its.length = ns.length := hI.length
  refine sorted_ints pl.isList hI (by omega) fun out ns' h1 h2 h3 => ?_
  have e : ns' = sortBy ltI ns := rise_uniq (h2.trans (sortBy_perm _ _).symm) h3 (sortI_sorted ns)
  subst e
  obtain ⟨c, hat⟩ := sortedAll_at s.heap its out
  have hlen : (sortBy ltI ns).length = ns.length := (sortBy_perm _ _).length_eq
  refine ⟨.ref (s.heap.objs.size + 1), _, I.laid (t' := s.toks) (a := s.heap.objs.size + 1) (o := .lst ((sortBy ltI ns).map L2.V.int)) (fun b o e => sortedAll_old e) (Nat.le_succ _) ?_, rfl, q _ (I.hok.fresh (Nat.le_succ _))⟩
  refine ⟨by rw [List.length_map, hlen, sizeLine_eq]; omega, out.toList, c, L2.vals_ints h1, ?_⟩
  rw [Array.toArray_toList]; exact hat
noncomputable def TupV (H : L2.Hp) (x : L2.V) (t : List Int) : Prop := ∃ b, x = .ref b ∧ H b = some (.tup (t.map L2.V.int)) ∧ t ≠ []
noncomputable def rSortT (K : PySem.W.Frag) : List L2.V → L2.Hp → L2.VK → Prop := fun vs H Q => ∃ a xs ts, vs = [.ref a] ∧ L2.SqL K H a xs ∧ Paired (TupV H) xs ts ∧ xs.length < 64 ∧ ∀ l p, SortRes ts xs.length p → H l = none → Q (.ref l) (L2.upd H l (.lst (p.map fun i => xs.getD i .non)))
theorem tups_of {pins : List (Addr × Obj)} {σ : L2.St} {H : L2.Hp} {s : Shared} (I : L2.Inv X pins σ H s) : ∀ {xs : List L2.V} {its : List Value} {ts : List (List Int)}, L2.Vals xs its → Paired (TupV H) xs ts → Paired (TupAt s.heap) its ts
  | _, _, _, .nil, .nil => .nil
  | _, _, _, .cons r t, .cons h k => by
    refine .cons ?_ (tups_of I t k)
    obtain ⟨b, rfl, hb, hne⟩ := h
    cases r
    obtain ⟨_, vals, rv, ob, ho, hc, n, hd⟩ := I.hok b _ hb
    exact ⟨b, ob, vals.toArray, n, rfl, ho, hc, hd, by simpa using L2.intsAre_of rv, hne⟩
theorem vals_pick {xs : List L2.V} {its : List Value} (r : L2.Vals xs its) : ∀ p : List Nat, (∀ i ∈ p, i < xs.length) → L2.Vals (p.map fun i => xs.getD i .non) (p.map fun i => its.getD i .none)
  | [], _ => .nil
  | i :: p, h => by
    have hi := h i List.mem_cons_self
    obtain ⟨u, hu, ru⟩ := r.get (i := i) (x := xs[i]) (by simp [hi])
    refine .cons ?_ (vals_pick r p fun j hj => h j (List.mem_cons_of_mem _ hj))
    have e1 : xs.getD i .non = xs[i] := by simp [hi]
    have e2 : its.getD i .none = u := by rw [List.getD_eq_getElem?_getD, hu]; rfl
    show L2.RelV (xs.getD i .non) (its.getD i .none)
    rw [e1, e2]; exact ru
theorem call_sortT : L2.CallR X (.builtin "sorted") (rSortT X.K) := by
  intro pins s σ H xs us Q I r h
  obtain ⟨a, ys, ts, rfl, hq, ht, h64, q⟩ := h
  obtain ⟨u, rfl, rx⟩ := L2.vals1 r
  cases rx
  obtain ⟨its, ri, pl, hz⟩ := I.list hq
  have hl : ys.length = its.length := ri.length
  refine sorted_tups pl.isList (tups_of I ri ht) (by omega) fun p hp => ?_
  have hp' : SortRes ts ys.length p := by rw [hl]; exact hp
  obtain ⟨c, hat⟩ := sortedAll_at s.heap its (List.toArray (p.map fun i => its.getD i Value.none))
  have hpl : p.length = ys.length := by rw [hp'.1.length_eq]; simp
  refine ⟨.ref (s.heap.objs.size + 1), _, I.laid (t' := s.toks) (a := s.heap.objs.size + 1) (o := .lst (p.map fun i => ys.getD i .non)) (fun b o e => sortedAll_old e) (Nat.le_succ _) ?_, rfl, q _ p hp' (I.hok.fresh (Nat.le_succ _))⟩
  refine ⟨by rw [List.length_map, hpl, sizeLine_eq]; omega, p.map fun i => its.getD i Value.none, c, vals_pick ri p fun i hi => ?_, hat⟩
  have := hp'.1.mem_iff.mp hi
  simpa using this
theorem intsOf_inv : ∀ {l : List PV} {ns : List Int}, intsOf l = some ns → l = ns.map .int
  | [], ns, h => by simp [intsOf] at h; subst h; rfl
  | x :: r, ns, h => by
    cases x with
    | int i =>
      simp only [intsOf, Option.map_eq_some_iff] at h
      obtain ⟨m, h1, rfl⟩ := h
      rw [intsOf_inv h1]; rfl
    | _ => simp [intsOf] at h
theorem tupsOf_inv : ∀ {l : List PV} {ts : List (List Int)}, tupsOf l = some ts → l = ts.map (fun t => PV.tup (t.map .int)) ∧ ∀ t ∈ ts, t ≠ []
  | [], ts, h => by simp [tupsOf] at h; subst h; simp
  | x :: r, ts, h => by
    cases x with
    | tup m =>
      cases m with
      | nil => simp [tupsOf] at h
      | cons y ys =>
        unfold tupsOf at h
        rcases e1 : intsOf (y :: ys) with _ | z
        · rw [e1] at h; cases h
        · rcases e2 : tupsOf r with _ | zs
          · rw [e1, e2] at h; cases h
          · rw [e1, e2] at h
            cases h
            obtain ⟨a, b⟩ := tupsOf_inv e2
            have e3 := intsOf_inv e1
            refine ⟨by rw [a, e3]; rfl, fun t ht => ?_⟩
            rcases List.mem_cons.mp ht with rfl | ht
            · rintro rfl; simp at e3
            · exact b t ht
    | _ => simp [tupsOf] at h
theorem RVs.ints_inv {ρ : List Addr} {H : L2.Hp} : ∀ {ns : List Int} {xs : List L2.V}, RVs ρ H (ns.map .int) xs → xs = ns.map L2.V.int
  | [], _, h => by cases h; rfl
  | i :: ns, _, h => by cases h with | cons h r => cases h; rw [RVs.ints_inv r]; rfl
theorem tupV_of {ρ : List Addr} {H : L2.Hp} : ∀ {ts : List (List Int)} {xs : List L2.V}, RVs ρ H (ts.map fun t => PV.tup (t.map .int)) xs → (∀ t ∈ ts, t ≠ []) → Paired (TupV H) xs ts
  | [], _, h, _ => by cases h; exact .nil
  | t :: ts, _, h, hne => by
    cases h with
    | cons h r =>
      cases h with
      | tup ha rt =>
        rw [RVs.ints_inv rt] at ha
        exact .cons ⟨_, rfl, ha, hne t List.mem_cons_self⟩ (tupV_of r fun u hu => hne u (List.mem_cons_of_mem _ hu))
theorem rvs_pick {ρ : List Addr} {H : L2.Hp} {l : List PV} {xs : List L2.V} (r : RVs ρ H l xs) : ∀ p : List Nat, (∀ i ∈ p, i < l.length) → RVs ρ H (p.map fun i => l.getD i .non) (p.map fun i => xs.getD i .non)
  | [], _ => .nil
  | i :: p, h => by
    have hi := h i List.mem_cons_self
    obtain ⟨u, hu, ru⟩ := r.get (i := i) (x := l[i]) (by simp [hi])
    refine .cons ?_ (rvs_pick r p fun j hj => h j (List.mem_cons_of_mem _ hj))
    have e1 : l.getD i .non = l[i] := by simp [hi]
    have e2 : xs.getD i .non = u := by rw [List.getD_eq_getElem?_getD, hu]; rfl
    show RV ρ H (l.getD i .non) (xs.getD i .non)
    rw [e1, e2]; exact ru
theorem pick_perm {α : Type} (ts : List α) (d : α) {p : List Nat} (hp : p.Perm (List.range ts.length)) : (p.map fun i => ts.getD i d).Perm ts := by
  refine (hp.map _).trans ?_
  have : (List.range ts.length).map (fun i => ts.getD i d) = ts := by
    apply List.ext_getElem
    · simp
    · intro i h1 h2; simp [h2]
  rw [this]
theorem r_sorted {e : Expr} {d : ED} {p pos : Pos} (hr : X.A.units + 64 < cLine) (he : L2.PE X e (EvE X.K cm d)) (hg : L2.Gl X "sorted") (hm : X.mg "sorted" = none) (hs : starEach [e] X.env = (false, eval e X.env) :: starEach [] X.env := by rfl) : L2.PE X (.Call (.Name "sorted" p) [e] [] pos) (EvE X.K cm (eSorted d)) :=
  PE_imp (L2.pe_callB (call_sortI.or call_sortT) hg hm PyProof.Rows.boot_sorted (r_cons he r_nil hs) (he := hs)) fun σ H Q h => ev_one (f := fun x => match x with | .ref n => bnd (lstAt n) fun l => bnd (pSorted l) fun m => alloc (.lst m) | _ => stuck) (fun _ => rfl) (fun ρ A H x z A' v Q rl rx ev k => by
    cases x with
    | ref n =>
      obtain ⟨l, A1, e1, ev1⟩ := bnd_inv ev
      obtain ⟨rfl, a, xs, rfl, hq, r⟩ := lst_read rl rx e1
      obtain ⟨m, A2, e2, ev2⟩ := bnd_inv ev1
      obtain ⟨h64, e3⟩ := guard_inv e2
      rcases hi : intsOf l with _ | ns
      · rcases ht : tupsOf l with _ | ts
        · rw [hi, ht] at e3; cases e3
        · rw [hi, ht] at e3
          cases e3
          cases ev2
          obtain ⟨rfl, hne⟩ := tupsOf_inv ht
          have hl : xs.length = ts.length := by rw [← r.length]; simp
          refine .inr ⟨a, xs, ts, rfl, hq, tupV_of r hne, by rw [← r.length]; exact h64, fun D p hp hD => ?_⟩
          rw [hl] at hp
          have es : (p.map fun i => ts.getD i []) = sortBy lexLt ts := sort_uniq (lt := lexLt) lex_tot ((pick_perm ts [] hp.1).trans (sortBy_perm _ _).symm) hp.2 (lex_sorted ts)
          have hlt : ∀ i ∈ p, i < ts.length := fun i hi => by simpa using hp.1.mem_iff.mp hi
          have ep : (sortBy lexLt ts).map (fun t => PV.tup (t.map .int)) = p.map fun i => (ts.map fun t => PV.tup (t.map .int)).getD i .non := by
            rw [← es, List.map_map]
            refine List.map_congr_left fun i hi => ?_
            have := hlt i hi
            simp [this]
          have ex : Ext ρ H (ρ ++ [D]) (L2.upd H D (.lst (p.map fun i => xs.getD i .non))) := Ext.new hD
          refine k (ρ ++ [D]) _ _ ex (rl.alloc hD ⟨_, L2.upd_same, ?_⟩ rfl) (.ref (by rw [← rl.len]; simp))
          rw [ep]
          exact (rvs_pick r p fun i hi => by rw [List.length_map]; exact hlt i hi).mono ex
      · rw [hi] at e3
        cases e3
        cases ev2
        have hl := intsOf_inv hi
        subst hl
        have hx := RVs.ints_inv r
        subst hx
        refine .inl ⟨a, ns, rfl, hq, by simpa using h64, fun D hD => ?_⟩
        have ex : Ext ρ H (ρ ++ [D]) (L2.upd H D (.lst ((sortBy ltI ns).map L2.V.int))) := Ext.new hD
        exact k (ρ ++ [D]) _ _ ex (rl.alloc hD ⟨_, L2.upd_same, RVs.ints _⟩ rfl) (.ref (by rw [← rl.len]; simp))
    | _ => cases ev) h
end
end Ws
namespace Ws
open PySem
theorem kit_all (K : PySem.W.Frag) : Kit K := ⟨fun a b ha hb => by
  simp only [List.mem_cons, List.not_mem_nil, or_false] at ha hb
  rcases ha with rfl | rfl | rfl | rfl | rfl | rfl <;> rcases hb with rfl | rfl | rfl | rfl <;> with_unfolding_all rfl⟩
noncomputable def NoRt (s : SD) : Prop := ∀ σ A v A', s σ A ≠ .ok (.rt v) A'
theorem nrt_seq {a b : SD} (ha : NoRt a) (hb : NoRt b) : NoRt (sSeq a b) := fun σ A v A' h => by
  obtain ⟨o, A1, e1, e2⟩ := bnd_inv h
  cases o with
  | nx σ1 => exact hb _ _ _ _ e2
  | rt u => exact ha _ _ _ _ e1
  | bk σ1 => cases e2
  | ct σ1 => cases e2
theorem nrt_if {t : TD} {a b : SD} (ha : NoRt a) (hb : NoRt b) : NoRt (sIf t a b) := fun σ A v A' h => by
  obtain ⟨c, A1, e1, e2⟩ := bnd_inv h
  cases c with
  | true => rw [if_pos rfl] at e2; exact ha _ _ _ _ e2
  | false => rw [if_neg (by simp)] at e2; exact hb _ _ _ _ e2
theorem nrt_pass : NoRt sPass := fun σ A v A' h => by cases h
theorem nrt_never : NoRt sNever := fun σ A v A' h => by cases h
theorem nrt_asg {e : ED} {g : GD} : NoRt (sAsg e g) := fun σ A v A' h => by
  obtain ⟨x, A1, e1, e2⟩ := bnd_inv h
  obtain ⟨y, A2, e3, e4⟩ := bnd_inv e2
  cases e4
theorem nrt_fld {a e : ED} {f : Nat} : NoRt (sFld a f e) := fun σ A v A' h => by
  obtain ⟨x, A1, e1, e2⟩ := bnd_inv h
  obtain ⟨y, A2, e3, e4⟩ := bnd_inv e2
  cases y with
  | ref n =>
    obtain ⟨o, A3, e5, e6⟩ := bnd_inv e4
    obtain ⟨_, e7⟩ := guard_inv e6
    cases e7
  | _ => cases e4
theorem non_of {n p : Nat} {s : SD} (hs : NoRt s) {vs : List PV} {A A' : PHp} {v : PV} (h : fn n p s vs A = .ok v A') : v = .non := by
  obtain ⟨_, h1⟩ := guard_inv h
  obtain ⟨o, A1, e1, e2⟩ := bnd_inv h1
  cases o with
  | nx σ1 => cases e2; rfl
  | rt u => exact absurd e1 (hs _ _ _ _)
  | bk σ1 => cases e2
  | ct σ1 => cases e2
noncomputable def SpLaw (K : PySem.W.Frag) : L2.Sp := fun vs H Q _ => ∃ (a : Addr) (ns : List Int), vs = [.ref a] ∧ L2.SqL K H a (ns.map L2.V.int) ∧ ns.length ≤ 63 ∧ L2.Only H ∧ ∀ H', Q (.bl true) H'
theorem law_sp {K : PySem.W.Frag} {cm : Nat → Addr} {f : Fun} (h : ∀ ns : List Int, ∃ A', f [.ref 0] [.ro (ns.map .int)] = .ok (.bl true) A') (vs : List L2.V) (H : L2.Hp) (Q : L2.VK) (E : L2.XK) (q : SpLaw K vs H Q E) : SpF K cm f 1 vs H Q E := by
  obtain ⟨a, ns, rfl, hS, _, hO, k⟩ := q
  obtain ⟨A', e⟩ := h ns
  have fz : Fz K H a (ns.map L2.V.int) := by
    rcases hS with (hS | hS) | hS
    · rcases hO a with z | ⟨o, xs, z⟩ <;> (rw [hS] at z; cases z)
    · exact .inl hS
    · exact .inr hS
  refine ⟨[a], [.ro (ns.map .int)], [.ref 0], .bl true, A', ⟨rfl, fun n o b h1 h2 => ?_, fun m n b o p h1 h2 h3 h4 m1 m2 => ?_⟩, .cons (.ref rfl) .nil, rfl, e, fun ρ' H' v' _ _ rv => by cases rv; exact k H'⟩
  · cases n with
    | zero => simp at h1 h2; subst h1; subst h2; exact ⟨_, fz, RVs.ints ns⟩
    | succ n => simp at h1
  · cases m with
    | zero => cases n with
      | zero => rfl
      | succ n => simp at h4
    | succ m => simp at h3
theorem law_walk {l : PySem.W.OpenLaw} {q : Program} {loose : List Str} {XP : (Str → Option Value) → Heap → Prop} {YP : World → Heap → Prop} {d : DefRec} {K : Params → PySem.W.Frag} {k : Nat} {x : Str} (hn : l.most = some 63) (hdf : d.params.defaults = []) (hr : L2.Room k PySem.callerA)
    (hY : ∀ (w : World) (h : Heap), YP w h → (K w.params).In h)
    (F : ∀ (w : World) (mg : Str → Option Value) (fa : Addr) (h : Heap), (K w.params).In h → h.Ns mainGlobals mg → mg d.name = some (.ref fa) →
      ∃ fd : FuncData, (∀ (s : Shared) (u : Value), BindsTo s fd ⟨[u], []⟩ [(x, u)]) ∧ ∀ base : Heap, (K w.params).In base → base.Ns mainGlobals mg → L2.FnOk l.prog w (K w.params) mg base L2.CX0 k fa fd [x] (SpLaw (K w.params))) :
    PySem.W.WalkO q loose XP YP l.row.toRowW d [] (fun f vs => PySem.call f vs) :=
  L2.walk_of (n := 63) (k := k) (x := x) (CX := fun _ => L2.CX0) (sp := fun w => SpLaw (K w.params)) hn (by decide) hdf hr hY F (fun _ H a ns hl hO hS => ⟨a, ns, rfl, hS, hl, hO, fun _ => rfl⟩) fun _ _ _ _ _ z => z
end Ws
open PySem PySem.Spec PyProof.Rows
namespace Ws
section
variable {X : L2.Cx} {cm : Nat → Addr}
theorem RVs.dropLast {ρ : List Addr} {H : L2.Hp} {l : List PV} {vs : List L2.V} (r : RVs ρ H l vs) : RVs ρ H l.dropLast vs.dropLast := by
  rw [List.dropLast_eq_take, List.dropLast_eq_take, r.length]
  exact r.take _
end
end Ws
namespace Ws
open PySem
section
variable {X : L2.Cx} {cm : Nat → Addr}
end
end Ws
namespace Ws
open PySem
section
variable {ρ : List Addr} {H : L2.Hp} {K : PySem.W.Frag} {A : PHp} {n : Nat} {v : L2.V}
theorem Pairs.cons_inv {κ κ' : Type} {f : κ → κ'} {p : κ × PV} {r : List (κ × PV)} {kv : List (κ' × L2.V)} (h : Pairs f ρ H (p :: r) kv) : ∃ u kv', kv = (f p.1, u) :: kv' ∧ RV ρ H p.2 u ∧ Pairs f ρ H r kv' := by
  obtain ⟨k, v⟩ := h
  cases kv with
  | nil => cases k
  | cons q t =>
    obtain ⟨g, u⟩ := q
    simp only [List.map_cons, List.cons.injEq] at k
    cases v with
    | cons hv hr => exact ⟨u, t, by rw [← k.1], hv, k.2, hr⟩
theorem Pairs.nil_inv {κ κ' : Type} {f : κ → κ'} {kv : List (κ' × L2.V)} (h : Pairs f ρ H [] kv) : kv = [] := by
  obtain ⟨k, v⟩ := h
  cases kv with
  | nil => rfl
  | cons q t => cases k
theorem Pairs.cons' {κ κ' : Type} {f : κ → κ'} {p : κ × PV} {u : L2.V} {r : List (κ × PV)} {kv : List (κ' × L2.V)} (h : RV ρ H p.2 u) (t : Pairs f ρ H r kv) : Pairs f ρ H (p :: r) ((f p.1, u) :: kv) :=
  ⟨by rw [List.map_cons, List.map_cons, t.keys], .cons h t.vals⟩
noncomputable abbrev PI (ρ : List Addr) (H : L2.Hp) (m : List (Int × PV)) (kv : List (L2.Key × L2.V)) : Prop := Pairs (Sum.inl : Int → L2.Key) ρ H m kv
theorem PI.len {m : List (Int × PV)} {kv : List (L2.Key × L2.V)} (h : PI ρ H m kv) : m.length = kv.length := by
  have := congrArg List.length h.keys
  simpa using this.symm
theorem PI.val : ∀ {m : List (Int × PV)} {kv : List (L2.Key × L2.V)} (i : Int), PI ρ H m kv → (valI m i = none ∧ L2.valV kv (.inl i) = none) ∨ ∃ x u, valI m i = some x ∧ L2.valV kv (.inl i) = some u ∧ RV ρ H x u
  | [], kv, i, h => by obtain rfl := h.nil_inv; exact .inl ⟨rfl, rfl⟩
  | p :: r, kv, i, h => by
    obtain ⟨u, kv', rfl, hu, t⟩ := h.cons_inv
    unfold valI
    by_cases e : p.1 = i
    · rw [if_pos e, L2.valV_pos (by rw [e])]
      exact .inr ⟨_, _, rfl, rfl, hu⟩
    · rw [if_neg e, L2.valV_neg (fun z => e (Sum.inl.inj z))]
      exact PI.val i t
theorem PI.some_eq {m : List (Int × PV)} {kv : List (L2.Key × L2.V)} (i : Int) (h : PI ρ H m kv) : (L2.valV kv (.inl i)).isSome = (valI m i).isSome := by
  rcases PI.val i h with ⟨a, b⟩ | ⟨x, u, a, b, _⟩ <;> rw [a, b] <;> rfl
theorem any_val (i : Int) : ∀ m : List (Int × PV), (m.any fun p => decide (p.1 = i)) = (valI m i).isSome
  | [] => rfl
  | p :: r => by
    unfold valI
    rw [List.any_cons]
    by_cases e : p.1 = i
    · rw [if_pos e, decide_eq_true e]; rfl
    · rw [if_neg e, decide_eq_false e, Bool.false_or]; exact any_val i r
theorem PI.repl {x : PV} {u : L2.V} (ru : RV ρ H x u) (i : Int) : ∀ {m : List (Int × PV)} {kv : List (L2.Key × L2.V)}, PI ρ H m kv → PI ρ H (m.map fun p => if p.1 = i then (p.1, x) else p) (kv.map fun p => if p.1 = (.inl i) then (p.1, u) else p)
  | [], kv, h => by obtain rfl := h.nil_inv; exact ⟨rfl, .nil⟩
  | p :: r, kv, h => by
    obtain ⟨w, kv', rfl, hw, t⟩ := h.cons_inv
    have ih := PI.repl ru i t
    rw [List.map_cons, List.map_cons]
    by_cases e : p.1 = i
    · rw [if_pos e, if_pos (by rw [e])]; exact Pairs.cons' (p := (p.1, x)) ru ih
    · rw [if_neg e, if_neg (fun z => e (Sum.inl.inj z))]; exact Pairs.cons' hw ih
theorem PI.snoc {x : PV} {u : L2.V} (ru : RV ρ H x u) (i : Int) : ∀ {m : List (Int × PV)} {kv : List (L2.Key × L2.V)}, PI ρ H m kv → PI ρ H (m ++ [(i, x)]) (kv ++ [(.inl i, u)])
  | [], kv, h => by obtain rfl := h.nil_inv; exact Pairs.cons' (p := (i, x)) ru ⟨rfl, .nil⟩
  | p :: r, kv, h => by
    obtain ⟨w, kv', rfl, hw, t⟩ := h.cons_inv
    exact Pairs.cons' hw (PI.snoc ru i t)
theorem PI.put {x : PV} {u : L2.V} (ru : RV ρ H x u) (i : Int) {m : List (Int × PV)} {kv : List (L2.Key × L2.V)} (h : PI ρ H m kv) : PI ρ H (putI m i x) (L2.putK kv (.inl i) u) := by
  unfold putI L2.putK
  have e : (kv.any fun p => decide (p.1 = (.inl i))) = (m.any fun p => decide (p.1 = i)) := by
    rw [any_val, L2.valV_any]; exact h.some_eq i
  rw [e]
  by_cases a : (m.any fun p => decide (p.1 = i)) = true
  · rw [if_pos a, if_pos a]; exact h.repl ru i
  · rw [if_neg a, if_neg a]; exact h.snoc ru i
theorem dct_read {cm : Nat → Addr} {m : List (Int × PV)} {A' : PHp} (rl : Rel K cm ρ A H) (r : RV ρ H (.ref n) v) (h : dctAt n A = .ok m A') : A' = A ∧ A[n]? = some (.dI m) ∧ ∃ a kv, v = .ref a ∧ ρ[n]? = some a ∧ H a = some (.dK kv) ∧ PI ρ H m kv := by
  cases r with
  | ref hn =>
    unfold dctAt at h
    rcases hA : A[n]? with _ | o
    · rw [hA] at h; cases h
    · have q := rl.obj n o _ hA hn
      cases o with
      | dI m => rw [hA] at h; cases h; obtain ⟨xs, h1, h2⟩ := q; exact ⟨rfl, rfl, _, xs, rfl, hn, h1, h2⟩
      | _ => rw [hA] at h; cases h
end
section
variable {X : L2.Cx} {cm : Nat → Addr}
theorem int_inv {ρ : List Addr} {H : L2.Hp} {i : Int} {v : L2.V} (r : RV ρ H (.int i) v) : v = L2.kV (.inl i) := by cases r; rfl
theorem ev_din {y d : ED} {σ : L2.St} {H : L2.Hp} {Q : L2.VK} (h : EvE X.K cm (eDIn y d) σ H Q) : L2.tDIn (EvE X.K cm y) (EvE X.K cm d) σ H Q :=
  by
    obtain ⟨ρ, A, σp, v, A', rl, rs, ev, k⟩ := h
    obtain ⟨kx, A1, e1, ev1⟩ := bnd_inv ev
    obtain ⟨x, A2, e2, ev2⟩ := bnd_inv ev1
    refine ⟨ρ, A, σp, kx, A1, rl, rs, e1, fun ρ1 H1 v1 x1 rl1 rv1 => ⟨ρ1, A1, σp, x, A2, rl1, rs.mono x1, e2, fun ρ2 H2 v2 x2 rl2 rv2 => ?_⟩⟩
    cases kx with
    | int j =>
      cases x with
      | ref n =>
        obtain ⟨m, A3, e3, ev3⟩ := bnd_inv ev2
        obtain ⟨rfl, hA, a, kv, rfl, hn, hH, hp⟩ := dct_read rl2 rv2 e3
        cases ev3
        rw [int_inv rv1]
        refine ⟨a, _, rfl, L2.DGet.k hH, ?_⟩
        rw [hp.some_eq j]
        exact k ρ2 H2 _ (x1.trans x2) rl2 (.bl _)
      | _ => cases ev2
    | _ => cases ev2
theorem r_din {i o : Expr} {y d : ED} {pos : Pos} (hu : X.A.units + 1 < cLine) (hi : L2.PE X i (EvE X.K cm y)) (ho : L2.PE X o (EvE X.K cm d)) (h1 : behindInMarks .In o = false := by rfl) : L2.PE X (.Compare i [.In] [o] pos) (EvE X.K cm (eDIn y d)) :=
  PE_imp (L2.pe_cmp (L2.pc_din hu hi ho) h1) fun σ H Q h => ev_din h
theorem ev_dnotin {y d : ED} {σ : L2.St} {H : L2.Hp} {Q : L2.VK} (h : EvE X.K cm (eDNotIn y d) σ H Q) : L2.tDNotIn (EvE X.K cm y) (EvE X.K cm d) σ H Q :=
  by
    obtain ⟨ρ, A, σp, v, A', rl, rs, ev, k⟩ := h
    obtain ⟨kx, A1, e1, ev1⟩ := bnd_inv ev
    obtain ⟨x, A2, e2, ev2⟩ := bnd_inv ev1
    refine ⟨ρ, A, σp, kx, A1, rl, rs, e1, fun ρ1 H1 v1 x1 rl1 rv1 => ⟨ρ1, A1, σp, x, A2, rl1, rs.mono x1, e2, fun ρ2 H2 v2 x2 rl2 rv2 => ?_⟩⟩
    cases kx with
    | int j =>
      cases x with
      | ref n =>
        obtain ⟨m, A3, e3, ev3⟩ := bnd_inv ev2
        obtain ⟨rfl, hA, a, kv, rfl, hn, hH, hp⟩ := dct_read rl2 rv2 e3
        cases ev3
        rw [int_inv rv1]
        refine ⟨a, _, rfl, L2.DGet.k hH, ?_⟩
        rw [hp.some_eq j]
        exact k ρ2 H2 _ (x1.trans x2) rl2 (.bl _)
      | _ => cases ev2
    | _ => cases ev2
theorem r_tdnotin {i o : Expr} {y d : ED} {pos : Pos} (hu : X.A.units + 1 < cLine) (hi : L2.PE X i (EvE X.K cm y)) (ho : L2.PE X o (EvE X.K cm d)) (h1 : behindInMarks .NotIn o = false := by rfl) : L2.PT X (.Compare i [.NotIn] [o] pos) (EvT X.K cm (tVal (eDNotIn y d))) :=
  PT_imp (L2.pt_cmp (L2.pc_dnotin hu hi ho) h1) fun σ H Q h => ev_tval (fun _ _ _ => ev_dnotin (X := X)) h
theorem s_dput {o i value : Expr} {d y e : ED} {pos pos' : Pos} (hu : X.A.units + 1 < cLine) (ho : L2.PE X o (EvE X.K cm d)) (hi : L2.PE X i (EvE X.K cm y)) (hv : L2.PE X value (EvE X.K cm e)) (hs : swapsWith value (some (.Subscript o i pos')) pos.line X.env = pure false := by rfl) :
    L2.PS X (.Assign [.Subscript o i pos'] value pos) (EvS X.K cm (sDPut d y e)) :=
  PS_imp (L2.ps_dput hu ho hi hv hs) fun D σ H ⟨ρ, A, σp, f, A', rl, rs, ev, k⟩ => by
    obtain ⟨w, A1, e1, ev1⟩ := bnd_inv ev
    obtain ⟨x, A2, e2, ev2⟩ := bnd_inv ev1
    obtain ⟨kx, A3, e3, ev3⟩ := bnd_inv ev2
    refine ⟨ρ, A, σp, w, A1, rl, rs, e1, fun ρ1 H1 v1 x1 rl1 rv1 => ⟨ρ1, A1, σp, x, A2, rl1, rs.mono x1, e2, fun ρ2 H2 v2 x2 rl2 rv2 => ⟨ρ2, A2, σp, kx, A3, rl2, (rs.mono x1).mono x2, e3, fun ρ3 H3 v3 x3 rl3 rv3 => ?_⟩⟩⟩
    cases x with
    | ref n =>
      cases kx with
      | int j =>
        obtain ⟨m, A4, e4, ev4⟩ := bnd_inv ev3
        obtain ⟨rfl, hA, a, kv, rfl, hn, hH, hp⟩ := dct_read rl3 (rv2.mono x3) e4
        obtain ⟨c, ev5⟩ := guard_inv ev4
        cases ev5
        rw [int_inv rv3]
        refine ⟨a, _, rfl, L2.DPut.k hH (by rw [← hp.len]; exact LIM_lt c), ?_⟩
        have ex : Ext ρ3 H3 ρ3 (L2.upd H3 a (.dK (L2.putK kv (.inl j) v1))) := Ext.put rl3 hn hA rfl
        have rl4 : Rel X.K cm ρ3 (A4.set n (.dI (putI m j w))) (L2.upd H3 a (.dK (L2.putK kv (.inl j) v1))) :=
          rl3.put hn hA rfl rfl ⟨_, L2.upd_same, PI.put ((((rv1.mono x2).mono x3)).mono ex) j (hp.mono ex)⟩
        exact k ρ3 _ (((x1.trans x2).trans x3).trans ex) rl4 σ ((((rs.mono x1).mono x2).mono x3).mono ex)
      | _ => cases ev3
    | _ => cases ev3
theorem r_dget {o i : Expr} {d y : ED} {pos : Pos} (hu : X.A.units + 1 < cLine) (ho : L2.PE X o (EvE X.K cm d)) (hi : L2.PE X i (EvE X.K cm y)) (hs : L2.NoSl i) : L2.PE X (.Subscript o i pos) (EvE X.K cm (eDGet d y)) :=
  PE_imp (L2.pe_dget hu ho hi hs) fun σ H Q ⟨ρ, A, σp, v, A', rl, rs, ev, k⟩ => by
    obtain ⟨x, A1, e1, ev1⟩ := bnd_inv ev
    obtain ⟨kx, A2, e2, ev2⟩ := bnd_inv ev1
    refine ⟨ρ, A, σp, x, A1, rl, rs, e1, fun ρ1 H1 v1 x1 rl1 rv1 => ⟨ρ1, A1, σp, kx, A2, rl1, rs.mono x1, e2, fun ρ2 H2 v2 x2 rl2 rv2 => ?_⟩⟩
    cases x with
    | ref n =>
      cases kx with
      | int j =>
        obtain ⟨m, A3, e3, ev3⟩ := bnd_inv ev2
        obtain ⟨rfl, hA, a, kv, rfl, hn, hH, hp⟩ := dct_read rl2 (rv1.mono x2) e3
        rcases hp.val j with ⟨h1, h2⟩ | ⟨z, u, h1, h2, ru⟩
        · rw [h1] at ev3; cases ev3
        · rw [h1] at ev3
          cases ev3
          rw [int_inv rv2]
          exact ⟨a, u, rfl, by rw [← h2]; exact L2.DGet.k hH, k ρ2 H2 _ (x1.trans x2) rl2 ru⟩
      | _ => cases ev2
    | _ => cases ev2
end
end Ws
namespace Ws
open PySem
section
variable {X : L2.Cx} {cm : Nat → Addr}
theorem r_dnew {pos : Pos} : L2.PE X (.Dict [] [] pos) (EvE X.K cm eDNew) :=
  PE_imp L2.pe_dnewK fun σ H Q ⟨ρ, A, σp, v, A', rl, rs, ev, k⟩ p hp => by
    cases ev
    have ex : Ext ρ H (ρ ++ [p]) (L2.upd H p (.dK [])) := Ext.new hp
    exact k (ρ ++ [p]) _ _ ex (rl.alloc hp ⟨_, L2.upd_same, ⟨rfl, .nil⟩⟩ rfl) (.ref (by rw [← rl.len]; simp))
end
end Ws
namespace Ws
open PySem PySem.W PyProof.Rows
section
variable {X : L2.Cx} {cm : Nat → Addr}
theorem vals_of_at : ∀ {ns : List Int} {us : List Value}, us.length = ns.length → (∀ (j : Nat) (u : Value), us[j]? = some u → ∃ i t, ns[j]? = some i ∧ u = Value.int i t) → L2.Vals (ns.map L2.V.int) us
  | [], [], _, _ => .nil
  | i :: ns, u :: us, hl, h => by
    obtain ⟨j, t, e1, e2⟩ := h 0 u rfl
    cases e1
    exact .cons ⟨t, e2⟩ (vals_of_at (by simpa using hl) fun j v hv => h (j + 1) v hv)
  | [], _ :: _, hl, _ => by cases hl
  | _ :: _, [], hl, _ => by cases hl
end
end Ws
namespace Ws
open PySem PySem.W PyProof.Rows
end Ws
namespace Ws
open PySem PySem.W PyProof.Rows
section
variable {X : L2.Cx} {cm : Nat → Addr}
theorem arg_one {M : Model} {A : Around} {E : Value → Shared → Prop} {s : Shared} {e : Expr} {env : Env} {pos : Pos} {Q : List Value → Shared → Prop} (hs : starEach [e] env = (false, eval e env) :: starEach [] env) (h : wpAny M A (eval e env) (fun u s1 => Q [u] s1) E s) : wpAny M A (spliced (backTo pos (starEach [e] env))) Q E s := by
  rw [hs]
  exact Calls.spliced_cons (L2.thn h fun u s1 q => Calls.spliced_nil q)
end
end Ws
namespace Ws
open PySem PySem.W PyProof.Rows
section
variable {X : L2.Cx} {cm : Nat → Addr}
end
structure FunD (K : PySem.W.Frag) (x qual : Str) (st : Stmt) (f : Addr) (fd : FuncData) (items : Array Value) : Prop where
  ex : ∃ (T : Addr) (oc : Value) (od : Option Addr) (kV doc pm : Value) (an : Option Addr) (cdv ct : Value) (osl : Array (Option Value)) (tc : Value) (td : Option Addr) (tn : Nat) (ts : Array (Option Value)),
    fd = PySem.W.fnOf x qual (L2.defArgs st) (L2.defBody st) (L2.defScope st) (.ref T) kV doc pm an cdv ct ∧ K.lookup f = some ⟨oc, od, .func fd, osl⟩ ∧ PySem.W.codeIn K cdv qual = true ∧ K.lookup T = some ⟨tc, td, .seq items tn, ts⟩
  kp : PySem.W.keepIn K (.ref f) = true
section
variable {P : Program} {w : World} {K : PySem.W.Frag} {mg : Str → Option Value} {base : Heap} {cm : Nat → Addr}
theorem FunD.binds {x qual : Str} {st : Stmt} {f : Addr} {fd : FuncData} {items : Array Value} {ps : List Str} {ds : List Value} (F : FunD K x qual st f fd items) (n : Nat) (hn : n + ds.length = ps.length)
    (h : ∀ (T : Addr) (kV doc pm : Value) (an : Option Addr) (cdv ct : Value) (us : List Value), us.length = n → ∃ k, bindArgs (PySem.W.fnOf x qual (L2.defArgs st) (L2.defBody st) (L2.defScope st) (.ref T) kV doc pm an cdv ct) ⟨us, []⟩ = (seqItems? (.ref T) >>= k) ∧ k (some items) = pure (ps.zip (us ++ ds))) : L2.Binds K fd ps ds := by
  obtain ⟨T, oc, od, kV, doc, pm, an, cdv, ct, osl, tc, td, tn, ts, rfl, lk, hcd, lt⟩ := F.ex
  intro s us X hl
  obtain ⟨k, h1, h2⟩ := h T kV doc pm an cdv ct us (by rw [List.length_append] at hl; omega)
  exact binds_K X rfl lt rfl h1 h2
end
end Ws
namespace Ws
open PySem PySem.W PyProof.Rows
section
variable {X : L2.Cx} {cm : Nat → Addr}
theorem bls_get : ∀ {bs : List Bool} {us : List Value}, L2.Vals (bs.map L2.V.bl) us → ∀ (i : Nat) (v : Value), us[i]? = some v → ∃ b, bs[i]? = some b ∧ v = .bool b
  | [], _, .nil, i, v, h => by simp at h
  | b :: bs, _, .cons r t, 0, v, h => by
    cases r
    simp at h; subst h
    exact ⟨b, rfl, rfl⟩
  | b :: bs, _, .cons r t, i + 1, v, h => bls_get t i v (by simpa using h)
theorem all_range (bs : List Bool) : ((List.range bs.length).all fun i => (bs[i]?).getD true) = bs.all id := by
  induction bs with
  | nil => rfl
  | cons b r ih =>
    rw [List.length_cons, List.range_succ_eq_map, List.all_cons, List.all_map, List.all_cons, ← ih]
    rfl
noncomputable def rAll (K : PySem.W.Frag) : List L2.V → L2.Hp → L2.VK → Prop := fun vs H Q => ∃ (a : Addr) (bs : List Bool), vs = [.ref a] ∧ L2.SqL K H a (bs.map L2.V.bl) ∧ Q (.bl (bs.all id)) H
theorem call_allB (hcalm : X.calm = true) : L2.CallR X (.builtin "all") (rAll X.K) := by
  intro pins s σ H xs us Q I r h
  obtain ⟨a, bs, rfl, hq, q⟩ := h
  obtain ⟨u, rfl, rx⟩ := L2.vals1 r
  cases rx
  obtain ⟨its, ri, pl, hz⟩ := I.list hq
  have hil := pl.isList
  have hal : a < s.heap.objs.size := by
    obtain ⟨_, e, _⟩ := hil
    exact Heap.lt_size e
  have hlen : its.length = bs.length := by
    have := ri.length
    simpa using this.symm
  refine call_all_walk (wpAny_pyIter_list hil ⟨s.heap.objs.size, [s.heap.objs.size, a], [s.heap.objs.size], its.toArray.size, _, _, fun i => (bs[i]?).getD true, rfl,
    Walks.list (A := X.A.in1) (I.ok.hd hcalm) _ a (Nat.ne_of_lt hal) its.toArray, ⟨⟨_, Heap.get?_push_size _ rfl, rfl, rfl⟩, hil.push _⟩, ?_, ?_⟩)
  · intro i v s2 Q2 E2 hP hQ2
    obtain ⟨b, e1, rfl⟩ := bls_get ri i v (by simpa using hP)
    have hQ3 : Q2 ((bs[i]?).getD true) s2 := hQ2
    rw [e1] at hQ3
    exact wpAny_truthy_bool hQ3
  · intro h2 tk hk
    have e1 : its.toArray.size = bs.length := by rw [List.size_toArray]; exact hlen
    rw [e1, all_range]
    exact ⟨.bl _, H, I.kept (t' := tk) (fun b o e => hk b o (fun hm => by rw [List.mem_singleton.mp hm] at e; exact absurd (Heap.lt_size e) (Nat.lt_irrefl _)) (Heap.get?_push_of_some _ e)), rfl, q⟩
theorem blsOf_inv : ∀ {l : List PV} {bs : List Bool}, blsOf l = some bs → l = bs.map .bl
  | [], bs, h => by simp [blsOf] at h; subst h; rfl
  | x :: r, bs, h => by
    cases x with
    | bl b =>
      simp only [blsOf, Option.map_eq_some_iff] at h
      obtain ⟨m, h1, rfl⟩ := h
      rw [blsOf_inv h1]; rfl
    | _ => simp [blsOf] at h
theorem rvs_bls : ∀ {ρ : List Addr} {H : L2.Hp} {bs : List Bool} {xs : List L2.V}, RVs ρ H (bs.map PV.bl) xs → xs = bs.map L2.V.bl
  | _, _, [], _, .nil => rfl
  | _, _, b :: bs, _, .cons h t => by cases h; rw [rvs_bls t]; rfl
theorem r_all {e : Expr} {d : ED} {p pos : Pos} (hcalm : X.calm = true) (he : L2.PE X e (EvE X.K cm d)) (hg : L2.Gl X "all") (hm : X.mg "all" = none) (hs : starEach [e] X.env = (false, eval e X.env) :: starEach [] X.env := by rfl) : L2.PE X (.Call (.Name "all" p) [e] [] pos) (EvE X.K cm (eAll d)) :=
  PE_imp (L2.pe_callB (call_allB hcalm) hg hm (by rfl) (r_cons he r_nil hs) (he := hs)) fun σ H Q h => ev_one (f := fun x => match x with | .ref n => bnd (lstAt n) fun l => (match blsOf l with | some bs => ret (.bl (bs.all id)) | none => stuck) | _ => stuck) (fun _ => rfl) (fun ρ A H x z A' v Q rl rx ev k => by
    cases x with
    | ref n =>
      obtain ⟨l, A1, e1, ev1⟩ := bnd_inv ev
      obtain ⟨rfl, a, xs, rfl, hq, hv⟩ := lst_read rl rx e1
      cases hb : blsOf l with
      | none => rw [hb] at ev1; cases ev1
      | some bs =>
        rw [hb] at ev1
        cases ev1
        rw [blsOf_inv hb] at hv
        exact ⟨a, bs, rfl, by rw [← rvs_bls hv]; exact hq, k ρ H _ (Ext.refl _ _) rl (.bl _)⟩
    | _ => cases ev) h
end
end Ws
namespace Ws
open PySem PySem.W PyProof.Rows
noncomputable def upto (val : Nat → Int) (j n : Nat) : List Int := (List.range (n - j)).map fun i => val (j + i)
theorem upto_end (val : Nat → Int) (n : Nat) : upto val n n = [] := by simp [upto]
theorem upto_step (val : Nat → Int) {j n : Nat} (h : j < n) : upto val j n = val j :: upto val (j + 1) n := by
  unfold upto
  rw [show n - j = (n - (j + 1)) + 1 by omega, List.range_succ_eq_map, List.map_cons, List.map_map]
  have e : ((fun i => val (j + i)) ∘ Nat.succ) = fun i => val (j + 1 + i) := by
    funext i
    show val (j + (i + 1)) = val (j + 1 + i)
    congr 1; omega
  rw [e, Nat.add_zero]
section
variable {prog : Program} {w : World} {A : Around} {R : Result → Shared → Prop} {I : Addr} {fp wr : List Addr} {n : Nat} {P : Nat → Value → Prop} {St : Nat → Heap → Prop} {kw : List (Str × Value)}
theorem mx_name : (toString "max" ++ toString ".loop" : String) = "max.loop" := by decide
theorem mx_loop (W : Walks prog w A.in1 I fp wr n P St) (val : Nat → Int) (hv : ∀ i v, P i v → ∃ t, v = .int (val i) t) (S : Addr) (hS : S ∉ fp) :
    ∀ (k j : Nat) (s : Shared) (m : Int) (t : Tok) (c : Nat), n - j = k → j ≤ n → St j s.heap →
    s.heap.get? S = some { cls := .type "list", dict := none, data := .seq #[.int m t, .int m t] c, slots := #[] } →
    (∀ t' h' tk, (∀ b o, b ∉ wr → b ≠ S → s.heap.get? b = some o → h'.get? b = some o) → R (.ok (.ret (.int (maxI m (upto val j n)) t'))) { s with heap := h', toks := tk }) →
    codeAny (model prog w) A (.builtin "max.loop" ⟨[.ref I, .none, .ref S], kw⟩) R s := by
  have hw : S ∉ wr := fun z => hS (W.sub _ z)
  intro k
  induction k with
  | zero =>
    intro j s m t c hk hj st gS done
    obtain rfl : j = n := by omega
    refine (codeAny_builtin F.entry_max_loop ?_)
    rw [Around.under_plainId F.plain_max_loop _]
    refine (wpAny_bind (m := seqItems? (.ref S)) (wpAny_seqItems gS rfl ?_))
    refine (wpAny_bind (wpAny_tryCatch (W.done s _ _ st fun h1 tk1 k1 => ?_)))
    have g1 := k1 S _ hw gS
    refine (wpAny_bind (m := updateSeq S (fun _ => #[])) (wpAny_updateSeq g1 rfl (wpAny_bind (wpAny_letGo (wpAny_pure ?_)))))
    have d := done t (h1.update S (Obj.mapSeq fun _ => #[])) tk1 fun b o hb hbS e => (Heap.get?_update_other _ _ (fun z => hbS z.symm)).trans (k1 b o hb e)
    rw [upto_end] at d
    exact d
  | succ k ih =>
    intro j s m t c hk hj st gS done
    have hlt : j < n := by omega
    refine (codeAny_builtin F.entry_max_loop ?_)
    rw [Around.under_plainId F.plain_max_loop _]
    refine (wpAny_bind (m := seqItems? (.ref S)) (wpAny_seqItems gS rfl ?_))
    refine (wpAny_bind (wpAny_tryCatch (W.item j s _ _ hlt st fun v h1 tk1 hP st1 k1 => ?_)))
    have g1 := k1 S _ hw gS
    obtain ⟨t1, rfl⟩ := hv j v hP
    refine (wpAny_bind (m := (tryCatch (holding [.int (val j) t1, .int (val j) t1] (richCompare .Gt (.int (val j) t1) (.int m t) >>= _)) _)) (wpAny_tryCatch (wpAny_holding (wpAny_bind ?_))))
    refine CmpOf.ints_gt (P := fun i v => i = 0 ∧ v = .int (val j) t1 ∨ i = 1 ∧ v = .int m t) (fun i => if i = 0 then val j else m) (fun i v h => ?_) 0 1 _ _ _ _ _ (.inl ⟨rfl, rfl⟩) (.inr ⟨rfl, rfl⟩) ?_
    · rcases h with ⟨rfl, rfl⟩ | ⟨rfl, rfl⟩
      · exact ⟨_, rfl⟩
      · exact ⟨_, rfl⟩
    · refine (wpAny_bind (wpAny_holding (wpAny_truthy_bool ?_)))
      refine (wpAny_bind (wpAny_letGo (wpAny_pure ?_)))
      have hnx : maxI m (upto val j n) = maxI (if m < val j then val j else m) (upto val (j + 1) n) := by rw [upto_step val hlt]; rfl
      show wpAny _ A.in1 (if decide (val j > m) = true then _ else _) _ _ _
      by_cases hb' : m < val j
      · rw [if_pos hb'] at hnx
        rw [if_pos (by simpa using hb')]
        apply wpAny_bind
        refine (wpAny_updateSeq g1 rfl (wpAny_bind (wpAny_letGo ?_)))
        rw [mx_name]
        refine (wpAny_pure ⟨plainId_quiet F.plain_max_loop _, ih (j + 1) _ (val j) t1 _ (by omega) hlt (W.frame _ _ _ st1 fun b hbf o e => ?_) (Heap.get?_update_self _ g1 rfl) fun t' h2 tk2 k2 => ?_⟩)
        · exact (Heap.get?_update_other _ _ (fun z : S = b => hS (by rw [z]; exact hbf))).trans e
        · have d := done t' h2 tk2 fun b o hbw hbS e => k2 b o hbw hbS ((Heap.get?_update_other _ _ (fun z => hbS z.symm)).trans (k1 b o hbw e))
          rw [hnx] at d
          exact d
      · rw [if_neg hb'] at hnx
        rw [if_neg (by simpa using hb')]
        apply wpAny_bind
        refine (wpAny_letGo ?_)
        rw [mx_name]
        refine (wpAny_pure ⟨plainId_quiet F.plain_max_loop _, ih (j + 1) _ m t c (by omega) hlt st1 g1 fun t' h2 tk2 k2 => ?_⟩)
        have d := done t' h2 tk2 fun b o hbw hbS e => k2 b o hbw hbS (k1 b o hbw e)
        rw [hnx] at d
        exact d
theorem mx_some {kw : List (Str × Value)} (W : Walks prog w A.in1 I fp wr n P St) (val : Nat → Int) (hv : ∀ i v, P i v → ∃ t, v = .int (val i) t) (S : Addr) (hS : S ∉ fp) {s : Shared} {c : Nat} (st : St 0 s.heap)
    (gS : s.heap.get? S = some { cls := .type "list", dict := none, data := .seq #[] c, slots := #[] }) (hn : 0 < n)
    (d1 : ∀ t' h' tk, (∀ b o, b ∉ wr → b ≠ S → s.heap.get? b = some o → h'.get? b = some o) → R (.ok (.ret (.int (maxI (val 0) (upto val 1 n)) t'))) { s with heap := h', toks := tk }) :
    codeAny (model prog w) A (.builtin "max.loop" ⟨[.ref I, .none, .ref S], kw⟩) R s := by
  have hw : S ∉ wr := fun z => hS (W.sub _ z)
  refine (codeAny_builtin F.entry_max_loop ?_)
  rw [Around.under_plainId F.plain_max_loop _]
  refine (wpAny_bind (m := seqItems? (.ref S)) (wpAny_seqItems gS rfl ?_))
  refine (wpAny_bind (wpAny_tryCatch (W.item 0 s _ _ (by omega) st fun v h1 tk1 hP st1 k1 => ?_)))
  have g1 := k1 S _ hw gS
  obtain ⟨t1, rfl⟩ := hv 0 v hP
  show wpAny _ A.in1 (updateSeq S (fun _ => #[.int (val 0) t1, .int (val 0) t1]) >>= _) _ _ _
  apply wpAny_bind
  refine (wpAny_updateSeq g1 rfl ?_)
  rw [mx_name]
  refine (wpAny_pure ⟨plainId_quiet F.plain_max_loop _, mx_loop W val hv S hS _ 1 _ (val 0) t1 _ rfl (by omega) (W.frame _ _ _ st1 fun b hbf o e => ?_) (Heap.get?_update_self _ g1 rfl) fun t' h2 tk2 k2 => ?_⟩)
  · exact (Heap.get?_update_other _ _ (fun z : S = b => hS (by rw [z]; exact hbf))).trans e
  · exact d1 t' h2 tk2 fun b o hbw hbS e => k2 b o hbw hbS ((Heap.get?_update_other _ _ (fun z => hbS z.symm)).trans (k1 b o hbw e))
theorem mx_first (W : Walks prog w A.in1 I fp wr n P St) (val : Nat → Int) (hv : ∀ i v, P i v → ∃ t, v = .int (val i) t) (S : Addr) (hS : S ∉ fp) {s : Shared} {c : Nat} {d : Value} (st : St 0 s.heap)
    (gS : s.heap.get? S = some { cls := .type "list", dict := none, data := .seq #[] c, slots := #[] })
    (d0 : n = 0 → ∀ h' tk, (∀ b o, b ∉ wr → b ≠ S → s.heap.get? b = some o → h'.get? b = some o) → R (.ok (.ret d)) { s with heap := h', toks := tk })
    (d1 : 0 < n → ∀ t' h' tk, (∀ b o, b ∉ wr → b ≠ S → s.heap.get? b = some o → h'.get? b = some o) → R (.ok (.ret (.int (maxI (val 0) (upto val 1 n)) t'))) { s with heap := h', toks := tk }) :
    codeAny (model prog w) A (.builtin "max.loop" ⟨[.ref I, .none, .ref S], [("default", d)]⟩) R s := by
  have hw : S ∉ wr := fun z => hS (W.sub _ z)
  refine (codeAny_builtin F.entry_max_loop ?_)
  rw [Around.under_plainId F.plain_max_loop _]
  refine (wpAny_bind (m := seqItems? (.ref S)) (wpAny_seqItems gS rfl ?_))
  by_cases hn : n = 0
  · subst hn
    refine (wpAny_bind (wpAny_tryCatch (W.done s _ _ st fun h1 tk1 k1 => ?_)))
    refine (wpAny_bind (wpAny_rule (wpAny_pure ?_)))
    exact d0 rfl h1 tk1 fun b o hb _ e => k1 b o hb e
  · refine (wpAny_bind (wpAny_tryCatch (W.item 0 s _ _ (by omega) st fun v h1 tk1 hP st1 k1 => ?_)))
    have g1 := k1 S _ hw gS
    obtain ⟨t1, rfl⟩ := hv 0 v hP
    show wpAny _ A.in1 (updateSeq S (fun _ => #[.int (val 0) t1, .int (val 0) t1]) >>= _) _ _ _
    apply wpAny_bind
    refine (wpAny_updateSeq g1 rfl ?_)
    rw [mx_name]
    refine (wpAny_pure ⟨plainId_quiet F.plain_max_loop _, mx_loop W val hv S hS _ 1 _ (val 0) t1 _ rfl (by omega) (W.frame _ _ _ st1 fun b hbf o e => ?_) (Heap.get?_update_self _ g1 rfl) fun t' h2 tk2 k2 => ?_⟩)
    · exact (Heap.get?_update_other _ _ (fun z : S = b => hS (by rw [z]; exact hbf))).trans e
    · exact d1 (by omega) t' h2 tk2 fun b o hbw hbS e => k2 b o hbw hbS ((Heap.get?_update_other _ _ (fun z => hbS z.symm)).trans (k1 b o hbw e))
end
section
variable {prog : Program} {w : World} {A : Around} {E : Value → Shared → Prop} {s : Shared} {Q : Value → Shared → Prop}
theorem args_mxD (a d : Value) : argsOk "max" ⟨[a], [("default", d)]⟩ := by unfold argsOk; kernel_rfl
theorem fn_tree_kw {id : String} {b : Builtin} {args : List Value} {kw : List (Str × Value)} (hk : builtinKind id = none) (hp : plainId id = true) (hb : entryFor table id = some b) (ha : argsOk id ⟨args, kw⟩)
    (hc : wpAny (model prog w) A.in1 (b ⟨args, kw⟩) (fun fin s' => match fin with
      | .done f => (match (Except.ok f : Result) with | .ok (.ret v) => Q v s' | .ok _ => False | .error e => E e s')
      | .again c' => c'.quiet = true ∧ codeAny (model prog w) A c' (fun r s' => match r with | .ok (.ret v) => Q v s' | .ok _ => False | .error e => E e s') s') E s) : wpAny (model prog w) A (call (.builtin id) args kw) Q E s := by
  refine (wpAny_call (codeAny_call_builtin hp hb ?_))
  simp only [checkBuiltinCall, hk]
  cases z : Manifest.signature? id with
  | none => exact wpAny_pure hc
  | some sig =>
    simp only [argsOk, z] at ha
    show wpAny _ A.in1 (Bind.checkArgs id sig ⟨args, kw⟩) _ _ s
    rw [show Bind.checkArgs id sig ⟨args, kw⟩ = pure () from ha]; exact wpAny_pure hc
theorem call_mxD {l : Addr} {its : List Value} {ns : List Int} {d : Value} (hh : A.handled = none) (hl : s.heap.IsList l its.toArray) (hi : IntsAre its ns)
    (h0 : ns = [] → ∀ h' tk, (∀ b o, s.heap.get? b = some o → h'.get? b = some o) → Q d { s with heap := h', toks := tk })
    (h1 : ∀ i r, ns = i :: r → ∀ t h' tk, (∀ b o, s.heap.get? b = some o → h'.get? b = some o) → Q (.int (maxI i r) t) { s with heap := h', toks := tk }) :
    wpAny (model prog w) A (call (.builtin "max") [.ref l] [("default", d)]) Q E s := by
  have hlt : l < s.heap.objs.size := by
    obtain ⟨_, e, _⟩ := hl
    exact Heap.lt_size e
  have hlen : its.toArray.size = ns.length := by rw [List.size_toArray]; exact hi.length
  refine fn_tree_kw F.kind_max F.plain_max F.entry_max (args_mxD _ _) ?_
  show wpAny _ A.in1 (Builtin.Builtins.bindParams "max" ["key", "default"] 0 ⟨[], [("default", d)]⟩ >>= _) _ _ s
  refine (wpAny_bind (wpAny_of_eq (show Builtin.Builtins.bindParams "max" ["key", "default"] 0 ⟨[], [("default", d)]⟩ = pure [none, some d] from rfl) ?_))
  refine (wpAny_bind (wpAny_pure ?_))
  refine (wpAny_bind (wpAny_pyIter_list hl ?_))
  refine (wpAny_bind (wpAny_newObj_type ?_))
  rw [mx_name]
  have W := Walks.list (prog := prog) (w := w) (A := A.in1) hh s.heap.objs.size l (Nat.ne_of_lt hlt) its.toArray
  have hget : ∀ i v, its.toArray[i]? = some v → ∃ t, v = Value.int (ns.getD i 0) t := by
    intro i v hv
    rw [List.getElem?_toArray] at hv
    have hil : i < ns.length := by
      have := (List.getElem?_eq_some_iff.mp hv).1
      rwa [hi.length] at this
    obtain ⟨t, e1⟩ := hi.get i ns[i] (List.getElem?_eq_getElem hil)
    rw [e1] at hv
    exact ⟨t, by rw [← Option.some.inj hv]; simp [hil]⟩
  have hsz : (s.heap.push { cls := .type "list_iterator", data := .fields #[.ref l, .int 0 0] }).objs.size = s.heap.objs.size + 1 := Heap.size_push ..
  have old : ∀ (h2 : Heap), (∀ b o, b ∉ [s.heap.objs.size] → b ≠ (s.heap.push { cls := .type "list_iterator", data := .fields #[.ref l, .int 0 0] }).objs.size → ((s.heap.push { cls := .type "list_iterator", data := .fields #[.ref l, .int 0 0] }).push { cls := .type "list", data := .seq #[] 0 }).get? b = some o → h2.get? b = some o) → ∀ b o, s.heap.get? b = some o → h2.get? b = some o := by
    intro h2 k2 b o e
    have hb : b < s.heap.objs.size := Heap.lt_size e
    exact k2 b o (fun z => absurd (List.mem_singleton.mp z) (Nat.ne_of_lt hb)) (by rw [hsz]; exact Nat.ne_of_lt (Nat.lt_succ_of_lt hb)) (Heap.get?_push_of_some _ (Heap.get?_push_of_some _ e))
  have hup : ∀ i r, ns = i :: r → maxI (ns.getD 0 0) (upto (fun k => ns.getD k 0) 1 ns.length) = maxI i r := by
    rintro i r rfl
    have : upto (fun k => (i :: r).getD k 0) 1 (i :: r).length = r := by
      unfold upto
      refine List.ext_getElem? fun k => ?_
      rw [List.getElem?_map]
      simp only [List.length_cons, Nat.add_sub_cancel]
      by_cases hk : k < r.length
      · rw [List.getElem?_range hk]
        simp [Nat.add_comm 1 k, hk]
      · simp [hk]
    rw [this]; rfl
  have st0 := W.frame 0 _ ((s.heap.push { cls := .type "list_iterator", data := .fields #[.ref l, .int 0 0] }).push { cls := .type "list", data := .seq #[] 0 }) ⟨⟨_, Heap.get?_push_size _ rfl, rfl, rfl⟩, hl.push _⟩ fun b _ o e => Heap.get?_push_of_some _ e
  refine (wpAny_pure ⟨plainId_quiet F.plain_max_loop _, mx_first (s := { s with heap := (s.heap.push { cls := .type "list_iterator", data := .fields #[.ref l, .int 0 0] }).push { cls := .type "list", data := .seq #[] 0 } }) W (fun k => ns.getD k 0) hget (s.heap.push { cls := .type "list_iterator", data := .fields #[.ref l, .int 0 0] }).objs.size ?_ st0 (Heap.get?_push_size _ rfl) ?_ ?_⟩)
  · rw [hsz]
    intro z
    rcases List.mem_cons.mp z with e | z
    · exact Nat.succ_ne_self _ e
    · have e := List.mem_singleton.mp z
      rw [← e] at hlt
      exact Nat.lt_irrefl _ (Nat.lt_of_succ_lt hlt)
  · intro hn h2 tk k2
    exact h0 (by rw [hlen] at hn; exact List.length_eq_zero_iff.mp hn) h2 tk (old h2 k2)
  · intro hn t h2 tk k2
    obtain ⟨i, r, hns⟩ : ∃ i r, ns = i :: r := by
      cases ns with
      | nil => rw [hlen] at hn; exact absurd hn (by simp)
      | cons i r => exact ⟨i, r, rfl⟩
    rw [hlen, hup i r hns]
    exact h1 i r hns t h2 tk (old h2 k2)
end
section
variable {X : L2.Cx} {cm : Nat → Addr}
noncomputable def tMaxD (K : PySem.W.Frag) (t tk : L2.TA) : L2.TE := fun σ H Q => t σ H fun vs H1 => tk σ H1 fun zs H2 => ∃ (a : Addr) (ns : List Int) (d : L2.V), vs = [.ref a] ∧ zs = [d] ∧ L2.SqL K H2 a (ns.map L2.V.int) ∧ Q (match ns with | [] => d | i :: r => .int (maxI i r)) H2
theorem pe_maxD {e f : Expr} {p kpos pos : Pos} {t tk : L2.TA} (hcalm : X.calm = true) (hg : L2.Gl X "max") (hm : X.mg "max" = none) (ha : L2.PA X [e] t) (hkw : L2.PK X [⟨some "default", f, kpos⟩] tk)
    (he : backTo pos (starEach [e] X.env) = (false, eval e X.env) :: backTo pos (starEach [] X.env) := by rfl)
    (hpl : (backTo pos (starEach [e] X.env)).any (·.1) = false := by rfl) (hall : (backToKw pos (keywordEach [⟨some "default", f, kpos⟩] X.env)).all (·.1.isSome) = true := by rfl)
    (hno : (backToKw pos (keywordEach [⟨some "default", f, kpos⟩] X.env)).any (·.1.isNone) = false := by rfl)
    (hks : (backToKw pos (keywordEach [⟨some "default", f, kpos⟩] X.env)).filterMap (·.1) = [("default" : Str)] := by rfl) :
    L2.PE X (.Call (.Name "max" p) [e] [⟨some "default", f, kpos⟩] pos) (tMaxD X.K t tk) := by
  intro pins s σ H Q I h
  refine (wpAny_Call_Name_kw (L2.ld_blt I hg hm (show bootBuiltins "max" = some (.builtin "max") from by rfl) ?_ (by decide) (by decide)))
  refine (callWith_kw (L2.thn (ha pos pins s σ H _ I h) fun us s1 ⟨vs, H1, I1, r1, q1⟩ => L2.thn (hkw pos pins s1 σ H1 _ I1 q1) fun ws s2 ⟨zs, H2, I2, r2, q2⟩ => ?_) he hpl hall hno)
  rw [hks]
  obtain ⟨a, ns, d, rfl, rfl, hq, q⟩ := q2
  obtain ⟨u, rfl, rx⟩ := L2.vals1 r1
  obtain ⟨z, rfl, rz⟩ := L2.vals1 r2
  cases rx
  obtain ⟨its, ri, pl, hz⟩ := I2.list hq
  refine (call_mxD (I2.ok.hd hcalm) pl.isList (L2.intsAre_of ri) (fun e0 h' tk2 k2 => ?_) (fun i r e0 t h' tk2 k2 => ?_))
  · subst e0
    exact ⟨d, H2, I2.kept (t' := tk2) k2, rz, q⟩
  · subst e0
    exact ⟨.int (maxI i r), H2, I2.kept (t' := tk2) k2, ⟨t, rfl⟩, q⟩
theorem rvs_ints : ∀ {ρ : List Addr} {H : L2.Hp} {ns : List Int} {xs : List L2.V}, RVs ρ H (ns.map PV.int) xs → xs = ns.map L2.V.int
  | _, _, [], _, .nil => rfl
  | _, _, i :: ns, _, .cons h t => by cases h; rw [rvs_ints t]; rfl
theorem r_maxD {e f : Expr} {d d' : ED} {p kpos pos : Pos} (hcalm : X.calm = true) (he : L2.PE X e (EvE X.K cm d)) (hf : L2.PE X f (EvE X.K cm d')) (hg : L2.Gl X "max") (hm : X.mg "max" = none) (hs : starEach [e] X.env = (false, eval e X.env) :: starEach [] X.env := by rfl)
    (h1 : backTo pos (starEach [e] X.env) = (false, eval e X.env) :: backTo pos (starEach [] X.env) := by rfl)
    (h2 : (backTo pos (starEach [e] X.env)).any (·.1) = false := by rfl) (h3 : (backToKw pos (keywordEach [⟨some "default", f, kpos⟩] X.env)).all (·.1.isSome) = true := by rfl)
    (h4 : (backToKw pos (keywordEach [⟨some "default", f, kpos⟩] X.env)).any (·.1.isNone) = false := by rfl)
    (h5 : (backToKw pos (keywordEach [⟨some "default", f, kpos⟩] X.env)).filterMap (·.1) = [("default" : Str)] := by rfl) : L2.PE X (.Call (.Name "max" p) [e] [⟨some "default", f, kpos⟩] pos) (EvE X.K cm (eMaxD d d')) :=
  PE_imp (pe_maxD (t := EvA X.K cm (aCons d aNil)) (tk := L2.tCons (EvE X.K cm d') L2.tNil) hcalm hg hm (r_cons he r_nil hs) (L2.pk_cons hf L2.pk_nil) h1 h2 h3 h4 h5) fun σ H Q ⟨ρ, A, σp, v, A', rl, rs, ev, k⟩ => by
    obtain ⟨x, A1, e1, ev1⟩ := bnd_inv ev
    obtain ⟨y, A2, e2, ev2⟩ := bnd_inv ev1
    refine ⟨ρ, A, σp, [x], A1, rl, rs, by show bnd (d σp) _ A = _; rw [bnd_ok e1]; rfl, fun ρ1 H1 vs1 x1 rl1 rv1 => ⟨ρ1, A1, σp, y, A2, rl1, rs.mono x1, e2, fun ρ2 H2 v2 x2 rl2 rv2 => ?_⟩⟩
    cases rv1 with
    | cons hv hr =>
      cases hr
      have hv2 := hv.mono x2
      cases x with
      | ref n =>
        obtain ⟨l, A3, e3, ev3⟩ := bnd_inv ev2
        obtain ⟨rfl, a, xs, rfl, hq, hvs⟩ := lst_read rl2 hv2 e3
        cases hi : intsOf l with
        | none => rw [hi] at ev3; cases ev3
        | some ns =>
          rw [hi] at ev3
          rw [intsOf_inv hi] at hvs
          refine ⟨a, ns, v2, rfl, rfl, by rw [← rvs_ints hvs]; exact hq, ?_⟩
          cases ns with
          | nil => cases ev3; exact k ρ2 H2 v2 (x1.trans x2) rl2 rv2
          | cons i r => cases ev3; exact k ρ2 H2 _ (x1.trans x2) rl2 (.int _)
      | _ => cases ev2
end
end Ws
namespace Ws
open PySem PySem.W PyProof.Rows
section
variable {X : L2.Cx} {cm : Nat → Addr}
theorem len_dk : L2.CallR X (.builtin "len") (fun xs H Q => ∃ (a : Addr) (kvs : List (L2.Key × L2.V)), xs = [.ref a] ∧ H a = some (.dK kvs) ∧ Q (.int kvs.length) H) := by
  intro pins s σ H xs us Q I r h
  obtain ⟨a, kvs, rfl, hH, q⟩ := h
  obtain ⟨u, rfl, rx⟩ := L2.vals1 r
  cases rx
  exact L2.d_len I (.inl hH) fun t s1 I1 => ⟨.int kvs.length, H, I1, ⟨t, rfl⟩, q⟩
theorem r_lenD {e : Expr} {d : ED} {p pos : Pos} (he : L2.PE X e (EvE X.K cm d)) (hg : L2.Gl X "len") (hm : X.mg "len" = none) (hs : starEach [e] X.env = (false, eval e X.env) :: starEach [] X.env := by rfl) : L2.PE X (.Call (.Name "len" p) [e] [] pos) (EvE X.K cm (eLenD d)) :=
  PE_imp (L2.pe_callB len_dk hg hm PySem.boot_len (r_cons he r_nil hs) (he := hs)) fun σ H Q h => ev_one (f := fun x => match x with | .ref n => bnd (dctAt n) fun m => ret (.int m.length) | _ => stuck) (fun _ => rfl) (fun ρ A H x z A' v Q rl rx ev k => by
    cases x with
    | ref n =>
      obtain ⟨m, A1, e1, ev1⟩ := bnd_inv ev
      obtain ⟨rfl, hA, a, kv, rfl, hn, hH, hp⟩ := dct_read rl rx e1
      cases ev1
      exact ⟨a, kv, rfl, hH, k ρ H _ (Ext.refl _ _) rl (by rw [← hp.len]; exact .int _)⟩
    | _ => cases ev) h
noncomputable def rCount : L2.V → List L2.V → L2.Hp → L2.VK → Prop := fun x vs H Q => ∃ (l : Addr) (ns : List Int) (k : Int), x = .ref l ∧ vs = [.int k] ∧ H l = some (.lst (ns.map L2.V.int)) ∧ Q (.int (ns.count k : Nat)) H
theorem mt_count : L2.MtM X "list.count" rCount := by
  intro pins s σ H x vs v us Q I rx rv h
  obtain ⟨l, ns, k, rfl, rfl, hH, q⟩ := h
  cases rx
  obtain ⟨u, rfl, ru⟩ := rv.one
  obtain ⟨t, rfl⟩ := ru
  obtain ⟨its, ri, pl, hz⟩ := I.list (L2.SqL.of hH)
  exact count_list_ints pl.isList (L2.intsAre_of ri) ⟨.int _, H, I.tok _, ⟨_, rfl⟩, q⟩
noncomputable def rInsert : L2.V → List L2.V → L2.Hp → L2.VK → Prop := fun x vs H Q => ∃ (l : Addr) (xs : List L2.V) (y : L2.V), x = .ref l ∧ vs = [.int 0, y] ∧ H l = some (.lst xs) ∧ xs.length < sizeLine ∧ Q .non (L2.upd H l (.lst (y :: xs)))
theorem mt_insert : L2.MtM X "list.insert" rInsert := by
  intro pins s σ H x vs v us Q I rx rv h
  obtain ⟨l, xs, y, rfl, rfl, hH, hz, q⟩ := h
  cases rx
  obtain ⟨u0, u, rfl, ru0, ru⟩ := L2.vals2 rv
  obtain ⟨t, rfl⟩ := ru0
  obtain ⟨z, its, n, r, hl, e⟩ := I.lstM hH
  refine call_meets F.slot_list_insert ⟨_, e, rfl⟩ F.entry_list_insert (F.args_list_insert_3 _ _ _) (AutoSeq1.list_insert_list_int_val_1 l its.toArray n 0 t u (by decide) (by rw [List.size_toArray]; omega)) ⟨e, ?_⟩
  refine ⟨.non, _, I.lset (its' := u :: its) hH e ?_ (.cons ru r) (by rw [List.length_cons]; omega), rfl, q⟩
  simp
end
open MeetsSeq in
theorem index_from (l : Addr) (items : Array Value) (n : Nat) (x : Value) (t : Tok) (e : Value → Bool) (he : ∀ y, y ∈ items → EqGives y x (e y)) (j : Nat) (hj : j < items.size) (hsmall : (j : Int) < 2 ^ 63 - 1) (h1 : 1 ≤ j)
    (hit : e items[j] = true) (hno : ∀ m (hm : m < items.size), 1 ≤ m → m < j → e items[m] = false) :
    Meets (Builtin.«list.index» ⟨[.ref l, x, .int 1 t], []⟩)
      (fun _ R s => s.heap.get? l = some { cls := .type "list", dict := none, data := .seq items n, slots := #[] } ∧ R (.ok (.ret (.int j s.toks))) { s with toks := s.toks + 1 }) := by
  intro prog w A R s h
  obtain ⟨hp, g, d, tk, os⟩ := s; obtain ⟨hl, h⟩ := h
  have f1 := AutoSeq1.idx_int
  wp_walk using wpAny_loadPart' hl
  have b1 : ((fun i : Int => if i < 0 then max 0 (i + (items.size : Int)) else i) ((some (1 : Int)).getD 0)) = ((1 : Nat) : Int) := by simp
  have b2 : ((fun i : Int => if i < 0 then max 0 (i + (items.size : Int)) else i) ((none : Option Int).getD (2 ^ 63 - 1))) = (2 ^ 63 - 1 : Int) := by simp
  rw [b1, b2]
  refine ⟨plainId_quiet plain_index_loop _, codeAny_builtin entry_index_loop ?_⟩
  rw [Around.under_plainId plain_index_loop _]
  exact index_loop l items n x e he (2 ^ 63 - 1) j hj hsmall hit _ 1 rfl h1 hno prog w A R _ ⟨hl, h⟩
theorem idxI_get : ∀ {k : Int} {r : List Int} {j : Nat}, idxI k r = some j → r[j]? = some k ∧ ∀ m, m < j → r[m]? ≠ some k
  | k, [], j, h => by simp [idxI] at h
  | k, i :: r, j, h => by
    unfold idxI at h
    by_cases e : i = k
    · rw [if_pos e] at h
      cases h
      exact ⟨by rw [e]; rfl, fun m hm => absurd hm (by omega)⟩
    · rw [if_neg e] at h
      obtain ⟨j', h1, rfl⟩ := Option.map_eq_some_iff.mp h
      obtain ⟨h2, h3⟩ := idxI_get h1
      refine ⟨by simpa using h2, fun m hm => ?_⟩
      cases m with
      | zero => simpa using e
      | succ m => simpa using h3 m (by omega)
section
variable {X : L2.Cx} {cm : Nat → Addr}
noncomputable def rIndex1 : L2.V → List L2.V → L2.Hp → L2.VK → Prop := fun x vs H Q => ∃ (l : Addr) (i : Int) (r : List Int) (k : Int) (j : Nat), x = .ref l ∧ vs = [.int k, .int 1] ∧ H l = some (.lst ((i :: r).map L2.V.int)) ∧ idxI k r = some j ∧ Q (.int (j + 1 : Nat)) H
theorem mt_index1 : L2.MtM X "list.index" rIndex1 := by
  intro pins s σ H x vs v us Q I rx rv h
  obtain ⟨l, i, r, k, j, rfl, rfl, hH, hj, q⟩ := h
  cases rx
  obtain ⟨u0, u1, rfl, ru0, ru1⟩ := L2.vals2 rv
  obtain ⟨t, rfl⟩ := ru0
  obtain ⟨t1, rfl⟩ := ru1
  obtain ⟨z, its, n, ri, hl, e⟩ := I.lstM hH
  have hi : IntsAre its (i :: r) := L2.intsAre_of ri
  obtain ⟨h2, h3⟩ := idxI_get hj
  have hjr := (List.getElem?_eq_some_iff.mp h2).1
  have hil : its.length = r.length + 1 := by rw [hi.length]; rfl
  have zl : (i :: r).length ≤ sizeLine := by rw [List.length_map] at z; exact z
  rw [sizeLine_eq] at zl
  refine call_meets F.slot_list_index ⟨_, e, rfl⟩ F.entry_list_index (F.args_list_index_3 _ _ _) (index_from l its.toArray n (.int k t) t1 (isInt k) (fun y hy => eq_isInt k t hi y (by simpa using hy)) (j + 1) (by rw [List.size_toArray]; omega) (by simp at zl; omega) (by omega) ?_ ?_) ⟨e, ⟨.int _, H, I.tok _, ⟨_, rfl⟩, q⟩⟩
  · show isInt k its[j + 1] = true
    rw [isInt_at k hi (j + 1) (by omega) (by simp; omega)]
    have : (i :: r)[j + 1]'(by simp; omega) = k := by
      have := (List.getElem?_eq_some_iff.mp h2).2
      simpa using this
    simpa using this
  · intro m hm h1 hlt
    show isInt k its[m] = false
    rw [isInt_at k hi m (by simpa using hm) (by simp; omega)]
    cases m with
    | zero => omega
    | succ m =>
      have := h3 m (by omega)
      rw [List.getElem?_eq_getElem (by omega)] at this
      simpa using this
end
end Ws
namespace Ws
open PySem PySem.W PyProof.Rows
section
variable {X : L2.Cx} {cm : Nat → Addr}
theorem r_count {o e : Expr} {d u : ED} {apos cpos : Pos} (ho : L2.PE X o (EvE X.K cm d)) (he : L2.PE X e (EvE X.K cm u))
    (hb : attributeBase o "count" X.env (eval o X.env) = eval o X.env := by rfl) (hs : starEach [e] X.env = (false, eval e X.env) :: starEach [] X.env := by rfl)
    (hfew : ((backTo cpos (starEach [e] X.env)).all (fun x => !x.1) && (backToKw cpos (keywordEach [] X.env)).all (fun x => x.1.isSome) && decide ([e].length + ([] : List Keyword).length + (if ([] : List Keyword).isEmpty then 0 else 1) < 30)) = true := by rfl)
    (hline : (apos.endLine == cpos.line) = true := by rfl) : L2.PE X (.Call (.Attribute o "count" apos) [e] [] cpos) (EvE X.K cm (eCount d u)) :=
  PE_imp (L2.pe_bm PySem.F.plainAttrs_list PySem.F.slot_list_count PySem.F.type_list_count mt_count ho (r_cons he r_nil hs) (hbase := hb) (hfew := hfew) (hline := hline) (hs := hs)) fun σ H Q ⟨ρ, A, σp, v, A', rl, rs, ev, k⟩ => by
    obtain ⟨x, A1, e1, ev1⟩ := bnd_inv ev
    refine ⟨ρ, A, σp, x, A1, rl, rs, e1, fun ρ1 H1 v1 x1 rl1 rv1 => ?_⟩
    cases x with
    | ref n =>
      obtain ⟨l0, A2, e2, ev2⟩ := bnd_inv ev1
      obtain ⟨rfl, hA, a, xs, rfl, hn, hH, r0⟩ := mut_read rl1 rv1 e2
      refine ⟨.inl ⟨rfl, xs, L2.SqL.of hH⟩, ?_⟩
      obtain ⟨y, A3, e3, ev3⟩ := bnd_inv ev2
      refine ⟨ρ1, _, σp, [y], A3, rl1, rs.mono x1, by show bnd (u σp) _ _ = _; rw [bnd_ok e3]; rfl, fun ρ2 H2 vs2 x2 rl2 rv2 => ?_⟩
      cases rv2 with
      | cons hv hr =>
        cases hr
        cases y with
        | int j =>
          obtain ⟨l, A4, e4, ev4⟩ := bnd_inv ev3
          obtain ⟨rfl, hA2, a2, ys, e5, hn2, hH2, r2⟩ := mut_read rl2 (rv1.mono x2) e4
          cases e5
          cases hi : intsOf l with
          | none => rw [hi] at ev4; cases ev4
          | some ns =>
            rw [hi] at ev4
            cases ev4
            cases hv
            rw [intsOf_inv hi] at r2
            exact ⟨a, ns, j, rfl, rfl, by rw [← rvs_ints r2]; exact hH2, k ρ2 H2 _ (x1.trans x2) rl2 (.int _)⟩
        | _ => cases ev3
    | _ => cases ev1
theorem r_insert {o e e0 : Expr} {d u : ED} {apos cpos : Pos} (ho : L2.PE X o (EvE X.K cm d)) (h0 : L2.PE X e0 (EvE X.K cm (eK (.int 0)))) (he : L2.PE X e (EvE X.K cm u))
    (hb : attributeBase o "insert" X.env (eval o X.env) = eval o X.env := by rfl) (hs : starEach [e0, e] X.env = (false, eval e0 X.env) :: starEach [e] X.env := by rfl) (hs1 : starEach [e] X.env = (false, eval e X.env) :: starEach [] X.env := by rfl)
    (hfew : ((backTo cpos (starEach [e0, e] X.env)).all (fun x => !x.1) && (backToKw cpos (keywordEach [] X.env)).all (fun x => x.1.isSome) && decide ([e0, e].length + ([] : List Keyword).length + (if ([] : List Keyword).isEmpty then 0 else 1) < 30)) = true := by rfl)
    (hline : (apos.endLine == cpos.line) = true := by rfl) (hpl : (backTo cpos (starEach [e] X.env)).any (·.1) = false := by rfl) : L2.PE X (.Call (.Attribute o "insert" apos) [e0, e] [] cpos) (EvE X.K cm (eInsert d u)) :=
  PE_imp (L2.pe_bm PySem.F.plainAttrs_list PySem.F.slot_list_insert PySem.F.type_list_insert mt_insert ho (r_cons h0 (r_cons he r_nil hs1) hs) (hbase := hb) (hfew := hfew) (hline := hline) (hs := hs) (hplain := hpl)) fun σ H Q ⟨ρ, A, σp, v, A', rl, rs, ev, k⟩ => by
    obtain ⟨x, A1, e1, ev1⟩ := bnd_inv ev
    refine ⟨ρ, A, σp, x, A1, rl, rs, e1, fun ρ1 H1 v1 x1 rl1 rv1 => ?_⟩
    cases x with
    | ref n =>
      obtain ⟨l0, A2, e2, ev2⟩ := bnd_inv ev1
      obtain ⟨rfl, hA, a, xs, rfl, hn, hH, r0⟩ := mut_read rl1 rv1 e2
      refine ⟨.inl ⟨rfl, xs, L2.SqL.of hH⟩, ?_⟩
      obtain ⟨y, A3, e3, ev3⟩ := bnd_inv ev2
      obtain ⟨l, A4, e4, ev4⟩ := bnd_inv ev3
      obtain ⟨c, ev5⟩ := guard_inv ev4
      cases ev5
      have ea : aCons (eK (.int 0)) (aCons u aNil) σp A2 = .ok [.int 0, y] A3 := by
        show bnd (bnd (u σp) _) _ A2 = _
        rw [bnd_ok (show bnd (u σp) (fun x => bnd (aNil σp) fun xs => ret (x :: xs)) A2 = .ok [y] A3 by rw [bnd_ok e3]; rfl)]; rfl
      refine ⟨ρ1, _, σp, [.int 0, y], A3, rl1, rs.mono x1, ea, fun ρ2 H2 vs2 x2 rl2 rv2 => ?_⟩
      cases rv2 with
      | cons hv0 hr0 =>
        cases hr0 with
        | cons hv hr =>
          cases hr
          cases hv0
          obtain ⟨rfl, hA2, a2, ys, e5, hn2, hH2, r2⟩ := mut_read rl2 (rv1.mono x2) e4
          cases e5
          refine ⟨a, ys, _, rfl, rfl, hH2, by rw [← r2.length]; exact LIM_lt c, ?_⟩
          refine k ρ2 _ _ ((x1.trans x2).trans (Ext.put rl2 hn2 hA2 rfl)) (rl2.put hn2 hA2 rfl rfl ⟨_, L2.upd_same, ?_⟩) .non
          exact .cons (hv.mono (Ext.put rl2 hn2 hA2 rfl)) (r2.mono (Ext.put rl2 hn2 hA2 rfl))
    | _ => cases ev1
theorem r_index1 {o e e1 : Expr} {d u : ED} {apos cpos : Pos} (ho : L2.PE X o (EvE X.K cm d)) (he : L2.PE X e (EvE X.K cm u)) (h1 : L2.PE X e1 (EvE X.K cm (eK (.int 1))))
    (hb : attributeBase o "index" X.env (eval o X.env) = eval o X.env := by rfl) (hs : starEach [e, e1] X.env = (false, eval e X.env) :: starEach [e1] X.env := by rfl) (hs1 : starEach [e1] X.env = (false, eval e1 X.env) :: starEach [] X.env := by rfl)
    (hfew : ((backTo cpos (starEach [e, e1] X.env)).all (fun x => !x.1) && (backToKw cpos (keywordEach [] X.env)).all (fun x => x.1.isSome) && decide ([e, e1].length + ([] : List Keyword).length + (if ([] : List Keyword).isEmpty then 0 else 1) < 30)) = true := by rfl)
    (hline : (apos.endLine == cpos.line) = true := by rfl) (hpl : (backTo cpos (starEach [e1] X.env)).any (·.1) = false := by rfl) : L2.PE X (.Call (.Attribute o "index" apos) [e, e1] [] cpos) (EvE X.K cm (eIndex1 d u)) :=
  PE_imp (L2.pe_bm PySem.F.plainAttrs_list PySem.F.slot_list_index PySem.F.type_list_index mt_index1 ho (r_cons he (r_cons h1 r_nil hs1) hs) (hbase := hb) (hfew := hfew) (hline := hline) (hs := hs) (hplain := hpl)) fun σ H Q ⟨ρ, A, σp, v, A', rl, rs, ev, k⟩ => by
    obtain ⟨x, A1, e1, ev1⟩ := bnd_inv ev
    refine ⟨ρ, A, σp, x, A1, rl, rs, e1, fun ρ1 H1 v1 x1 rl1 rv1 => ?_⟩
    cases x with
    | ref n =>
      obtain ⟨l0, A2, e2, ev2⟩ := bnd_inv ev1
      obtain ⟨rfl, hA, a, xs, rfl, hn, hH, r0⟩ := mut_read rl1 rv1 e2
      refine ⟨.inl ⟨rfl, xs, L2.SqL.of hH⟩, ?_⟩
      obtain ⟨y, A3, e3, ev3⟩ := bnd_inv ev2
      have ea : aCons u (aCons (eK (.int 1)) aNil) σp A2 = .ok [y, .int 1] A3 := by
        show bnd (u σp) _ A2 = _
        rw [bnd_ok e3]; rfl
      refine ⟨ρ1, _, σp, [y, .int 1], A3, rl1, rs.mono x1, ea, fun ρ2 H2 vs2 x2 rl2 rv2 => ?_⟩
      cases rv2 with
      | cons hv hr0 =>
        cases hr0 with
        | cons hv1 hr =>
          cases hr
          cases hv1
          cases y with
          | int j =>
            obtain ⟨l, A4, e4, ev4⟩ := bnd_inv ev3
            obtain ⟨rfl, hA2, a2, ys, e5, hn2, hH2, r2⟩ := mut_read rl2 (rv1.mono x2) e4
            cases e5
            cases hi : intsOf l with
            | none => rw [hi] at ev4; cases ev4
            | some ns =>
              rw [hi] at ev4
              cases ns with
              | nil => cases ev4
              | cons i r =>
                cases hx : idxI j r with
                | none => simp only [hx] at ev4; cases ev4
                | some m =>
                  simp only [hx] at ev4
                  cases ev4
                  cases hv
                  rw [intsOf_inv hi] at r2
                  exact ⟨a, i, r, j, m, rfl, rfl, by rw [← rvs_ints r2]; exact hH2, hx, k ρ2 H2 _ (x1.trans x2) rl2 (.int _)⟩
          | _ => cases ev3
    | _ => cases ev1
end
section
variable {prog : Program} {w : World} {A : Around} {E : Value → Shared → Prop} {s : Shared} {Q : Value → Shared → Prop}
theorem call_mx {l : Addr} {its : List Value} {i : Int} {r : List Int} (hh : A.handled = none) (hl : s.heap.IsList l its.toArray) (hi : IntsAre its (i :: r))
    (h1 : ∀ t h' tk, (∀ b o, s.heap.get? b = some o → h'.get? b = some o) → Q (.int (maxI i r) t) { s with heap := h', toks := tk }) :
    wpAny (model prog w) A (call (.builtin "max") [.ref l]) Q E s := by
  have hlt : l < s.heap.objs.size := by
    obtain ⟨_, e, _⟩ := hl
    exact Heap.lt_size e
  have hlen : its.toArray.size = r.length + 1 := by rw [List.size_toArray]; exact hi.length
  refine fn_tree_kw F.kind_max F.plain_max F.entry_max (F.args_max1 _) ?_
  show wpAny _ A.in1 (Builtin.Builtins.bindParams "max" ["key", "default"] 0 ⟨[], []⟩ >>= _) _ _ s
  refine (wpAny_bind (wpAny_of_eq (show Builtin.Builtins.bindParams "max" ["key", "default"] 0 ⟨[], []⟩ = pure [none, none] from by rfl) ?_))
  refine (wpAny_bind (wpAny_pure ?_))
  refine (wpAny_bind (wpAny_pyIter_list hl ?_))
  refine (wpAny_bind (wpAny_newObj_type ?_))
  rw [mx_name]
  have W := Walks.list (prog := prog) (w := w) (A := A.in1) hh s.heap.objs.size l (Nat.ne_of_lt hlt) its.toArray
  have hget : ∀ k v, its.toArray[k]? = some v → ∃ t, v = Value.int ((i :: r).getD k 0) t := by
    intro k v hv
    rw [List.getElem?_toArray] at hv
    have hil : k < (i :: r).length := by
      have := (List.getElem?_eq_some_iff.mp hv).1
      rwa [hi.length] at this
    obtain ⟨t, e1⟩ := hi.get k (i :: r)[k] (List.getElem?_eq_getElem hil)
    rw [e1] at hv
    exact ⟨t, by rw [← Option.some.inj hv, List.getD_eq_getElem?_getD, List.getElem?_eq_getElem hil]; rfl⟩
  have hsz : (s.heap.push { cls := .type "list_iterator", data := .fields #[.ref l, .int 0 0] }).objs.size = s.heap.objs.size + 1 := Heap.size_push ..
  have hup : maxI ((i :: r).getD 0 0) (upto (fun k => (i :: r).getD k 0) 1 (r.length + 1)) = maxI i r := by
    have : upto (fun k => (i :: r).getD k 0) 1 (r.length + 1) = r := by
      unfold upto
      refine List.ext_getElem? fun k => ?_
      rw [List.getElem?_map]
      simp only [Nat.add_sub_cancel]
      by_cases hk : k < r.length
      · rw [List.getElem?_range hk]
        simp [Nat.add_comm 1 k, hk]
      · simp [hk]
    rw [this]; rfl
  have st0 := W.frame 0 _ ((s.heap.push { cls := .type "list_iterator", data := .fields #[.ref l, .int 0 0] }).push { cls := .type "list", data := .seq #[] 0 }) ⟨⟨_, Heap.get?_push_size _ rfl, rfl, rfl⟩, hl.push _⟩ fun b _ o e => Heap.get?_push_of_some _ e
  refine (wpAny_pure ⟨plainId_quiet F.plain_max_loop _, mx_some (kw := []) (s := { s with heap := (s.heap.push { cls := .type "list_iterator", data := .fields #[.ref l, .int 0 0] }).push { cls := .type "list", data := .seq #[] 0 } }) W (fun k => (i :: r).getD k 0) hget (s.heap.push { cls := .type "list_iterator", data := .fields #[.ref l, .int 0 0] }).objs.size ?_ st0 (Heap.get?_push_size _ rfl) (by rw [hlen]; omega) ?_⟩)
  · rw [hsz]
    intro z
    rcases List.mem_cons.mp z with e | z
    · exact Nat.succ_ne_self _ e
    · have e := List.mem_singleton.mp z
      rw [← e] at hlt
      exact Nat.lt_irrefl _ (Nat.lt_of_succ_lt hlt)
  · intro t h2 tk k2
    rw [hlen, hup]
    refine h1 t h2 tk fun b o e => ?_
    have hb : b < s.heap.objs.size := Heap.lt_size e
    exact k2 b o (fun z => absurd (List.mem_singleton.mp z) (Nat.ne_of_lt hb)) (by rw [hsz]; exact Nat.ne_of_lt (Nat.lt_succ_of_lt hb)) (Heap.get?_push_of_some _ (Heap.get?_push_of_some _ e))
end
section
variable {X : L2.Cx} {cm : Nat → Addr}
noncomputable def rMax (K : PySem.W.Frag) : List L2.V → L2.Hp → L2.VK → Prop := fun vs H Q => ∃ (a : Addr) (i : Int) (r : List Int), vs = [.ref a] ∧ L2.SqL K H a ((i :: r).map L2.V.int) ∧ Q (.int (maxI i r)) H
theorem call_maxB (hcalm : X.calm = true) : L2.CallR X (.builtin "max") (rMax X.K) := by
  intro pins s σ H xs us Q I r h
  obtain ⟨a, i, is, rfl, hq, q⟩ := h
  obtain ⟨u, rfl, rx⟩ := L2.vals1 r
  cases rx
  obtain ⟨its, ri, pl, hz⟩ := I.list hq
  exact call_mx (I.ok.hd hcalm) pl.isList (L2.intsAre_of ri) fun t h' tk k => ⟨.int (maxI i is), H, I.kept (t' := tk) k, ⟨t, rfl⟩, q⟩
theorem r_max {e : Expr} {d : ED} {p pos : Pos} (hcalm : X.calm = true) (he : L2.PE X e (EvE X.K cm d)) (hg : L2.Gl X "max") (hm : X.mg "max" = none) (hs : starEach [e] X.env = (false, eval e X.env) :: starEach [] X.env := by rfl) : L2.PE X (.Call (.Name "max" p) [e] [] pos) (EvE X.K cm (eMax d)) :=
  PE_imp (L2.pe_callB (call_maxB hcalm) hg hm (by rfl) (r_cons he r_nil hs) (he := hs)) fun σ H Q h => ev_one (f := fun x => match x with | .ref n => bnd (lstAt n) fun l => (match intsOf l with | some (i :: r) => ret (.int (maxI i r)) | _ => stuck) | _ => stuck) (fun _ => rfl) (fun ρ A H x z A' v Q rl rx ev k => by
    cases x with
    | ref n =>
      obtain ⟨l, A1, e1, ev1⟩ := bnd_inv ev
      obtain ⟨rfl, a, xs, rfl, hq, hv⟩ := lst_read rl rx e1
      cases hi : intsOf l with
      | none => rw [hi] at ev1; cases ev1
      | some ns =>
        rw [hi] at ev1
        cases ns with
        | nil => cases ev1
        | cons i r =>
          cases ev1
          rw [intsOf_inv hi] at hv
          exact ⟨a, i, r, rfl, by rw [← rvs_ints hv]; exact hq, k ρ H _ (Ext.refl _ _) rl (.int _)⟩
    | _ => cases ev) h
end
end Ws
namespace Ws
open PySem PySem.W PyProof.Rows
section
variable {X : L2.Cx} {cm : Nat → Addr}
theorem r_neg {i : Int} {j : Nat} {pos pos' : Pos} : L2.PE X (.UnaryOp .USub (.Constant (.int i) j pos) pos') (EvE X.K cm (eK (.int (-i)))) :=
  PE_imp (L2.pe_un L2.un_neg L2.pe_int) fun σ H Q ⟨ρ, A, σp, v, A', rl, rs, ev, k⟩ => by
    cases ev
    exact ⟨i, rfl, k ρ H _ (Ext.refl _ _) rl (.int _)⟩
theorem r_pop0 {o e : Expr} {d : ED} {apos cpos : Pos} (ho : L2.PE X o (EvE X.K cm d)) (he : L2.PE X e (EvE X.K cm (eK (.int 0))))
    (hb : attributeBase o "pop" X.env (eval o X.env) = eval o X.env := by rfl) (hs : starEach [e] X.env = (false, eval e X.env) :: starEach [] X.env := by rfl)
    (hfew : ((backTo cpos (starEach [e] X.env)).all (fun x => !x.1) && (backToKw cpos (keywordEach [] X.env)).all (fun x => x.1.isSome) && decide ([e].length + ([] : List Keyword).length + (if ([] : List Keyword).isEmpty then 0 else 1) < 30)) = true := by rfl)
    (hline : (apos.endLine == cpos.line) = true := by rfl) : L2.PE X (.Call (.Attribute o "pop" apos) [e] [] cpos) (EvE X.K cm (ePop0 d)) :=
  PE_imp (L2.pe_bm PySem.F.plainAttrs_list PySem.F.slot_list_pop PySem.F.type_list_pop L2.mt_popAt ho (r_cons he r_nil hs) (hbase := hb) (hfew := hfew) (hline := hline) (hs := hs)) fun σ H Q ⟨ρ, A, σp, v, A', rl, rs, ev, k⟩ => by
    obtain ⟨x, A1, e1, ev1⟩ := bnd_inv ev
    refine ⟨ρ, A, σp, x, A1, rl, rs, e1, fun ρ1 H1 v1 x1 rl1 rv1 => ?_⟩
    cases x with
    | ref n =>
      obtain ⟨l0, A2, e2, ev2⟩ := bnd_inv ev1
      have e20 := e2
      obtain ⟨rfl, hA, a, xs, rfl, hn, hH, r0⟩ := mut_read rl1 rv1 e2
      refine ⟨.inl ⟨rfl, xs, L2.SqL.of hH⟩, ρ1, _, σp, [.int 0], _, rl1, rs.mono x1, rfl, fun ρ2 H2 vs2 x2 rl2 rv2 => ?_⟩
      cases rv2 with
      | cons hv hr =>
        cases hr
        cases hv
        obtain ⟨_, hA2, a2, ys, e5, hn2, hH2, r2⟩ := mut_read rl2 (rv1.mono x2) e20
        cases e5
        cases l0 with
        | nil => cases ev2
        | cons y r =>
          cases ev2
          cases r2 with
          | cons hy hrr =>
            refine ⟨a, _, 0, 0, _, rfl, rfl, hH2, by omega, by omega, by unfold seqIndex?; simp, rfl, ?_⟩
            refine k ρ2 _ _ ((x1.trans x2).trans (Ext.put rl2 hn2 hA2 rfl)) (rl2.put hn2 hA2 rfl rfl ⟨_, L2.upd_same, ?_⟩) (hy.mono (Ext.put rl2 hn2 hA2 rfl))
            exact hrr.mono (Ext.put rl2 hn2 hA2 rfl)
    | _ => cases ev1
end
section
variable {X : L2.Cx} {cm : Nat → Addr}
end
end Ws
namespace Ws
open PySem
section
variable {X : L2.Cx} {cm : Nat → Addr} {pins : List (Addr × Obj)} {σ : L2.St} {H : L2.Hp} {s : Shared}
end
end Ws
namespace Ws
open PySem PySem.W PyProof.Rows
section
variable {X : L2.Cx} {cm : Nat → Addr}
end
end Ws
namespace Ws
open PySem PySem.W PyProof.Rows
section
variable {X : L2.Cx} {cm : Nat → Addr}
theorem r_extend {o e : Expr} {d u : ED} {apos cpos : Pos} (ho : L2.PE X o (EvE X.K cm d)) (he : L2.PE X e (EvE X.K cm u))
    (hb : attributeBase o "extend" X.env (eval o X.env) = eval o X.env := by rfl) (hs : starEach [e] X.env = (false, eval e X.env) :: starEach [] X.env := by rfl)
    (hfew : ((backTo cpos (starEach [e] X.env)).all (fun x => !x.1) && (backToKw cpos (keywordEach [] X.env)).all (fun x => x.1.isSome) && decide ([e].length + ([] : List Keyword).length + (if ([] : List Keyword).isEmpty then 0 else 1) < 30)) = true := by rfl)
    (hline : (apos.endLine == cpos.line) = true := by rfl) : L2.PE X (.Call (.Attribute o "extend" apos) [e] [] cpos) (EvE X.K cm (eExtend d u)) :=
  PE_imp (L2.pe_bm PySem.F.plainAttrs_list PySem.F.slot_list_extend PySem.F.type_list_extend L2.mt_extend ho (r_cons he r_nil hs) (hbase := hb) (hfew := hfew) (hline := hline) (hs := hs)) fun σ H Q ⟨ρ, A, σp, v, A', rl, rs, ev, k⟩ => by
    obtain ⟨x, A1, e1, ev1⟩ := bnd_inv ev
    refine ⟨ρ, A, σp, x, A1, rl, rs, e1, fun ρ1 H1 v1 x1 rl1 rv1 => ?_⟩
    cases x with
    | ref n =>
      obtain ⟨l0, A2, e2, ev2⟩ := bnd_inv ev1
      obtain ⟨rfl, hA, a, xs, rfl, hn, hH, r0⟩ := mut_read rl1 rv1 e2
      refine ⟨.inl ⟨rfl, xs, L2.SqL.of hH⟩, ?_⟩
      obtain ⟨y, A3, e3, ev3⟩ := bnd_inv ev2
      refine ⟨ρ1, _, σp, [y], A3, rl1, rs.mono x1, by show bnd (u σp) _ _ = _; rw [bnd_ok e3]; rfl, fun ρ2 H2 vs2 x2 rl2 rv2 => ?_⟩
      cases rv2 with
      | cons hv hr =>
        cases hr
        cases y with
        | ref j =>
          obtain ⟨l, A4, e4, ev4⟩ := bnd_inv ev3
          obtain ⟨rfl, hA2, a2, ys, e5, hn2, hH2, r2⟩ := mut_read rl2 (rv1.mono x2) e4
          cases e5
          obtain ⟨m, A5, e6, ev5⟩ := bnd_inv ev4
          obtain ⟨rfl, hA3, b, zs, rfl, hn3, hH3, r3⟩ := mut_read rl2 hv e6
          obtain ⟨c, ev6⟩ := guard_inv ev5
          cases ev6
          refine ⟨a, b, ys, zs, rfl, rfl, hH2, hH3, by rw [← r2.length, ← r3.length]; exact LIM_line c, ?_⟩
          refine k ρ2 _ _ ((x1.trans x2).trans (Ext.put rl2 hn2 hA2 rfl)) (rl2.put hn2 hA2 rfl rfl ⟨_, L2.upd_same, ?_⟩) .non
          exact (r2.mono (Ext.put rl2 hn2 hA2 rfl)).append (r3.mono (Ext.put rl2 hn2 hA2 rfl))
        | _ => cases ev3
    | _ => cases ev1
end
end Ws
namespace Ws
open PySem PySem.W PyProof.Rows
section
variable {prog : Program} {w : World} {A : Around} {E : Value → Shared → Prop} {s : Shared}
noncomputable def IterAt (k : Bool) (h : Heap) (it l : Addr) (i : Nat) : Prop := match k with
  | true => h.IsTupleIter it l i
  | false => h.IsListIter it l i
noncomputable def SeqAt (k : Bool) (h : Heap) (l : Addr) (its : Array Value) : Prop := match k with
  | true => h.IsTuple l its
  | false => h.IsList l its
theorem IterAt.at {k : Bool} {h h' : Heap} {it l : Addr} {i : Nat} (x : IterAt k h it l i) (e : ∀ o, h.get? it = some o → h'.get? it = some o) : IterAt k h' it l i := by
  cases k with
  | true => exact Heap.IsTupleIter.at x e
  | false => exact Heap.IsListIter.at x e
theorem SeqAt.at {k : Bool} {h h' : Heap} {l : Addr} {its : Array Value} (x : SeqAt k h l its) (e : ∀ o, h.get? l = some o → h'.get? l = some o) : SeqAt k h' l its := by
  cases k with
  | true => obtain ⟨o, h1, h2⟩ := x; exact ⟨o, e o h1, h2⟩
  | false => exact Heap.IsList.at x e
theorem IterAt.obj {k : Bool} {h : Heap} {it l : Addr} {i : Nat} (x : IterAt k h it l i) : ∃ o vs, h.get? it = some o ∧ o.data = .fields vs := by
  cases k with
  | true => obtain ⟨o, h1, _, h2⟩ := x; exact ⟨o, _, h1, h2⟩
  | false => obtain ⟨o, h1, _, h2⟩ := x; exact ⟨o, _, h1, h2⟩
theorem SeqAt.lt {k : Bool} {h : Heap} {l : Addr} {its : Array Value} (x : SeqAt k h l its) : l < h.objs.size := by
  cases k with
  | true => obtain ⟨o, h1, _⟩ := x; exact Heap.lt_size h1
  | false => obtain ⟨o, h1, _⟩ := x; exact Heap.lt_size h1
noncomputable def ZipAt (h : Heap) (z TI TO : Addr) : Prop := ∃ (f0 : Value) (f1 : Bool), (f0 = .none ∨ ∃ T : Addr, f0 = rawInt T) ∧ h.get? z = some { cls := .type "zip", dict := none, data := .fields #[f0, .bool f1, .bool false, .ref TI, .ref TO], slots := #[] }
end
end Ws
namespace Ws
open PySem PySem.W PyProof.Rows
section
variable {prog : Program} {w : World} {A : Around} {E : Value → Shared → Prop} {s : Shared}
structure ZSt (k1 k2 : Bool) (z TI TO i1 i2 l1 l2 : Addr) (i : Nat) (h : Heap) : Prop where
  zr : ZipAt h z TI TO
  ti : IsPair h TI (.ref i1) (.ref i2)
  to : ∃ a b, IsPair h TO a b
  j1 : IterAt k1 h i1 l1 i
  j2 : IterAt k2 h i2 l2 i
theorem ZSt.keep {k1 k2 : Bool} {z TI TO i1 i2 l1 l2 : Addr} {i : Nat} {h h' : Heap} (S : ZSt k1 k2 z TI TO i1 i2 l1 l2 i h) (k : ∀ b ∈ [z, TI, TO, i1, i2], ∀ o, h.get? b = some o → h'.get? b = some o) : ZSt k1 k2 z TI TO i1 i2 l1 l2 i h' := by
  obtain ⟨⟨f0, f1, hf, hz⟩, ti, ⟨a, b, to⟩, j1, j2⟩ := S
  exact ⟨⟨f0, f1, hf, k z (by simp) _ hz⟩, k TI (by simp) _ ti, ⟨a, b, k TO (by simp) _ to⟩, j1.at fun o e => k i1 (by simp) o e, j2.at fun o e => k i2 (by simp) o e⟩
end
end Ws
namespace Ws
open PySem PySem.W PyProof.Rows
section
variable {X : L2.Cx} {cm : Nat → Addr}
end
end Ws
namespace Ws
open PySem PySem.W PyProof.Rows
section
variable {prog : Program} {w : World} {A : Around} {E : Value → Shared → Prop} {s : Shared}
end
section
variable {X : L2.Cx} {cm : Nat → Addr}
end
end Ws
namespace Ws
open PySem PySem.W PyProof.Rows
section
variable {prog : Program} {w : World} {A : Around} {E : Value → Shared → Prop} {s : Shared}
end
end Ws
namespace Ws
open PySem PySem.W PyProof.Rows
section
variable {X : L2.Cx} {cm : Nat → Addr}
end
end Ws
namespace Ws
open PySem PySem.W PyProof.Rows
section
variable {prog : Program} {w : World} {A : Around} {E : Value → Shared → Prop} {s : Shared}
end
section
variable {X : L2.Cx} {cm : Nat → Addr}
end
end Ws
namespace Ws
open PySem PySem.W PyProof.Rows PySem.Calls
structure XCls (h : Heap) (C : Addr) (newId : String) : Prop where
  obj : ∃ nm q N bs bm hdct sn sub ab col dd k0 k1 k2 k3 k5, h.get? C = some (excClassObj nm q C N bs bm hdct sn sub ab col dd k0 k1 k2 k3 k5 newId) ∧ bm.contains (.type "ValueError") = true ∧ bm.contains (.type "BaseException") = true ∧ bm.contains (.type "AttributeError") = false ∧ bm.contains (.type "NameError") = false
theorem XCls.keeps {h h' : Heap} {C : Addr} {newId : String} (x : XCls h C newId) (k : ∀ b o, h.get? b = some o → h'.get? b = some o) : XCls h' C newId := by
  obtain ⟨nm, q, N, bs, bm, hdct, sn, sub, ab, col, dd, k0, k1, k2, k3, k5, hC, r⟩ := x.obj
  exact ⟨nm, q, N, bs, bm, hdct, sn, sub, ab, col, dd, k0, k1, k2, k3, k5, k _ _ hC, r⟩
section
variable {prog : Program} {w : World} {A : Around} {R : Result → Shared → Prop} {h : Heap} {g : Array GenState} {d : Drawn} {t : Nat} {os : OsState} {C fI : Addr} {rest : List Value}
end
end Ws
namespace Ws
open PySem PySem.W PyProof.Rows PySem.Calls
section
variable {prog : Program} {w : World} {A : Around} {R : Result → Shared → Prop} {h : Heap} {g : Array GenState} {d : Drawn} {t : Nat} {os : OsState} {C fI : Addr} {rest : List Value}
end
end Ws
namespace Ws
open PySem PySem.W PyProof.Rows PySem.Calls Builtin Builtin.ObjectAttr
noncomputable def vErr : List Value := [.type "ValueError", .type "Exception", .type "BaseException", .type "object"]
noncomputable def onlyErr : List Value → Bool
  | .ref _ :: r => onlyErr r
  | l => l == vErr
section
variable {prog : Program} {w : World} {A : Around} {E : Value → Shared → Prop} {R : Result → Shared → Prop} {s : Shared} {K : Frag} {x C : Addr} {ox : Obj} {cd : ClassData} {name : Str} {v : Value}
end
end Ws
namespace Ws
open PySem PySem.W PyProof.Rows PySem.Calls
noncomputable def tbV : Option Addr → Value
  | none => .none
  | some T => .ref T
noncomputable def XObj (C : Addr) (d tb : Option Addr) (e : Addr) (h : Heap) : Prop := ∃ oe vs, h.get? e = some oe ∧ oe.cls = .ref C ∧ oe.dict = d ∧ oe.data = .fields vs ∧ vs[1]? = some (tbV tb)
noncomputable def XO (C : Addr) (d tb : Option Addr) (e : Addr) : L2.HO := .ext (XObj C d tb e)
noncomputable def TObj (T : Addr) (fl : Value) (h : Heap) : Prop := ∃ oT ts, h.get? T = some oT ∧ oT.data = .fields ts ∧ ts[3]? = some fl
noncomputable def TO (T : Addr) (fl : Value) : L2.HO := .ext (TObj T fl)
structure XK (K : PySem.W.Frag) (C fI : Addr) : Prop where
  obj : ∃ nm q N bs bm hdct sn sub ab col dd k0 k1 k2 k3 k5, K.lookup C = some (excClassObj nm q C N bs bm hdct sn sub ab col dd k0 k1 k2 k3 k5 "ValueError.__new__") ∧ onlyErr bm = true ∧ hdct = true
  init : findIn K (.ref C) "__init__" = some (some (.ref fI))
  fn : isFn K (.ref fI) = true
  kp : keepIn K (.ref C) = true
  sa : findIn K (.ref C) "__setattr__" = some (some (.builtin "object.__setattr__"))
  na : findIn K (.ref C) "at" = some none
theorem err_in : ∀ {l : List Value}, onlyErr l = true → l.contains (.type "ValueError") = true ∧ l.contains (.type "BaseException") = true ∧ l.contains (.type "AttributeError") = false ∧ l.contains (.type "NameError") = false
  | .ref c :: r, e => by
    obtain ⟨h1, h2, h3, h4⟩ := err_in (l := r) (by cases r <;> exact e)
    refine ⟨?_, ?_, ?_, ?_⟩ <;> rw [List.contains_cons] <;> first | rw [h1] | rw [h2] | rw [h3] | rw [h4]
    · exact Bool.or_true _
    · exact Bool.or_true _
    · rfl
    · rfl
  | [], e => by cases e
  | .type n :: r, e => by rw [show Value.type n :: r = vErr from beq_iff_eq.mp e]; exact ⟨rfl, rfl, rfl, rfl⟩
  | .none :: r, e => by cases e
  | .bool _ :: r, e => by cases e
  | .int _ _ :: r, e => by cases e
  | .str _ _ :: r, e => by cases e
  | .bytes _ _ :: r, e => by cases e
  | .float _ _ :: r, e => by cases e
  | .builtin _ :: r, e => by cases e
  | .ellipsis :: r, e => by cases e
  | .notImplemented :: r, e => by cases e
theorem XK.cls {K : PySem.W.Frag} {C fI : Addr} {h : Heap} (x : XK K C fI) (X : K.In h) : XCls h C "ValueError.__new__" := by
  obtain ⟨nm, q, N, bs, bm, hdct, sn, sub, ab, col, dd, k0, k1, k2, k3, k5, hC, ho, _⟩ := x.obj
  exact ⟨nm, q, N, bs, bm, hdct, sn, sub, ab, col, dd, k0, k1, k2, k3, k5, X _ _ hC, err_in ho⟩
theorem XK.cd {K : PySem.W.Frag} {C fI : Addr} (x : XK K C fI) : ∃ cd, clsIn K C = some cd ∧ onlyErr cd.mro = true ∧ cd.hasDict = true := by
  obtain ⟨nm, q, N, bs, bm, hdct, sn, sub, ab, col, dd, k0, k1, k2, k3, k5, hC, ho, hd⟩ := x.obj
  refine ⟨_, by unfold clsIn; rw [hC], ?_, hd⟩
  exact ho
section
variable {X : L2.Cx} {o value : Expr} {pos pos' : Pos} {to tv : L2.TE}
end
end Ws
namespace Ws
open PySem PySem.W PyProof.Rows PySem.Calls
noncomputable def FlyAt (fl : Value) (H : L2.Hp) (e C : Addr) (v : L2.V) : Prop := ∃ d tb, H e = some (XO C (some d) tb e) ∧ H d = some (.xd [("at", v)]) ∧ ∀ T, tb = some T → H T = some (TO T fl) ∧ T ≠ e
noncomputable def Calm (H H' : L2.Hp) : Prop := ∀ b u, H b = some u → (∀ φ, u ≠ .ext φ) → H' b = some u
theorem Calm.refl (H : L2.Hp) : Calm H H := fun _ _ e _ => e
theorem Calm.trans {H H1 H2 : L2.Hp} (a : Calm H H1) (b : Calm H1 H2) : Calm H H2 := fun c u e n => b c u (a c u e n) n
section
variable {M : Model} {A : Around} {E : Value → Shared → Prop} {s : Shared} {P : Program} {w : World}
end
end Ws
namespace Ws
open PySem PySem.W PyProof.Rows PySem.Calls
section
variable (K : PySem.W.Frag) (cm : Nat → Addr)
noncomputable def XPost (ρ : List Addr) (H : L2.Hp) (c : Nat) (v : PV) (A' : PHp) (XQ : Addr → L2.Hp → Prop) : Prop := ∀ ρ' H' a v', Ext ρ H ρ' H' → Rel K cm ρ' A' H' → RV ρ' H' v v' → FlyAt .none H' a (cm c) v' → XQ a H'
noncomputable def OutV (ρ : List Addr) (H : L2.Hp) (XQ : Addr → L2.Hp → Prop) (Q : L2.VK) : R PV → Prop
  | .ok v A' => ∀ ρ' H' v', Ext ρ H ρ' H' → Rel K cm ρ' A' H' → RV ρ' H' v v' → Q v' H'
  | .ex c v A' => XPost K cm ρ H c v A' XQ
  | .no => False
noncomputable def OutS (ρ : List Addr) (H : L2.Hp) (XE : Addr → L2.Hp → Prop) (D : L2.Ends) : R Fl → Prop
  | .ok f A' => ∀ ρ' H', Ext ρ H ρ' H' → Rel K cm ρ' A' H' → Post D ρ' H' f
  | .ex c v A' => XPost K cm ρ H c v A' XE
  | .no => False
end
section
variable {K : PySem.W.Frag} {cm : Nat → Addr} {ρ ρ1 : List Addr} {H H1 : L2.Hp} {XQ : Addr → L2.Hp → Prop} {Q : L2.VK} {D : L2.Ends}
theorem XPost.ext {c : Nat} {v : PV} {A' : PHp} (h : XPost K cm ρ H c v A' XQ) (x : Ext ρ H ρ1 H1) : XPost K cm ρ1 H1 c v A' XQ := fun ρ' H' a v' y r rv f => h ρ' H' a v' (x.trans y) r rv f
theorem OutV.ext {r : R PV} (h : OutV K cm ρ H XQ Q r) (x : Ext ρ H ρ1 H1) : OutV K cm ρ1 H1 XQ Q r := by
  cases r with
  | ok v A' => exact fun ρ' H' v' y rl rv => h ρ' H' v' (x.trans y) rl rv
  | ex c v A' => exact XPost.ext h x
  | no => exact h
theorem Post.def {f : Fl} : Post D ρ H f = Post D ρ H f := rfl
theorem OutS.ext {r : R Fl} (h : OutS K cm ρ H XQ D r) (x : Ext ρ H ρ1 H1) : OutS K cm ρ1 H1 XQ D r := by
  cases r with
  | ok v A' => exact fun ρ' H' y rl => h ρ' H' (x.trans y) rl
  | ex c v A' => exact XPost.ext h x
  | no => exact h
theorem Calm.ext {H' : L2.Hp} (c : Calm H H') : Ext ρ H ρ H' := ⟨List.prefix_refl _, fun a vs h => c a _ h (by intro φ z; cases z), fun a vs h => c a _ h (by intro φ z; cases z)⟩
theorem ro_calm {H' : L2.Hp} {a : Addr} {o : PO} (r : RO K cm ρ H a o) (c : Calm H H') : RO K cm ρ H' a o := by
  have e : Ext ρ H ρ H' := c.ext
  cases o with
  | lst l => obtain ⟨xs, h, q⟩ := r; exact ⟨xs, c _ _ h (by intro φ z; cases z), q.mono e⟩
  | ro l =>
    obtain ⟨xs, h, q⟩ := r
    rcases h with ⟨u, h⟩ | h
    · exact ⟨xs, .inl ⟨u, c _ _ h (by intro φ z; cases z)⟩, q.mono e⟩
    · exact ⟨xs, .inr h, q.mono e⟩
  | dI kvs => obtain ⟨kv, h, q⟩ := r; exact ⟨kv, c _ _ h (by intro φ z; cases z), q.mono e⟩
  | ins c' fs => obtain ⟨hs, dx, kv, h, q⟩ := r; exact ⟨hs, dx, kv, c _ _ h (by intro φ z; cases z), q.mono e⟩
  | dT kvs => obtain ⟨kv, h, q⟩ := r; exact ⟨kv, c _ _ h (by intro φ z; cases z), q.mono e⟩
  | exc c' v => obtain ⟨o, d, v', h, h1, h2, h3, h4, q⟩ := r; exact ⟨o, d, v', c _ _ h (by intro φ z; cases z), h1, h2, h3, c _ _ h4 (by intro φ z; cases z), q.mono e⟩
theorem Rel.calm {H' : L2.Hp} {A : PHp} (r : Rel K cm ρ A H) (c : Calm H H') : Rel K cm ρ A H' := ⟨r.len, fun n o a h1 h2 => ro_calm (r.obj n o a h1 h2) c, r.inj⟩
end
section
variable {X : L2.Cx} {cm : Nat → Addr} {pins : List (Addr × Obj)} {σ : L2.St} {H : L2.Hp} {s s' : Shared}
end
section
variable {X : L2.Cx} {cm : Nat → Addr}
end
end Ws
namespace Ws
open PySem PySem.W PyProof.Rows PySem.Calls
section
variable {X : L2.Cx} {cm : Nat → Addr} {XE : Addr → L2.Hp → Prop}
end
end Ws
namespace Ws
open PySem PySem.W PyProof.Rows PySem.Calls
section
variable {P : Program} {w : World} {K : PySem.W.Frag} {mg : Str → Option Value} {base : Heap} {cm : Nat → Addr}
end
section
variable {X : L2.Cx} {cm : Nat → Addr}
end
end Ws
namespace Ws
open PySem PySem.W PyProof.Rows PySem.Calls
section
variable {X : L2.Cx} {pins : List (Addr × Obj)} {σ : L2.St} {H : L2.Hp} {s : Shared} {E : Value → Shared → Prop}
end
section
variable {M : Model} {A : Around} {E : Value → Shared → Prop} {env : Env}
end
end Ws
namespace Ws
open PySem PySem.W PyProof.Rows PySem.Calls
section
variable {X : L2.Cx} {cm : Nat → Addr} {XE : Addr → L2.Hp → Prop}
end
end Ws
namespace Ws
open PySem PySem.W PyProof.Rows PySem.Calls
section
variable {M : Model} {A : Around} {E : Value → Shared → Prop} {s : Shared}
end
section
variable {X : L2.Cx} {pins : List (Addr × Obj)} {σ : L2.St} {H : L2.Hp} {s : Shared} {a : Addr}
end
section
variable {K : PySem.W.Frag} {cm : Nat → Addr} {ρ : List Addr} {H : L2.Hp} {A : PHp} {a : Addr}
end
section
variable {X : L2.Cx} {cm : Nat → Addr}
end
end Ws
namespace Ws
open PySem PySem.W PyProof.Rows PySem.Calls
section
variable {prog : Program} {w : World} {A : Around} {E : Value → Shared → Prop} {K : PySem.W.Frag} {x C fI : Addr} {ox od : Obj} {name : Str} {h : Heap} {g : Array GenState} {d : Drawn} {t : Nat} {os : OsState}
end
end Ws
namespace Ws
open PySem PySem.W PyProof.Rows PySem.Calls
section
variable {X : L2.Cx} {cm : Nat → Addr} {pins : List (Addr × Obj)} {σ : L2.St} {H : L2.Hp} {s : Shared}
end
section
variable {X : L2.Cx} {cm : Nat → Addr}
end
end Ws
namespace Ws
open PySem PySem.W PyProof.Rows PySem.Calls
section
variable {X : L2.Cx} {cm : Nat → Addr}
end
end Ws
namespace Ws
open PySem
section
variable {X : L2.Cx} {cm : Nat → Addr}
end
end Ws
namespace Ws
open PySem
open PySem.SeqAt
section
variable {X : L2.Cx} {pins : List (Addr × Obj)} {σ : L2.St} {H : L2.Hp} {s : Shared} {ρ : List Addr} {A : Around} {cm : Nat → Addr}
end
end Ws
namespace Ws
end Ws
namespace Ws
open PySem PySem.Spec PySem.Calls PyProof.Rows
section
variable {prog : Program} {w : World} {A : Around} {E : Value → Shared → Prop} {s : Shared} {Q : Value → Shared → Prop}
end
section
variable {X : L2.Cx} {cm : Nat → Addr}
end
end Ws
namespace Ws
open PySem
theorem mapInl_inj {i j : List Int} (h : i.map (Sum.inl : Int → L2.Key) = j.map Sum.inl) : i = j := (List.map_inj_right fun _ _ z => Sum.inl.inj z).mp h
section
variable {ρ : List Addr} {H : L2.Hp} {K : PySem.W.Frag} {A : PHp} {n : Nat} {v : L2.V}
noncomputable abbrev PT2 (ρ : List Addr) (H : L2.Hp) (m : List (List Int × PV)) (kv : List (List L2.Key × L2.V)) : Prop := Pairs (List.map Sum.inl : List Int → List L2.Key) ρ H m kv
theorem PT2.len {m : List (List Int × PV)} {kv : List (List L2.Key × L2.V)} (h : PT2 ρ H m kv) : m.length = kv.length := by
  have := congrArg List.length h.keys
  simpa using this.symm
theorem PT2.val : ∀ {m : List (List Int × PV)} {kv : List (List L2.Key × L2.V)} (i : List Int), PT2 ρ H m kv → (valT m i = none ∧ L2.valV kv (i.map Sum.inl) = none) ∨ ∃ x u, valT m i = some x ∧ L2.valV kv (i.map Sum.inl) = some u ∧ RV ρ H x u
  | [], kv, i, h => by obtain rfl := h.nil_inv; exact .inl ⟨rfl, rfl⟩
  | p :: r, kv, i, h => by
    obtain ⟨u, kv', rfl, hu, t⟩ := h.cons_inv
    unfold valT
    by_cases e : p.1 = i
    · rw [if_pos e, L2.valV_pos (by rw [e])]
      exact .inr ⟨_, _, rfl, rfl, hu⟩
    · rw [if_neg e, L2.valV_neg (fun z => e (mapInl_inj z))]
      exact PT2.val i t
theorem PT2.some_eq {m : List (List Int × PV)} {kv : List (List L2.Key × L2.V)} (i : List Int) (h : PT2 ρ H m kv) : (L2.valV kv (i.map Sum.inl)).isSome = (valT m i).isSome := by
  rcases PT2.val i h with ⟨a, b⟩ | ⟨x, u, a, b, _⟩ <;> rw [a, b] <;> rfl
theorem any_valT (i : List Int) : ∀ m : List (List Int × PV), (m.any fun p => decide (p.1 = i)) = (valT m i).isSome
  | [] => rfl
  | p :: r => by
    unfold valT
    rw [List.any_cons]
    by_cases e : p.1 = i
    · rw [if_pos e, decide_eq_true e]; rfl
    · rw [if_neg e, decide_eq_false e, Bool.false_or]; exact any_valT i r
theorem PT2.repl {x : PV} {u : L2.V} (ru : RV ρ H x u) (i : List Int) : ∀ {m : List (List Int × PV)} {kv : List (List L2.Key × L2.V)}, PT2 ρ H m kv → PT2 ρ H (m.map fun p => if p.1 = i then (p.1, x) else p) (kv.map fun p => if p.1 = (i.map Sum.inl) then (p.1, u) else p)
  | [], kv, h => by obtain rfl := h.nil_inv; exact ⟨rfl, .nil⟩
  | p :: r, kv, h => by
    obtain ⟨w, kv', rfl, hw, t⟩ := h.cons_inv
    have ih := PT2.repl ru i t
    rw [List.map_cons, List.map_cons]
    by_cases e : p.1 = i
    · rw [if_pos e, if_pos (by rw [e])]; exact Pairs.cons' (p := (p.1, x)) ru ih
    · rw [if_neg e, if_neg (fun z => e (mapInl_inj z))]; exact Pairs.cons' hw ih
theorem PT2.snoc {x : PV} {u : L2.V} (ru : RV ρ H x u) (i : List Int) : ∀ {m : List (List Int × PV)} {kv : List (List L2.Key × L2.V)}, PT2 ρ H m kv → PT2 ρ H (m ++ [(i, x)]) (kv ++ [(i.map Sum.inl, u)])
  | [], kv, h => by obtain rfl := h.nil_inv; exact Pairs.cons' (p := (i, x)) ru ⟨rfl, .nil⟩
  | p :: r, kv, h => by
    obtain ⟨w, kv', rfl, hw, t⟩ := h.cons_inv
    exact Pairs.cons' hw (PT2.snoc ru i t)
theorem PT2.put {x : PV} {u : L2.V} (ru : RV ρ H x u) (i : List Int) {m : List (List Int × PV)} {kv : List (List L2.Key × L2.V)} (h : PT2 ρ H m kv) : PT2 ρ H (putT m i x) (L2.putK kv (i.map Sum.inl) u) := by
  unfold putT L2.putK
  have e : (kv.any fun p => decide (p.1 = (i.map Sum.inl))) = (m.any fun p => decide (p.1 = i)) := by
    rw [any_valT, L2.valV_any]; exact h.some_eq i
  rw [e]
  by_cases a : (m.any fun p => decide (p.1 = i)) = true
  · rw [if_pos a, if_pos a]; exact h.repl ru i
  · rw [if_neg a, if_neg a]; exact h.snoc ru i
end
section
variable {X : L2.Cx} {cm : Nat → Addr}
end
end Ws
namespace Ws
open PySem PySem.W PyProof.Rows
theorem RVs.erase {ρ : List Addr} {H : L2.Hp} : ∀ {l : List PV} {vs : List L2.V}, RVs ρ H l vs → ∀ j : Nat, RVs ρ H (l.eraseIdx j) (vs.eraseIdx j)
  | _, _, .nil, j => by simpa using RVs.nil
  | _, _, .cons h r, 0 => r
  | _, _, .cons h r, j + 1 => .cons h (RVs.erase r j)
section
variable {X : L2.Cx} {cm : Nat → Addr}
theorem ok_shr : OkOp X.K cm oShr (L2.rI (fun _ j => 0 ≤ j) fun i j => .int (i / 2 ^ j.toNat)) := okI (g := fun i j => .int (i / 2 ^ j.toNat)) (fun x y A z A' h => by
  cases x <;> cases y <;> first | (obtain ⟨c, h⟩ := guard_inv h; cases h; exact ⟨_, _, rfl, rfl, c, rfl, rfl⟩) | cases h) (fun _ _ _ _ => .int _) _ _
theorem ok_shl : OkOp X.K cm oShl (L2.rI L2.CPow fun i j => .int (i * 2 ^ j.toNat)) := okI (g := fun i j => .int (i * 2 ^ j.toNat)) (fun x y A z A' h => by
  cases x <;> cases y <;> first | (obtain ⟨c, h⟩ := guard_inv h; cases h; exact ⟨_, _, rfl, rfl, c, rfl, rfl⟩) | cases h) (fun _ _ _ _ => .int _) _ _
theorem ok_and : OkOp X.K cm oAnd (L2.rI0 fun i j => .int (Builtin.bitAnd i j)) := okI0 (g := fun i j => .int (Builtin.bitAnd i j)) (fun x y A z A' h => by
  cases x <;> cases y <;> first | (cases h; exact ⟨_, _, rfl, rfl, rfl, rfl⟩) | cases h) (fun _ _ _ _ => .int _) _ _
theorem seqIndex_ix {n : Nat} {i : Int} {j : Nat} (h : ixN n i = some j) : seqIndex? i n = some j := by
  unfold ixN at h
  unfold seqIndex?
  by_cases h0 : 0 ≤ i
  · rw [if_pos h0] at h
    by_cases h1 : i < n
    · rw [if_pos h1] at h
      simp [h1, h0, Int.not_lt.mpr h0]
      injection h
    · rw [if_neg h1] at h; cases h
  · rw [if_neg h0] at h
    by_cases h1 : -(n : Int) ≤ i
    · rw [if_pos h1] at h
      have h2 : i < 0 := by omega
      have h3 : 0 ≤ i + n := by omega
      have h4 : i + n < n := by omega
      simp [h2, h3, h4]
      injection h
    · rw [if_neg h1] at h; cases h
theorem r_popI {o e : Expr} {d u : ED} {apos cpos : Pos} (ho : L2.PE X o (EvE X.K cm d)) (he : L2.PE X e (EvE X.K cm u))
    (hb : attributeBase o "pop" X.env (eval o X.env) = eval o X.env := by rfl) (hs : starEach [e] X.env = (false, eval e X.env) :: starEach [] X.env := by rfl)
    (hfew : ((backTo cpos (starEach [e] X.env)).all (fun x => !x.1) && (backToKw cpos (keywordEach [] X.env)).all (fun x => x.1.isSome) && decide ([e].length + ([] : List Keyword).length + (if ([] : List Keyword).isEmpty then 0 else 1) < 30)) = true := by rfl)
    (hline : (apos.endLine == cpos.line) = true := by rfl) : L2.PE X (.Call (.Attribute o "pop" apos) [e] [] cpos) (EvE X.K cm (ePopI d u)) :=
  PE_imp (L2.pe_bm PySem.F.plainAttrs_list PySem.F.slot_list_pop PySem.F.type_list_pop L2.mt_popAt ho (r_cons he r_nil hs) (hbase := hb) (hfew := hfew) (hline := hline) (hs := hs)) fun σ H Q ⟨ρ, A, σp, v, A', rl, rs, ev, k⟩ => by
    obtain ⟨x, A1, e1, ev1⟩ := bnd_inv ev
    refine ⟨ρ, A, σp, x, A1, rl, rs, e1, fun ρ1 H1 v1 x1 rl1 rv1 => ?_⟩
    cases x with
    | ref n =>
      obtain ⟨l0, A2, e2, ev2⟩ := bnd_inv ev1
      obtain ⟨rfl, hA, a, xs, rfl, hn, hH, r0⟩ := mut_read rl1 rv1 e2
      refine ⟨.inl ⟨rfl, xs, L2.SqL.of hH⟩, ?_⟩
      obtain ⟨y, A3, e3, ev3⟩ := bnd_inv ev2
      refine ⟨ρ1, _, σp, [y], A3, rl1, rs.mono x1, by show bnd (u σp) _ _ = _; rw [bnd_ok e3]; rfl, fun ρ2 H2 vs2 x2 rl2 rv2 => ?_⟩
      cases rv2 with
      | cons hv hr =>
        cases hr
        cases y with
        | int i =>
          cases hv
          obtain ⟨l, A4, e4, ev4⟩ := bnd_inv ev3
          obtain ⟨rfl, hA2, a2, ys, e5, hn2, hH2, r2⟩ := mut_read rl2 (rv1.mono x2) e4
          cases e5
          rcases hj : ixN l.length i with _ | j
          · rw [hj] at ev4; cases ev4
          rw [hj] at ev4
          rcases hx : l[j]? with _ | w
          · simp only [hx] at ev4; cases ev4
          simp only [hx] at ev4
          obtain ⟨c, ev5⟩ := guard_inv ev4
          cases ev5
          obtain ⟨y, hy, ry⟩ := r2.get hx
          refine ⟨a, ys, i, j, y, rfl, rfl, hH2, c.1, c.2, by rw [← r2.length]; exact seqIndex_ix hj, hy, ?_⟩
          refine k ρ2 _ _ ((x1.trans x2).trans (Ext.put rl2 hn2 hA2 rfl)) (rl2.put hn2 hA2 rfl rfl ⟨_, L2.upd_same, ?_⟩) (ry.mono (Ext.put rl2 hn2 hA2 rfl))
          exact (r2.erase j).mono (Ext.put rl2 hn2 hA2 rfl)
        | _ => cases ev3
    | _ => cases ev1
theorem r_listRng {a : Expr} {d : ED} {p2 p3 q2 q3 : Pos} (hcalm : X.calm = true) (ha : L2.PE X a (EvE X.K cm d)) (hg2 : L2.Gl X "list") (hm2 : X.mg "list" = none) (hg3 : L2.Gl X "range") (hm3 : X.mg "range" = none)
    (hs3 : starEach [a] X.env = (false, eval a X.env) :: starEach [] X.env := by rfl)
    (hs2 : starEach [.Call (.Name "range" p3) [a] [] q3] X.env = (false, eval (.Call (.Name "range" p3) [a] [] q3) X.env) :: starEach [] X.env := by rfl) :
    L2.PE X (.Call (.Name "list" p2) [.Call (.Name "range" p3) [a] [] q3] [] q2) (EvE X.K cm (eListRng d)) := by
  intro pins s σ H Q I h
  obtain ⟨ρ, A, σp, v, A', rl, rs, ev, k⟩ := h
  obtain ⟨x, A1, e1, ev1⟩ := bnd_inv ev
  refine PyProof.Rows.Call_ (L2.ld_blt I hg2 hm2 PyProof.Rows.boot_list (PyProof.Rows.callWith_type1 (arg_one hs2 ?_) hs2 rfl))
  refine PyProof.Rows.Call_ (L2.ld_blt I hg3 hm3 PyProof.Rows.boot_range (PyProof.Rows.callWith_type1 (arg_one hs3 ?_) hs3 rfl))
  refine L2.thn (ha pins s σ H (fun v H1 => ∃ j : Int, v = .int j ∧ -(2 ^ 62) ≤ j ∧ j < 2 ^ 62 ∧ j.toNat ≤ 2 ^ 24 ∧ ∀ l, H1 l = none → Q (.ref l) (L2.upd H1 l (.lst ((List.range j.toNat).map fun k => L2.V.int (k : Nat))))) I ⟨ρ, A, σp, x, A1, rl, rs, e1, fun ρ1 H1 v1 x1 rl1 rv1 => ?_⟩) fun u s1 ⟨v, H1, I1, r1, j, ej, j1, j2, j3, q⟩ => ?_
  · cases x with
    | int j =>
      obtain ⟨c, ev2⟩ := guard_inv ev1
      cases ev2
      cases rv1
      refine ⟨j, rfl, c.1, c.2.1, c.2.2, fun D hD => ?_⟩
      have ex : Ext ρ1 H1 (ρ1 ++ [D]) (L2.upd H1 D (.lst ((List.range j.toNat).map fun k => L2.V.int (k : Nat)))) := Ext.new hD
      have key : ∀ (l : List Nat) (ρ : List Addr) (H : L2.Hp), RVs ρ H (l.map fun k => PV.int (k : Nat)) (l.map fun k => L2.V.int (k : Nat)) := fun l ρ H => by
        induction l with
        | nil => exact .nil
        | cons i r ih => exact .cons (.int _) ih
      exact k (ρ1 ++ [D]) _ _ (x1.trans ex) (rl1.alloc hD ⟨_, L2.upd_same, key _ _ _⟩ rfl) (.ref (by rw [← rl1.len]; simp))
    | _ => cases ev1
  · subst ej
    obtain ⟨t, rfl⟩ := (show ∃ t, u = Value.int j t from r1)
    refine call_range_1 ?_
    have hn : Builtin.Range.rangeSize 0 j 1 = (j.toNat : Nat) := by rw [rangeSize_one]; split <;> omega
    refine call_list_range (A := X.A) (I1.ok.hd hcalm) (IsRange.new ..) (small_one (by omega) (by omega) j1 j2) hn j3 fun h' tk acc c hk hat hacc => ?_
    have hvals : L2.Vals ((List.range j.toNat).map fun k => L2.V.int (k : Nat)) acc.toList := by
      have e : ((List.range j.toNat).map fun k => L2.V.int (k : Nat)) = ((List.range j.toNat).map fun k => ((k : Nat) : Int)).map L2.V.int := by rw [List.map_map]; rfl
      rw [e]
      refine vals_of_at (by rw [Array.length_toList, hacc.1]; simp) fun i v hv => ?_
      obtain ⟨t', ht⟩ := hacc.2 i v (by rw [← Array.getElem?_toList]; exact hv)
      have hi : i < j.toNat := by
        have := (List.getElem?_eq_some_iff.mp hv).1
        rw [Array.length_toList, hacc.1] at this; exact this
      exact ⟨(i : Int), t', by simp [hi], by rw [ht]; simp⟩
    have hge : s1.heap.objs.size ≤ (s1.heap.push { cls := .type "range", data := .fields #[.int 0 s1.toks, .int j t, .int 1 (s1.toks + 1)] }).objs.size := by rw [size_push']; exact Nat.le_succ _
    refine ⟨.ref _, _, I1.laid (t' := tk) (o := .lst ((List.range j.toNat).map fun k => L2.V.int (k : Nat))) (fun b o e2 => hk b o (Heap.get?_push_of_some _ e2)) hge ?_, rfl, q _ (I1.hok.fresh hge)⟩
    refine ⟨by rw [List.length_map, List.length_range, sizeLine_eq]; omega, acc.toList, c, hvals, ?_⟩
    rw [Array.toArray_toList]; exact hat
end
end Ws
namespace Ws
open PySem PySem.W PyProof.Rows
theorem maxI_is : ∀ (i : Int) (r : List Int), (maxI i r ∈ i :: r) ∧ ∀ x ∈ i :: r, x ≤ maxI i r
  | i, [] => ⟨by simp [maxI], by simp [maxI]⟩
  | i, j :: r => by
    unfold maxI
    by_cases hc : i < j
    · rw [if_pos hc]
      obtain ⟨h1, h2⟩ := maxI_is j r
      have h3 := h2 j List.mem_cons_self
      refine ⟨List.mem_cons_of_mem _ h1, fun x hx => ?_⟩
      rcases List.mem_cons.mp hx with e | e
      · omega
      · exact h2 x e
    · rw [if_neg hc]
      obtain ⟨h1, h2⟩ := maxI_is i r
      have h3 := h2 i List.mem_cons_self
      refine ⟨?_, fun x hx => ?_⟩
      · rcases List.mem_cons.mp h1 with e | e
        · rw [e]; simp
        · exact List.mem_cons_of_mem _ (List.mem_cons_of_mem _ e)
      · rcases List.mem_cons.mp hx with e | e
        · omega
        · rcases List.mem_cons.mp e with e | e
          · omega
          · exact h2 x (List.mem_cons_of_mem _ e)
theorem kv_at : ∀ {kvs : List (L2.Key × L2.V)} {vs : List (L2.Key × Value)}, L2.KV kvs vs → ∀ {j : Nat} {q : L2.Key × Value}, vs[j]? = some q → ∃ p, kvs[j]? = some p ∧ L2.RelV p.2 q.2 := by
  intro kvs vs r
  unfold L2.KV at r
  induction r with
  | nil => intro j q h; simp at h
  | cons h _ ih =>
    intro j q hq
    cases j with
    | zero => cases hq; exact ⟨_, rfl, h.2⟩
    | succ j => exact ih hq
section
variable {X : L2.Cx} {cm : Nat → Addr}
theorem r_maxV {o : Expr} {d : ED} {p q apos cpos : Pos} (hcalm : X.calm = true) (ho : L2.PE X o (EvE X.K cm d)) (hg : L2.Gl X "max") (hm : X.mg "max" = none)
    (hb : attributeBase o "values" X.env (eval o X.env) = eval o X.env := by rfl) (hline : (apos.endLine == cpos.line) = true := by rfl)
    (hs1 : starEach [.Call (.Attribute o "values" apos) [] [] cpos] X.env = (false, eval (.Call (.Attribute o "values" apos) [] [] cpos) X.env) :: starEach [] X.env := by rfl) :
    L2.PE X (.Call (.Name "max" p) [.Call (.Attribute o "values" apos) [] [] cpos] [] q) (EvE X.K cm (eMaxV d)) := by
  intro pins s σ H Q I h
  obtain ⟨ρ, A, σp, v, A', rl, rs, ev, k⟩ := h
  obtain ⟨x, A1, e1, ev1⟩ := bnd_inv ev
  refine Call_ (L2.ld_blt I hg hm PyProof.Rows.boot_max (callWith_builtin1 (arg_one hs1 ?_) hs1 rfl))
  refine wpAny_Call_method hb (by rfl) hline PySem.F.plainAttrs_dict PySem.F.slot_dict_values PySem.F.type_dict_values (L2.thn (ho pins s σ H (fun v H1 => ∃ (a : Addr) (kvs : List (L2.Key × L2.V)) (i : Int) (r : List Int), v = .ref a ∧ H1 a = some (.dK kvs) ∧ kvs.map (·.2) = (i :: r).map L2.V.int ∧ Q (.int (maxI i r)) H1) I ⟨ρ, A, σp, x, A1, rl, rs, e1, fun ρ1 H1 v1 x1 rl1 rv1 => ?_⟩) fun u s1 ⟨w1, H1, I1, r1, a, kvs, i, r, ew, hH, hk, qq⟩ => ?_)
  · cases x with
    | ref n =>
      obtain ⟨m, A2, e2, ev2⟩ := bnd_inv ev1
      obtain ⟨rfl, hA, a, kv, rfl, hn, hH, hp⟩ := dct_read rl1 rv1 e2
      cases hi : intsOf (m.map (·.2)) with
      | none => rw [hi] at ev2; cases ev2
      | some ns =>
        rw [hi] at ev2
        cases ns with
        | nil => cases ev2
        | cons i r =>
          cases ev2
          have hv := hp.vals
          rw [intsOf_inv hi] at hv
          exact ⟨a, kv, i, r, rfl, hH, rvs_ints hv, k ρ1 H1 _ x1 rl1 (.int _)⟩
    | _ => cases ev1
  · subst ew
    obtain rfl : u = Value.ref a := r1
    obtain ⟨z, hd, vs, rel, dd⟩ := L2.dk_of I1.hok hH
    obtain ⟨t1, t2, _⟩ := L2.isD_at I1 (.inl ⟨kvs, .inl hH⟩)
    refine ⟨t1, t2, Calls.callWith_builtin rfl (PySem.evalArgs_none ?_)⟩
    refine call_meetsIn PySem.F.slot_dict_values dd.typeIs PySem.F.entry_dict_values (PySem.F.args_dict_values_1 _) (meets_dict_values (L2.mixKind X.prog X.w) a hd) ⟨⟨vs, dd⟩, ?_⟩
    obtain ⟨ep, hat⟩ := dd.dictAt
    have hlen : vs.length = (i :: r).length := by
      rw [← rel.length]
      have := congrArg List.length hk
      simpa using this
    have hview : (s1.heap.push { cls := .type "dict_values", data := .fields #[.ref a] }).IsValuesView s1.heap.objs.size a := ⟨_, Heap.get?_push_size _ rfl, rfl, rfl⟩
    have hval : ∀ (j : Nat) (v : Value), (∃ k, vs[j]? = some (k, v)) → ∃ t : Tok, v = Value.int ((i :: r).getD j 0) t := by
      rintro j v ⟨kk, hj⟩
      obtain ⟨pp, hp1, hp2⟩ := kv_at rel hj
      have h3 : (kvs.map (·.2))[j]? = some pp.2 := by rw [List.getElem?_map, hp1]; rfl
      rw [hk, List.getElem?_map] at h3
      rcases hn : (i :: r)[j]? with _ | n
      · rw [hn] at h3; cases h3
      · rw [hn] at h3
        have h4 : L2.V.int n = pp.2 := Option.some.inj h3
        rw [← h4] at hp2
        obtain ⟨t, e⟩ := (show ∃ t, v = Value.int n t from hp2)
        exact ⟨t, by rw [e, List.getD_eq_getElem?_getD, hn]; rfl⟩
    have KK : KdlSrc X.prog X.w "dict_values" s1.heap.objs.size a vs.length (fun i v => ∃ k, vs[i]? = some (k, v)) (fun h => h.IsValuesView s1.heap.objs.size a ∧ h.DictAt (L2.mixKind X.prog X.w) a vs ep) := kdl_values
    obtain ⟨oI, St, hit, W, st⟩ := KK.iter X.A.in1 { s1 with heap := s1.heap.push { cls := .type "dict_values", data := .fields #[.ref a] } } (by simpa using I1.ok.hd hcalm) ⟨hview, hat.push _⟩
    refine call_max_walkS (hit _ _ ⟨_, _, _, _, vs.length, _, _, _, rfl, W.toS, st, fun b hb => ?_, by rw [hlen]; simp, CmpOf.ints_gt (fun j => (i :: r).getD j 0) hval, fun v s' hv hmv => ?_⟩)
    · show b < ((s1.heap.push { cls := .type "dict_values", data := .fields #[.ref a] }).push oI).objs.size
      rw [size_push']
      rcases List.mem_cons.mp hb with e | hb
      · rw [e]; exact Nat.lt_succ_self _
      · rw [List.mem_singleton.mp hb]; exact Nat.lt_succ_of_lt (KK.there _ ⟨hview, hat.push _⟩).2
    · obtain ⟨t, rfl⟩ := hval _ v hv
      obtain ⟨g1, g2⟩ := argBest_gt (fun j => (i :: r).getD j 0) (vs.length - 1)
      have m1 : (i :: r).getD (argBest (fun x y => decide ((i :: r).getD x 0 > (i :: r).getD y 0)) (vs.length - 1)) 0 = maxI i r := by
        have hl : 0 < vs.length := by rw [hlen]; simp
        have u1 : (i :: r).getD (argBest (fun x y => decide ((i :: r).getD x 0 > (i :: r).getD y 0)) (vs.length - 1)) 0 ∈ i :: r := getD_mem (by rw [← hlen]; omega)
        have u2 := (maxI_is i r).2 _ u1
        obtain ⟨j, hj, e⟩ := mem_getD (maxI_is i r).1
        have u3 := g2 j (by rw [← hlen] at hj; omega)
        rw [e] at u3
        omega
      rw [m1]
      have hkeep : ∀ b ob, s1.heap.get? b = some ob → s'.heap.get? b = some ob := fun b ob e =>
        hmv.heap b ob (fun hI => absurd (Heap.lt_size e) (by rw [List.mem_singleton.mp hI, size_push']; exact Nat.not_lt.mpr (Nat.le_succ _))) (Heap.get?_push_of_some _ (Heap.get?_push_of_some _ e))
      rw [Moved.eq_with hmv]
      exact ⟨.int (maxI i r), H1, I1.kept (h' := s'.heap) (t' := s'.toks) hkeep, ⟨t, rfl⟩, qq⟩
end
end Ws
namespace Ws
open PySem PySem.W PyProof.Rows PySem.SeqAt
open MeetsSeq MeetsSeq2 MeetsSeq3 SeqRoads2
noncomputable def LtAt (A : Around) (s : Shared) (y x : Value) (b : Bool) : Prop :=
  ∀ (prog : Program) (w : World) (E : Value → Shared → Prop) (Q : Value → Shared → Prop), Q (.bool b) s → wpAny (model prog w) A (richCompare .Lt y x) Q E s
noncomputable def ltFrom (e f : Nat → Bool) (m n : Nat) : Nat → Nat → Bool
  | _, 0 => decide (m < n)
  | i, k + 1 => if e i then ltFrom e f m n (i + 1) k else f i
theorem lt_loop (l b : Addr) (items items2 : Array Value) (n n2 : Nat) (dd dd2 : Option Addr) (sl sl2 : Array (Option Value)) (e f : Nat → Bool) (k : Nat) :
    ∀ i : Nat, min items.size items2.size - i = k → i ≤ min items.size items2.size → Meets (Builtin.«list.__eq__.loop» ⟨[.ref l, .ref b, rawInt i, rawInt 0], []⟩)
      (fun A R s => s.heap.get? l = some { cls := .type "list", dict := dd, data := .seq items n, slots := sl } ∧ s.heap.get? b = some { cls := .type "list", dict := dd2, data := .seq items2 n2, slots := sl2 } ∧
        (∀ j (h1 : j < items.size) (h2 : j < items2.size), EqAt A.in1 s items[j] items2[j] (e j)) ∧ (∀ j (h1 : j < items.size) (h2 : j < items2.size), e j = false → LtAt A.in1 s items[j] items2[j] (f j)) ∧
        R (.ok (.ret (.bool (ltFrom e f items.size items2.size i k)))) s) := by
  induction k with
  | zero =>
    intro i hk hi prog w A R s h
    obtain ⟨hp, g, d, tk, os⟩ := s; obtain ⟨hl, hb, he, hf, h⟩ := h
    have hz : items[((i : Nat) : Int).toNat]? = none ∨ items2[((i : Nat) : Int).toNat]? = none := by
      rcases Nat.le_total items.size items2.size with z | z
      · exact .inl (by simp; omega)
      · exact .inr (by simp; omega)
    wp_walk using AutoSeq1.wpAny_loadPart' hl, AutoSeq1.wpAny_loadPart' hb
    rcases hz with z | z
    · rw [z]
      wp_walk using AutoSeq1.wpAny_loadPart' hl, AutoSeq1.wpAny_loadPart' hb
      exact h
    · rw [z]
      cases hx : items[((i : Nat) : Int).toNat]? <;>
      · wp_walk using AutoSeq1.wpAny_loadPart' hl, AutoSeq1.wpAny_loadPart' hb
        exact h
  | succ k ih =>
    intro i hk hi prog w A R s h
    obtain ⟨hp, g, d, tk, os⟩ := s; obtain ⟨hl, hb, he, hf, h⟩ := h
    wp_walk using AutoSeq1.wpAny_loadPart' hl, AutoSeq1.wpAny_loadPart' hb
    have hlt : i < items.size := by omega
    have hlt2 : i < items2.size := by omega
    have hi1 : items[((i : Nat) : Int).toNat]? = some items[i] := by simp [hlt]
    have hi2 : items2[((i : Nat) : Int).toNat]? = some items2[i] := by simp [hlt2]
    have hc : ((i : Int) + 1) = ((i + 1 : Nat) : Int) := by push_cast; rfl
    rw [hi1, hi2]
    refine wpAny_bind (he i hlt hlt2 prog w _ _ ?_)
    cases hb' : e i with
    | true =>
      have h' : R (.ok (.ret (.bool (ltFrom e f items.size items2.size (i + 1) k)))) ⟨hp, g, d, tk, os⟩ := by
        have h0 : R (.ok (.ret (.bool (if e i then ltFrom e f items.size items2.size (i + 1) k else f i)))) ⟨hp, g, d, tk, os⟩ := h
        rw [hb'] at h0; exact h0
      wp_walk
      rw [hc]
      exact ⟨plainId_quiet plain_eq_loop _, codeAny_builtin entry_eq_loop (by
        rw [Around.under_plainId plain_eq_loop _]
        exact ih (i + 1) (by omega) (by omega) prog w A R _ ⟨hl, hb, he, hf, h'⟩)⟩
    | false =>
      have h' : R (.ok (.ret (.bool (f i)))) ⟨hp, g, d, tk, os⟩ := by
        have h0 : R (.ok (.ret (.bool (if e i then ltFrom e f items.size items2.size (i + 1) k else f i)))) ⟨hp, g, d, tk, os⟩ := h
        rw [hb'] at h0; exact h0
      wp_walk using AutoSeq1.wpAny_loadPart' hl, AutoSeq1.wpAny_loadPart' hb
      rw [hi1, hi2]
      dsimp only
      refine wpAny_bind (hf i hlt hlt2 hb' prog w _ _ ?_)
      wp_walk
      exact h'
theorem list_lt (l b : Addr) (items items2 : Array Value) (n n2 : Nat) (dd dd2 : Option Addr) (sl sl2 : Array (Option Value)) (e f : Nat → Bool) :
    Meets (Builtin.«list.__lt__» ⟨[.ref l, .ref b], []⟩)
      (fun A R s => s.heap.get? l = some { cls := .type "list", dict := dd, data := .seq items n, slots := sl } ∧ s.heap.get? b = some { cls := .type "list", dict := dd2, data := .seq items2 n2, slots := sl2 } ∧
        (∀ j (h1 : j < items.size) (h2 : j < items2.size), EqAt A.in1 s items[j] items2[j] (e j)) ∧ (∀ j (h1 : j < items.size) (h2 : j < items2.size), e j = false → LtAt A.in1 s items[j] items2[j] (f j)) ∧
        R (.ok (.ret (.bool (ltFrom e f items.size items2.size 0 (min items.size items2.size))))) s) := by
  intro prog w A R s h
  obtain ⟨hp, g, d, tk, os⟩ := s; obtain ⟨hl, hb, he, hf, h⟩ := h
  have f3 := AutoSeq1.sub_list_list
  wp_walk using AutoSeq1.wpAny_loadPart' hl, AutoSeq1.wpAny_loadPart' hb
  exact ⟨plainId_quiet plain_eq_loop _, codeAny_builtin entry_eq_loop (by
    rw [Around.under_plainId plain_eq_loop _]
    exact lt_loop l b items items2 n n2 dd dd2 sl sl2 e f _ 0 (by omega) (Nat.zero_le _) prog w A R _ ⟨hl, hb, he, hf, h⟩)⟩
theorem LtAt.lists {A : Around} {s : Shared} {l b : Addr} {items items2 : Array Value} {e f : Nat → Bool} (hl : s.heap.IsList l items) (hb : s.heap.IsList b items2) (hu : A.units < cLine)
    (he : ∀ j (h1 : j < items.size) (h2 : j < items2.size), EqAt A.in1 s items[j] items2[j] (e j)) (hf : ∀ j (h1 : j < items.size) (h2 : j < items2.size), e j = false → LtAt A.in1 s items[j] items2[j] (f j)) : LtAt A s (.ref l) (.ref b) (ltFrom e f items.size items2.size 0 (min items.size items2.size)) := fun prog w E Q h => by
  obtain ⟨⟨cls, dd, data, sl⟩, ho, hc, n, hd⟩ := id hl
  obtain ⟨⟨cls2, dd2, data2, sl2⟩, ho2, hc2, n2, hd2⟩ := id hb
  simp only at hc hd hc2 hd2
  subst hc hd hc2 hd2
  exact richCompare_meets_room (op := .Lt) ⟨_, ho, rfl⟩ ⟨_, ho2, rfl⟩ F.slot_list_lt F.entry_list_lt (F.args_list_lt_2 _ _) (list_lt l b items items2 n n2 dd dd2 sl sl2 e f)
    ⟨ho, ho2, he, hf, show Value.bool _ ≠ Value.notImplemented ∧ Q (.bool _) s from ⟨(fun x => nomatch x), h⟩⟩ hu
theorem LtAt.ints (A : Around) (s : Shared) (i j : Int) (t u : Tok) : LtAt A s (.int i t) (.int j u) (decide (i < j)) := fun prog w E Q h => by
  show wpAny _ _ (compareOp .Lt (.int i t) (.int j u)) _ _ _
  exact lt_int h
theorem tuple_lt2 (l b : Addr) (x0 x1 y0 y1 : Value) (n n2 : Nat) (dd dd2 : Option Addr) (sl sl2 : Array (Option Value)) (e0 e1 b0 b1 : Bool) :
    Meets (Builtin.«tuple.__lt__» ⟨[.ref l, .ref b], []⟩)
      (fun A R s => s.heap.get? l = some { cls := .type "tuple", dict := dd, data := .seq #[x0, x1] n, slots := sl } ∧ s.heap.get? b = some { cls := .type "tuple", dict := dd2, data := .seq #[y0, y1] n2, slots := sl2 } ∧
        EqAt A.in1 s x0 y0 e0 ∧ (e0 = false → LtAt A.in1 s x0 y0 b0) ∧ (e0 = true → EqAt A.in1 s x1 y1 e1) ∧ (e0 = true → e1 = false → LtAt A.in1 s x1 y1 b1) ∧
        R (.ok (.ret (.bool (if e0 then (if e1 then false else b1) else b0)))) s) :=
  .of_wp fun prog w A R s h => by
    obtain ⟨hp, g, d, tk, os⟩ := s; obtain ⟨hl, hb, h0, h1, h2, h3, h⟩ := h
    have f2 := AutoSeq1.sub_tuple_tuple
    wp_walk using AutoSeq1.wpAny_loadPart' hl, AutoSeq1.wpAny_loadPart' hb, wpAny_forIn_list _ (fun rest b s' => b.1 = none ∧ s' = ⟨hp, g, d, tk, os⟩ ∧ ((rest = [(x0, y0), (x1, y1)]) ∨ (rest = [(x1, y1)] ∧ e0 = true) ∨ (rest = [] ∧ e0 = true ∧ e1 = true))) _
    case turn =>
      rintro ⟨y, x⟩ rest b s' ⟨hb', rfl, hz⟩
      rcases hz with hz | ⟨hz, he⟩ | ⟨hz, _⟩
      · injection hz with hyx hrest
        injection hyx with e1 e2
        subst e1 e2 hrest
        refine wpAny_bind (h0 prog w _ _ ?_)
        cases he0 : e0 with
        | true =>
          wp_walk
          exact ⟨rfl, rfl, .inr (.inl ⟨rfl, rfl⟩)⟩
        | false =>
          rw [he0] at h
          simp only [Bool.not_false, if_true]
          refine wpAny_bind (wpAny_rule ?_)
          refine wpAny_bind (h1 he0 prog w _ _ ?_)
          wp_walk
          exact ⟨_, rfl, h⟩
      · injection hz with hyx hrest
        injection hyx with e1' e2'
        subst e1' e2' hrest
        refine wpAny_bind (h2 he prog w _ _ ?_)
        cases he1 : e1 with
        | true =>
          wp_walk
          exact ⟨rfl, rfl, .inr (.inr ⟨rfl, he, rfl⟩)⟩
        | false =>
          rw [he, he1] at h
          simp only [Bool.not_false, if_true]
          refine wpAny_bind (wpAny_rule ?_)
          refine wpAny_bind (h3 he he1 prog w _ _ ?_)
          wp_walk
          exact ⟨_, rfl, h⟩
      · cases hz
    case fin =>
      rintro ⟨b1', b2'⟩ s' ⟨hb', rfl, hz⟩
      simp only at hb'
      subst hb'
      rcases hz with hz | ⟨hz, he⟩ | ⟨_, he, he1⟩
      · cases hz
      · cases hz
      · rw [he, he1] at h
        wp_walk
        exact ⟨_, rfl, by simpa [Builtin.Tuple.tupleCompareSizes] using h⟩
    case h =>
      exact ⟨rfl, rfl, .inl rfl⟩
theorem LtAt.tuples {A : Around} {s : Shared} {l b : Addr} {x0 x1 y0 y1 : Value} {e0 e1 b0 b1 : Bool} (hl : s.heap.IsTuple l #[x0, x1]) (hb : s.heap.IsTuple b #[y0, y1]) (hu : A.units < cLine)
    (h0 : EqAt A.in1 s x0 y0 e0) (h1 : e0 = false → LtAt A.in1 s x0 y0 b0) (h2 : e0 = true → EqAt A.in1 s x1 y1 e1) (h3 : e0 = true → e1 = false → LtAt A.in1 s x1 y1 b1) : LtAt A s (.ref l) (.ref b) (if e0 then (if e1 then false else b1) else b0) := fun prog w E Q h => by
  obtain ⟨⟨cls, dd, data, sl⟩, ho, hc, n, hd⟩ := id hl
  obtain ⟨⟨cls2, dd2, data2, sl2⟩, ho2, hc2, n2, hd2⟩ := id hb
  simp only at hc hd hc2 hd2
  subst hc hd hc2 hd2
  exact richCompare_meets_room (op := .Lt) ⟨_, ho, rfl⟩ ⟨_, ho2, rfl⟩ F.slot_tuple_lt F.entry_tuple_lt (F.args_tuple_lt_2 _ _) (tuple_lt2 l b x0 x1 y0 y1 n n2 dd dd2 sl sl2 e0 e1 b0 b1)
    ⟨ho, ho2, h0, h1, h2, h3, show Value.bool _ ≠ Value.notImplemented ∧ Q (.bool _) s from ⟨(fun x => nomatch x), h⟩⟩ hu
theorem ltFrom_lex : ∀ (k i : Nat) (a b : List Int), min a.length b.length - i = k → i ≤ min a.length b.length → ltFrom (fun j => decide (a.getD j 0 = b.getD j 0)) (fun j => decide (a.getD j 0 < b.getD j 0)) a.length b.length i k = lexLt (a.drop i) (b.drop i)
  | 0, i, a, b, hk, hi => by
    show decide (a.length < b.length) = _
    rcases Nat.lt_or_ge a.length b.length with z | z
    · have e1 : a.drop i = [] := List.drop_eq_nil_of_le (by omega)
      obtain ⟨y, ys, e2⟩ : ∃ y ys, b.drop i = y :: ys := by
        cases h : b.drop i with
        | nil => have := List.drop_eq_nil_iff.mp h; omega
        | cons y ys => exact ⟨y, ys, rfl⟩
      rw [e1, e2, decide_eq_true z]; rfl
    · have e1 : b.drop i = [] := List.drop_eq_nil_of_le (by omega)
      rw [e1, decide_eq_false (by omega)]
      cases a.drop i <;> rfl
  | k + 1, i, a, b, hk, hi => by
    have h1 : i < a.length := by omega
    have h2 : i < b.length := by omega
    rw [List.drop_eq_getElem_cons h1, List.drop_eq_getElem_cons h2]
    show (if decide (a.getD i 0 = b.getD i 0) = true then ltFrom _ _ a.length b.length (i + 1) k else decide (a.getD i 0 < b.getD i 0)) = (if a[i] = b[i] then lexLt (a.drop (i + 1)) (b.drop (i + 1)) else decide (a[i] < b[i]))
    rw [ltFrom_lex k (i + 1) a b (by omega) (by omega)]
    have g1 : a.getD i 0 = a[i] := by simp [h1]
    have g2 : b.getD i 0 = b[i] := by simp [h2]
    rw [g1, g2]
    by_cases e : a[i] = b[i]
    · rw [if_pos e, if_pos (decide_eq_true e)]
    · rw [if_neg e, if_neg (by simpa using e)]
section
variable {X : L2.Cx} {cm : Nat → Addr} {pins : List (Addr × Obj)} {σ : L2.St} {H : L2.Hp} {s : Shared}
theorem eqAt_int (A : Around) (s : Shared) (i j : Int) (t u : Tok) : EqAt A s (.int i t) (.int j u) (decide (i = j)) :=
  eqAt0 (ρ := []) (H := fun _ => none) (x := .int i) (y := .int j) (.int i) (.int j) rfl rfl ⟨t, rfl⟩ ⟨u, rfl⟩
theorem int_get {its : List Value} {ns : List Int} (h : IntsAre its ns) {j : Nat} (hj : j < its.toArray.size) : ∃ t, its.toArray[j] = .int (ns.getD j 0) t :=
  IntsAre.int_at h j _ (by rw [List.size_toArray] at hj; rw [List.getElem?_eq_getElem hj]; simp)
theorem all_eq {a b : List Int} (h : a.length = b.length) : ((List.range a.length).all fun j => decide (a.getD j 0 = b.getD j 0)) = decide (a = b) := by
  by_cases e : a = b
  · subst e; simp
  · rw [decide_eq_false e]
    rw [List.all_eq_false]
    refine Classical.byContradiction fun hn => e (List.ext_getElem h fun j h1 h2 => ?_)
    refine Classical.byContradiction fun z => hn ⟨j, List.mem_range.mpr h1, ?_⟩
    simp [h1, h2, z]
theorem eqAt_lists {A : Around} {l b : Addr} {la lb : List Int} {its its2 : List Value} (hl : s.heap.IsList l its.toArray) (hb : s.heap.IsList b its2.toArray) (i1 : IntsAre its la) (i2 : IntsAre its2 lb) (hu : A.units < cLine) (hsame : l = b → la = lb) : EqAt A s (.ref l) (.ref b) (decide (la = lb)) := by
  by_cases e : l = b
  · subst e
    rw [decide_eq_true (hsame rfl)]; exact EqAt.same _
  · refine EqAt.of_refs e ?_
    have z1 : its.toArray.size = la.length := by rw [List.size_toArray]; exact i1.length
    have z2 : its2.toArray.size = lb.length := by rw [List.size_toArray]; exact i2.length
    by_cases hlen : la.length = lb.length
    · have h := RcAt.lists (A := A) (s := s) (e := fun j => decide (la.getD j 0 = lb.getD j 0)) hl hb (by rw [z1, z2, hlen]) hu (fun j h1 h2 => by
        obtain ⟨t, e1⟩ := int_get i1 h1
        obtain ⟨u, e2⟩ := int_get i2 h2
        rw [e1, e2]
        exact eqAt_int _ _ _ _ _ _)
      rw [z1, all_eq hlen] at h; exact h
    · rw [decide_eq_false (fun z => hlen (by rw [z]))]
      exact RcAt.lists_lengths hl hb (by rw [z1, z2]; exact bne_iff_ne.mpr hlen) hu
theorem ltAt_lists {A : Around} {l b : Addr} {la lb : List Int} {its its2 : List Value} (hl : s.heap.IsList l its.toArray) (hb : s.heap.IsList b its2.toArray) (i1 : IntsAre its la) (i2 : IntsAre its2 lb) (hu : A.units < cLine) : LtAt A s (.ref l) (.ref b) (lexLt la lb) := by
  have z1 : its.toArray.size = la.length := by rw [List.size_toArray]; exact i1.length
  have z2 : its2.toArray.size = lb.length := by rw [List.size_toArray]; exact i2.length
  have h := LtAt.lists (A := A) (s := s) (e := fun j => decide (la.getD j 0 = lb.getD j 0)) (f := fun j => decide (la.getD j 0 < lb.getD j 0)) hl hb hu (fun j h1 h2 => by
      obtain ⟨t, e1⟩ := int_get i1 h1
      obtain ⟨u, e2⟩ := int_get i2 h2
      rw [e1, e2]
      exact eqAt_int _ _ _ _ _ _) (fun j h1 h2 _ => by
      obtain ⟨t, e1⟩ := int_get i1 h1
      obtain ⟨u, e2⟩ := int_get i2 h2
      rw [e1, e2]
      exact LtAt.ints _ _ _ _ _ _)
  rw [z1, z2, ltFrom_lex _ 0 la lb (by omega) (Nat.zero_le _)] at h
  exact h
noncomputable def rLtL (K : PySem.W.Frag) : L2.R2 := fun x y H Q => ∃ (a b l m : Addr) (i j : Int) (la lb : List Int), x = .ref a ∧ y = .ref b ∧ H a = some (.tup [.int i, .ref l]) ∧ H b = some (.tup [.int j, .ref m]) ∧ L2.SqL K H l (la.map L2.V.int) ∧ L2.SqL K H m (lb.map L2.V.int) ∧ (l = m → la = lb) ∧ Q (.bl (if i = j then lexLt la lb else decide (i < j))) H
theorem op_ltL (hr : X.A.units + 64 < cLine) : L2.OpR X (compareOp .Lt) (rLtL X.K) := by
  intro pins s σ H x y v u Q I rx ry q
  obtain ⟨a, b, l, m, i, j, la, lb, rfl, rfl, ha, hb, hl, hm, hsame, q⟩ := q
  cases rx; cases ry
  obtain ⟨_, its, ri, pi⟩ := I.hok _ _ ha
  obtain ⟨_, its2, ri2, pi2⟩ := I.hok _ _ hb
  obtain ⟨w0, w1, rfl, r0, r1⟩ := L2.vals2 ri
  obtain ⟨v0, v1, rfl, s0, s1⟩ := L2.vals2 ri2
  obtain ⟨t, rfl⟩ := (show ∃ t, w0 = Value.int i t from r0)
  obtain ⟨t', rfl⟩ := (show ∃ t, v0 = Value.int j t from s0)
  cases r1; cases s1
  obtain ⟨ls, rl, pl, _⟩ := I.list hl
  obtain ⟨ms, rm, pm, _⟩ := I.list hm
  have k1 : IntsAre ls la := L2.intsAre_of rl
  have k2 : IntsAre ms lb := L2.intsAre_of rm
  have key := LtAt.tuples (A := X.A) (s := s) (e0 := decide (i = j)) (e1 := decide (la = lb)) (b0 := decide (i < j)) (b1 := lexLt la lb) pi pi2 (by omega) (eqAt_int _ _ _ _ _ _) (fun _ => LtAt.ints _ _ _ _ _ _)
    (fun _ => eqAt_lists pl.isList pm.isList k1 k2 (by have := in1_units X.A 0 (by omega); omega) hsame) (fun _ _ => ltAt_lists pl.isList pm.isList k1 k2 (by have := in1_units X.A 0 (by omega); omega))
  have e : (if decide (i = j) = true then (if decide (la = lb) = true then false else lexLt la lb) else decide (i < j)) = if i = j then lexLt la lb else decide (i < j) := by
    by_cases h : i = j
    · rw [if_pos h, if_pos (decide_eq_true h)]
      by_cases h2 : la = lb
      · subst h2
        rw [if_pos (decide_eq_true rfl)]
        cases hx : lexLt la la with
        | false => rfl
        | true => have := lex_asym la la hx; rw [hx] at this; cases this
      · rw [if_neg (by simpa using h2)]
    · rw [if_neg h, if_neg (by simpa using h)]
  rw [e] at key
  exact key _ _ _ _ ⟨.bl _, H, I, rfl, q⟩
theorem ok_ltL : OkOp X.K cm oLtL (rLtL X.K) := fun ρ B H x y z B' vx vy Q rl rx ry ev k => by
  cases x with
  | tup lx =>
    match lx, rx, ev with
    | [.int i, .ref n], rx, ev =>
      cases y with
      | tup ly =>
        match ly, ry, ev with
        | [.int j, .ref n'], ry, ev =>
          cases rx with
          | tup ha r1 =>
            cases ry with
            | tup hb r2 =>
              obtain ⟨l, B1, e1, ev1⟩ := bnd_inv ev
              obtain ⟨m, B2, e2, ev2⟩ := bnd_inv ev1
              cases r1 with
              | cons h1 r1 =>
                cases h1
                cases r1 with
                | cons h1' r1 =>
                  cases r1
                  cases r2 with
                  | cons h2 r2 =>
                    cases h2
                    cases r2 with
                    | cons h2' r2 =>
                      cases r2
                      obtain ⟨rfl, hA, a, xs, rfl, hn, hH, r0⟩ := mut_read rl h1' e1
                      obtain ⟨rfl, hA2, a2, ys, rfl, hn2, hH2, r0'⟩ := mut_read rl h2' e2
                      cases hi : intsOf l with
                      | none => rw [hi] at ev2; cases ev2
                      | some la =>
                        cases hj : intsOf m with
                        | none => rw [hi, hj] at ev2; cases ev2
                        | some lb =>
                          rw [hi, hj] at ev2
                          cases ev2
                          rw [intsOf_inv hi] at r0
                          rw [intsOf_inv hj] at r0'
                          have x1 := rvs_ints r0
                          have x2 := rvs_ints r0'
                          refine ⟨_, _, a, a2, i, j, la, lb, rfl, rfl, ha, hb, by rw [← x1]; exact L2.SqL.of hH, by rw [← x2]; exact L2.SqL.of hH2, fun e => ?_, k ρ H _ (Ext.refl _ _) rl (.bl _)⟩
                          subst e
                          rw [hH] at hH2
                          cases hH2
                          rw [x1] at x2
                          exact (List.map_inj_right fun _ _ z => L2.V.int.inj z).mp x2
      | _ => cases ev
  | _ => cases y <;> cases ev
end
end Ws
namespace Ws
open PySem PySem.W PyProof.Rows
theorem keys_miss : typeLookup (.type "list") "keys" = pure none := by rw [typeLookup_type, builtinLookup_eq_fast]; kernel_rfl
theorem getAttrQ_miss {prog : Program} {w : World} {A : Around} {E : Value → Shared → Prop} {s : Shared} {a : Addr} {o : Obj} {xs : Array Value} {k : Nat} {name : Str} {Q : Option Value → Shared → Prop}
    (hx : s.heap.get? a = some o) (hc : o.cls = .type "list") (hdat : o.data = .seq xs k) (hd : o.dict = none) (hmiss : typeLookup (.type "list") name = pure none) (hname : (["__module__", "__name__", "__qualname__", "__doc__", "__annotations__"] : List Str).contains name = false) (hA : A.handled = none)
    (h : ∀ h' tk e, Heap.NewExcOf s.heap h' e "AttributeError" → Q none { s with heap := h', toks := tk }) (hsz : name.length + 100 ≤ sizeLine := by size_fits) :
    wpAny (model prog w) A (getAttr? (.ref a) name) Q E s := by
  obtain ⟨c, dct, dat, sl⟩ := o
  simp only at hc hdat hd
  subst hc hdat hd
  obtain ⟨hp, g, d, tk, os⟩ := s
  have hT : ∀ tk', (⟨hp, g, d, tk', os⟩ : Shared).TypeIs (.ref a) "list" := fun _ => ⟨_, hx, rfl⟩
  have f1 := sub_AttributeError
  have f3 := F.slot_list_getattribute.lookup
  have f4 := F.slot_list_getattribute.bind (.ref a)
  have f5 := am_list_getattr_none
  unfold getAttr? getAttrBy? getAttrBy
  repeat (any_goals (first | assumption | exact hT _ | ((with_reducible show wpAny _ _ (call (Value.builtin "list.__getattribute__") _ _) _ _ _); refine call_meets F.slot_list_getattribute (hT _) am_entry_list_getattribute (F.args_list_getattribute_2 _ _) (meets_getattribute_miss_list a xs k sl name _ hmiss hname hsz) ⟨hx, hA, fun h' tk' e hx' => ?_⟩) | wp_step))
  obtain ⟨t', u', he⟩ := hx'.there
  show wpAny _ _ (getattributeRaised _ _ _ _ _ _ _) _ _ _
  unfold getattributeRaised
  repeat (any_goals (first | assumption | wp_step))
  exact h _ _ _ hx'.of
theorem upd_entry : entryFor table "dict.update.loop" = some Builtin.«dict.update.loop» := entryFor_of_tree (by kernel_rfl)
theorem upd_plain : plainId "dict.update.loop" = true := by decide +kernel
noncomputable def foldS {K : Type} [DecidableEq K] (ws : List (K × Value)) : List (K × Value) := ws.foldl (fun acc p => stored acc p.1 p.2) []
theorem foldS_snoc {K : Type} [DecidableEq K] (ws : List (K × Value)) (p : K × Value) : foldS (ws ++ [p]) = stored (foldS ws) p.1 p.2 := by
  unfold foldS; rw [List.foldl_append]; rfl
theorem foldS_len {K : Type} [DecidableEq K] (ws : List (K × Value)) : (foldS ws).length ≤ ws.length := by
  have key : ∀ (l acc : List (K × Value)), (l.foldl (fun acc p => stored acc p.1 p.2) acc).length ≤ acc.length + l.length := by
    intro l
    induction l with
    | nil => intro acc; simp
    | cons p l ih =>
      intro acc
      have h1 := ih (stored acc p.1 p.2)
      have h2 := stored_length_le acc p.1 p.2
      simp only [List.foldl_cons, List.length_cons]
      omega
  simpa [foldS] using key ws []
section
variable {prog : Program} {w : World} {A : Around} {R : Result → Shared → Prop} {E : Value → Shared → Prop} {s : Shared}
theorem upd_loop {K : Type} [DecidableEq K] {knd : KeyKind prog w K} {I D : Addr} {fp wr : List Addr} {G : Array GenState → Array GenState → Prop} {P : Nat → Value → Prop} {St : Nat → Shared → Prop} {ws : List (K × Value)}
    (W : WalksS prog w A.in1 I fp wr G ws.length P St) (hDf : D ∉ fp) (res : Value) (tp : Nat → Addr) (htp : ∀ i v, P i v → v = .ref (tp i)) (hne : ∀ i, i < ws.length → tp i ≠ D ∧ tp i ∉ wr) (hz : ws.length ≤ sizeLine) :
    ∀ (k i : Nat) (s : Shared), ws.length - i = k → i ≤ ws.length → St i s → s.heap.DictOf knd D (foldS (ws.take i)) →
      (∀ j (hj : j < ws.length), ∃ kv, s.heap.IsTuple (tp j) #[kv, ws[j].2] ∧ knd.is ws[j].1 kv = true) →
      (∀ s', Moved (D :: wr) G s s' → s'.heap.DictOf knd D (foldS ws) → R (.ok (.ret res)) s') →
      codeAny (model prog w) A (.builtin "dict.update.loop" ⟨[.ref D, .ref I, rawInt i, res], []⟩) R s := by
  have hDw : D ∉ wr := fun h => hDf (W.sub _ h)
  have hsub : ∀ b ∈ wr, b ∈ D :: wr := fun b hb => List.mem_cons_of_mem _ hb
  intro k
  induction k with
  | zero =>
    intro i s hk hi hst hD htup hR
    have hin : i = ws.length := by omega
    subst hin
    rw [List.take_length] at hD
    refine codeAny_builtin upd_entry ?_
    rw [Around.under_plainId upd_plain _]
    show wpAny _ A.in1 (pyNext (.ref I) >>= _) _ _ s
    refine wpAny_bind (W.done s _ _ hst fun s' hm => ?_)
    show wpAny _ A.in1 (Builtin.Dict.addKeywords D [] >>= _) _ _ s'
    refine wpAny_bind (wpAny_pure ?_)
    refine wpAny_pure (hR s' (hm.mono hsub) ?_)
    obtain ⟨o, es, ep, ho, r⟩ := hD
    exact ⟨o, es, ep, hm.heap D o hDw ho, r⟩
  | succ k ih =>
    intro i s hk hi hst hD htup hR
    have hlt : i < ws.length := by omega
    refine codeAny_builtin upd_entry ?_
    rw [Around.under_plainId upd_plain _]
    show wpAny _ A.in1 (pyNext (.ref I) >>= _) _ _ s
    refine wpAny_bind (W.item i s _ _ hlt hst fun v s' hP hst' hm => ?_)
    obtain rfl := htp i v hP
    have hD' : s'.heap.DictOf knd D (foldS (ws.take i)) := by
      obtain ⟨o, es, ep, ho, r⟩ := hD
      exact ⟨o, es, ep, hm.heap D o hDw ho, r⟩
    have htup' : ∀ j (hj : j < ws.length), ∃ kv, s'.heap.IsTuple (tp j) #[kv, ws[j].2] ∧ knd.is ws[j].1 kv = true := by
      intro j hj
      obtain ⟨kv, ⟨o, ho, r⟩, h2⟩ := htup j hj
      exact ⟨kv, ⟨o, hm.heap _ o (hne j hj).2 ho, r⟩, h2⟩
    obtain ⟨kv, ⟨ot, hot, hct, nt, hdt⟩, hkey⟩ := htup' i hlt
    have hT : s'.TypeIs (.ref (tp i)) "tuple" := ⟨ot, hot, hct⟩
    show wpAny _ A.in1 (holding [Value.ref (tp i)] _ >>= _) _ _ s'
    refine wpAny_bind (wpAny_holding ?_)
    refine wpAny_bind (wpAny_tryCatch ?_)
    unfold Builtin.Dict.pairItems
    refine wpAny_bind (wpAny_typeOf hT ?_)
    rw [if_pos (by decide)]
    refine wpAny_bind (wpAny_seqItems hot hdt ?_)
    refine wpAny_pure ?_
    show wpAny _ A.in1 (holding [kv, ws[i].2] (dictSet D kv ws[i].2)) _ _ s'
    refine wpAny_holding ?_
    refine wpAny_dictSet_pairs hkey hD' (fun h' hD2 hsb => ?_) (by have := foldS_len (ws.take i); have : (ws.take i).length ≤ ws.length := (by rw [List.length_take]; omega); omega)
    have htk : ws.take (i + 1) = ws.take i ++ [ws[i]] := by rw [List.take_succ, List.getElem?_eq_getElem hlt]; rfl
    have hc : ((i : Int) + 1) = ((i + 1 : Nat) : Int) := by push_cast; rfl
    show wpAny _ A.in1 (again (.builtin "dict.update.loop" ⟨[.ref D, .ref I, rawInt ((i : Int) + 1), res], []⟩)) _ _ _
    rw [hc]
    refine wpAny_pure ⟨plainId_quiet upd_plain _, ih (i + 1) _ (by omega) hlt (W.frame _ s' _ _ hst' (Nat.le_succ _) fun b hb o e => ?_) (by rw [htk, foldS_snoc]; exact hD2) (fun j hj => ?_) fun s'' hm'' hD'' => ?_⟩
    · rw [hsb.2 b (fun h : b = D => hDf (by rw [← h]; exact hb))]; exact e
    · obtain ⟨kv, ⟨o, ho, r⟩, h2⟩ := htup' j hj
      exact ⟨kv, ⟨o, by rw [hsb.2 _ (hne j hj).1]; exact ho, r⟩, h2⟩
    · refine hR s'' (Moved.trans W.gtrans ((hm.mono hsub).then_heap (Nat.le_succ _) fun b o hb e => ?_) hm'') hD''
      rw [hsb.2 b (fun h : b = D => hb (by rw [h]; exact List.mem_cons_self))]; exact e
theorem call_dict_pairs {K : Type} [DecidableEq K] {knd : KeyKind prog w K} {l : Addr} {items : Array Value} {ws : List (K × Value)} {Q : Value → Shared → Prop} (hh : A.handled = none) (hl : PlainL s.heap l items) (tp : Nat → Addr) (hsz : items.size = ws.length) (hz : ws.length ≤ sizeLine)
    (hit : ∀ j (hj : j < ws.length), items[j]? = some (.ref (tp j)) ∧ ∃ kv, s.heap.IsTuple (tp j) #[kv, ws[j].2] ∧ knd.is ws[j].1 kv = true)
    (h : ∀ h' tk, h'.DictOf knd s.heap.objs.size (foldS ws) → (∀ b o, s.heap.get? b = some o → h'.get? b = some o) → Q (.ref s.heap.objs.size) { s with heap := h', toks := tk }) :
    wpAny (model prog w) A (call (.type "dict") [.ref l]) Q E s := by
  refine callType_codes (Q₁ := fun obj s₁ => obj = .ref s.heap.objs.size ∧ s₁ = { s with heap := s.heap.push { cls := .type "dict", data := .dict #[] } }) PySem.F.kt_called_dict (PySem.F.kt_typeCall_dict_1 _) PySem.F.entry_dict_init (kt_code_dict_new _ ⟨rfl, rfl⟩) ?_
  rintro obj s₁ ⟨rfl, rfl⟩
  have hnew : (s.heap.push { cls := .type "dict", data := .dict #[] }).DictOf knd s.heap.objs.size [] := Heap.DictOf.new s.heap
  obtain ⟨ol, n, hlo, hlc, hld, hldat⟩ := id hl
  have hlo' : (s.heap.push { cls := .type "dict", data := .dict #[] }).get? l = some _ := Heap.get?_push_of_some _ hlo
  have hT : Shared.TypeIs { s with heap := s.heap.push { cls := .type "dict", data := .dict #[] } } (.ref l) "list" := ⟨_, hlo', hlc⟩
  refine ⟨hnew.typeIs, PySem.F.args_dict_init_2 _ _, ?_⟩
  unfold Builtin.«dict.__init__»
  refine wpAny_bind ?_
  unfold Builtin.Dict.selfAndRest
  refine wpAny_bind (wpAny_notOrdered_dict hnew.typeIs ?_)
  show wpAny _ _ (pure (s.heap.objs.size, [Value.ref l])) _ _ _
  refine wpAny_pure ?_
  show wpAny _ _ (Builtin.Dict.updateFrom "dict.__init__" s.heap.objs.size (.ref l) [] .none) _ _ _
  unfold Builtin.Dict.updateFrom
  refine wpAny_bind (wpAny_typeOf hT ?_)
  rw [if_pos (by decide)]
  refine wpAny_bind (getAttrQ_miss hlo' hlc hldat hld keys_miss (by decide) (by simpa using hh) fun h1 tk1 e1 ne => ?_)
  simp only [Option.isNone_none, if_true]
  refine wpAny_bind (wpAny_rule ?_)
  have hl1 : h1.IsList l items := ⟨_, ne.keeps _ _ hlo', hlc, n, hldat⟩
  refine wpAny_bind (wpAny_pyIter_list (s := { s with heap := h1, toks := tk1 }) hl1 ?_)
  have hDlt : s.heap.objs.size < h1.objs.size := by
    obtain ⟨o, _, _, ho, _⟩ := hnew
    exact Heap.lt_size (ne.keeps _ _ ho)
  have hnew1 : h1.DictOf knd s.heap.objs.size (foldS (ws.take 0)) := by
    obtain ⟨o, es, ep, ho, r⟩ := hnew
    exact ⟨o, es, ep, ne.keeps _ _ ho, r⟩
  have hlS : l < s.heap.objs.size := Heap.lt_size hlo
  have hneI : l ≠ h1.objs.size := Nat.ne_of_lt (Nat.lt_trans hlS hDlt)
  have WW := (Walks.list (prog := prog) (w := w) (A := A.in1.in1) (by simpa using hh) h1.objs.size l hneI items).toS
  rw [hsz] at WW
  have hDf : s.heap.objs.size ∉ [h1.objs.size, l] := by
    simp only [List.mem_cons, List.mem_singleton, List.not_mem_nil, or_false, not_or]
    exact ⟨Nat.ne_of_lt hDlt, Nat.ne_of_gt hlS⟩
  have htlt : ∀ i, i < ws.length → tp i < s.heap.objs.size := by
    intro i hi
    obtain ⟨_, kv, ⟨o, ho, _⟩, _⟩ := hit i hi
    exact Heap.lt_size ho
  refine wpAny_pure ⟨plainId_quiet upd_plain _, upd_loop (knd := knd) WW hDf .none tp (fun i v hv => ?_) (fun i hi => ⟨Nat.ne_of_lt (htlt i hi), ?_⟩) hz ws.length 0 _ (by omega) (Nat.zero_le _)
    ⟨⟨_, Heap.get?_push_size _ rfl, rfl, rfl⟩, hl1.push _⟩ ?_ (fun j hj => ?_) fun s' hm hD => ?_⟩
  · have hi : i < ws.length := by
      rcases Nat.lt_or_ge i items.size with z | z
      · rw [← hsz]; exact z
      · rw [Array.getElem?_eq_none z] at hv; cases hv
    have := (hit i hi).1
    rw [hv] at this
    exact Option.some.inj this
  · rw [List.mem_singleton]
    exact Nat.ne_of_lt (Nat.lt_trans (htlt i hi) hDlt)
  · obtain ⟨o, es, ep, ho, r⟩ := hnew1
    exact ⟨o, es, ep, Heap.get?_push_of_some _ ho, r⟩
  · obtain ⟨_, kv, ⟨o, ho, r⟩, h2⟩ := hit j hj
    exact ⟨kv, ⟨o, Heap.get?_push_of_some _ (ne.keeps _ _ (Heap.get?_push_of_some _ ho)), r⟩, h2⟩
  · obtain ⟨h', g', d', tk', os'⟩ := s'
    have eg : g' = s.gens := hm.gens
    have ed : d' = s.drawn := hm.drawn
    have eo : os' = s.os := hm.os
    subst eg; subst ed; subst eo
    refine ⟨rfl, h h' tk' hD fun b o e => ?_⟩
    have hb := Heap.lt_size e
    refine hm.heap b o ?_ (Heap.get?_push_of_some _ (ne.keeps _ _ (Heap.get?_push_of_some _ e)))
    simp only [List.mem_cons, List.mem_singleton, List.not_mem_nil, or_false, not_or]
    exact ⟨Nat.ne_of_lt hb, Nat.ne_of_lt (Nat.lt_trans hb hDlt)⟩
end
end Ws
namespace Ws
open PySem PySem.W PyProof.Rows
noncomputable abbrev Trip := Addr × Int × L2.V
noncomputable def TrOk (H : L2.Hp) (t : Trip) : Prop := H t.1 = some (.tup [.int t.2.1, t.2.2])
theorem pairs_read {ρ : List Addr} {H : L2.Hp} : ∀ {l : List PV} {xs : List L2.V} {m : List (Int × PV)}, RVs ρ H l xs → prsOf l = some m → ∃ tr : List Trip, xs = tr.map (fun t => L2.V.ref t.1) ∧ (∀ t ∈ tr, TrOk H t) ∧ m.map (·.1) = tr.map (·.2.1) ∧ RVs ρ H (m.map (·.2)) (tr.map (·.2.2))
  | [], xs, m, r, h => by
    cases r
    cases h
    exact ⟨[], rfl, by simp, rfl, .nil⟩
  | x :: l, xs, m, r, h => by
    cases r with
    | cons hx hr =>
      match x, hx, h with
      | .tup [.int i, v], hx, h =>
        rcases hm : prsOf l with _ | m'
        · simp [prsOf, hm] at h
        · simp only [prsOf, hm, Option.map_some, Option.some.injEq] at h
          subst h
          obtain ⟨tr, e1, e2, e3, e4⟩ := pairs_read hr hm
          cases hx with
          | tup ha r1 =>
            cases r1 with
            | cons h1 r1 =>
              cases h1
              cases r1 with
              | cons h2 r1 =>
                cases r1
                refine ⟨(_, i, _) :: tr, by rw [e1]; rfl, fun t ht => ?_, by simp [e3], .cons h2 e4⟩
                rcases List.mem_cons.mp ht with z | z
                · subst z; exact ha
                · exact e2 t z
noncomputable def foldK (tr : List Trip) (acc : List (L2.Key × L2.V)) : List (L2.Key × L2.V) := tr.foldl (fun acc t => L2.putK acc (.inl t.2.1) t.2.2) acc
theorem fold_pi {ρ : List Addr} {H : L2.Hp} : ∀ (m : List (Int × PV)) (tr : List Trip) (am : List (Int × PV)) (ak : List (L2.Key × L2.V)), m.map (·.1) = tr.map (·.2.1) → RVs ρ H (m.map (·.2)) (tr.map (·.2.2)) → PI ρ H am ak → PI ρ H (m.foldl (fun acc p => putI acc p.1 p.2) am) (foldK tr ak)
  | [], [], am, ak, _, _, h => h
  | [], _ :: _, _, _, e, _, _ => by simp at e
  | _ :: _, [], _, _, e, _, _ => by simp at e
  | p :: m, t :: tr, am, ak, e, r, h => by
    simp only [List.map_cons, List.cons.injEq] at e
    cases r with
    | cons h1 r1 =>
      show PI ρ H (m.foldl _ (putI am p.1 p.2)) (foldK tr (L2.putK ak (.inl t.2.1) t.2.2))
      rw [← e.1]
      exact fold_pi m tr _ _ e.2 r1 (PI.put h1 p.1 h)
noncomputable def WsOk {P : Program} {w : World} (s : Shared) (t : Trip) (q : L2.Key × Value) : Prop := q.1 = .inl t.2.1 ∧ L2.RelV t.2.2 q.2 ∧ ∃ kv, s.heap.IsTuple t.1 #[kv, q.2] ∧ (L2.mixKind P w).is q.1 kv = true
section
variable {X : L2.Cx} {cm : Nat → Addr} {pins : List (Addr × Obj)} {σ : L2.St} {H : L2.Hp} {s : Shared}
theorem ws_of (I : L2.Inv X pins σ H s) : ∀ (tr : List Trip), (∀ t ∈ tr, TrOk H t) → ∃ ws : List (L2.Key × Value), ws.length = tr.length ∧ ∀ j (h1 : j < ws.length) (h2 : j < tr.length), WsOk (P := X.prog) (w := X.w) s tr[j] ws[j]
  | [], _ => ⟨[], rfl, fun j h1 => absurd h1 (by simp)⟩
  | t :: tr, h => by
    obtain ⟨ws, e1, e2⟩ := ws_of I tr fun x hx => h x (List.mem_cons_of_mem _ hx)
    obtain ⟨_, its, ri, pi⟩ := I.hok _ _ (show H t.1 = some (.tup [.int t.2.1, t.2.2]) from h t List.mem_cons_self)
    obtain ⟨u0, u1, rfl, r0, r1⟩ := L2.vals2 ri
    refine ⟨(.inl t.2.1, u1) :: ws, by simp [e1], fun j h1 h2 => ?_⟩
    cases j with
    | zero => exact ⟨rfl, r1, u0, pi, L2.kV_is (k := .inl t.2.1) r0⟩
    | succ j => exact e2 j (by simpa using h1) (by simpa using h2)
theorem fold_kv : ∀ (tr : List Trip) (ws : List (L2.Key × Value)) (ak : List (L2.Key × L2.V)) (av : List (L2.Key × Value)), ws.length = tr.length → (∀ j (h1 : j < ws.length) (h2 : j < tr.length), WsOk (P := X.prog) (w := X.w) s tr[j] ws[j]) → L2.KV ak av → L2.KV (foldK tr ak) (ws.foldl (fun acc p => stored acc p.1 p.2) av)
  | [], [], ak, av, _, _, h => h
  | [], _ :: _, _, _, e, _, _ => by simp at e
  | _ :: _, [], _, _, e, _, _ => by simp at e
  | t :: tr, q :: ws, ak, av, e, hw, h => by
    have h0 := hw 0 (by simp) (by simp)
    obtain ⟨g1, g2, _⟩ := h0
    simp only [List.getElem_cons_zero] at g1 g2
    show L2.KV (foldK tr (L2.putK ak (.inl t.2.1) t.2.2)) (ws.foldl _ (stored av q.1 q.2))
    refine fold_kv tr ws _ _ (by simpa using e) (fun j h1 h2 => by have := hw (j + 1) (by simpa using h1) (by simpa using h2); simpa using this) ?_
    rw [g1]
    exact L2.KV.put h _ g2
theorem r_dictOf {e : Expr} {d : ED} {p q : Pos} (hcalm : X.calm = true) (he : L2.PE X e (EvE X.K cm d)) (hg : L2.Gl X "dict") (hm : X.mg "dict" = none)
    (hs : starEach [e] X.env = (false, eval e X.env) :: starEach [] X.env := by rfl) :
    L2.PE X (.Call (.Name "dict" p) [e] [] q) (EvE X.K cm (eDictOf d)) := by
  intro pins s σ H Q I h
  obtain ⟨ρ, A, σp, v, A', rl, rs, ev, k⟩ := h
  obtain ⟨x, A1, e1, ev1⟩ := bnd_inv ev
  refine Call_ (L2.ld_blt I hg hm (show bootBuiltins "dict" = some (.type "dict") from by rfl) (callWith_type1 (arg_one hs ?_) hs rfl))
  refine L2.thn (he pins s σ H (fun v H1 => ∃ (a : Addr) (tr : List Trip), v = .ref a ∧ L2.SqL X.K H1 a (tr.map fun t => L2.V.ref t.1) ∧ (∀ t ∈ tr, TrOk H1 t) ∧ tr.length ≤ sizeLine ∧ ∀ l, H1 l = none → Q (.ref l) (L2.upd H1 l (.dK (foldK tr [])))) I ⟨ρ, A, σp, x, A1, rl, rs, e1, fun ρ1 H1 v1 x1 rl1 rv1 => ?_⟩) fun u s1 ⟨w1, H1, I1, r1, a, tr, ew, hq, htr, hz, qq⟩ => ?_
  · cases x with
    | ref n =>
      obtain ⟨l, A2, e2, ev2⟩ := bnd_inv ev1
      obtain ⟨rfl, hA, a, xs, rfl, hn, hH, r0⟩ := mut_read rl1 rv1 e2
      cases hi : prsOf l with
      | none => rw [hi] at ev2; cases ev2
      | some m =>
        rw [hi] at ev2
        obtain ⟨c, ev3⟩ := guard_inv ev2
        cases ev3
        obtain ⟨tr, f1, f2, f3, f4⟩ := pairs_read r0 hi
        have hl : tr.length = m.length := by
          have := congrArg List.length f3
          simpa using this.symm
        refine ⟨a, tr, rfl, by rw [← f1]; exact L2.SqL.of hH, f2, by rw [hl]; exact Nat.le_of_lt (LIM_lt c), fun D hD => ?_⟩
        have ex : Ext ρ1 H1 (ρ1 ++ [D]) (L2.upd H1 D (.dK (foldK tr []))) := Ext.new hD
        refine k (ρ1 ++ [D]) _ _ (x1.trans ex) (rl1.alloc hD ⟨_, L2.upd_same, ?_⟩ rfl) (.ref (by rw [← rl1.len]; simp))
        exact fold_pi m tr [] [] f3 (f4.mono ex) ⟨rfl, .nil⟩
    | _ => cases ev1
  · subst ew
    obtain rfl : u = Value.ref a := r1
    obtain ⟨its, ri, pl, _⟩ := I1.list hq
    obtain ⟨ws, w1', w2⟩ := ws_of I1 tr htr
    have hlen : its.length = tr.length := by rw [← ri.length]; simp
    refine call_dict_pairs (knd := L2.mixKind X.prog X.w) (ws := ws) (I1.ok.hd hcalm) pl (fun j => (tr.getD j (0, 0, .non)).1) (by rw [List.size_toArray, hlen, w1']) (by rw [w1']; exact hz) (fun j hj => ?_) fun h' tk dd hk => ?_
    · have hj2 : j < tr.length := by rw [← w1']; exact hj
      have e0 : tr.getD j (0, 0, .non) = tr[j] := by simp [hj2]
      rw [e0]
      obtain ⟨g1, g2, kv, g3, g4⟩ := w2 j hj hj2
      refine ⟨?_, kv, g3, g4⟩
      obtain ⟨u, hu, ru⟩ := ri.get (i := j) (x := .ref tr[j].1) (by rw [List.getElem?_map, List.getElem?_eq_getElem hj2]; rfl)
      cases (show u = Value.ref tr[j].1 from ru)
      simpa using hu
    · have rel : L2.KV (foldK tr []) (foldS ws) := fold_kv (X := X) (s := s1) tr ws [] [] w1' w2 .nil
      have hz2 : (foldK tr []).length ≤ sizeLine := by
        rw [rel.length]
        exact Nat.le_trans (foldS_len ws) (by rw [w1']; exact hz)
      exact ⟨.ref s1.heap.objs.size, _, I1.laid (t' := tk) (a := s1.heap.objs.size) (o := .dK (foldK tr [])) (fun b o e2 => hk b o e2) (Nat.le_refl _) (L2.dk_new hz2 (beq_eq_false_iff_ne.mpr (Ne.symm (Nat.ne_of_lt I1.big))) rel dd), rfl, qq _ (I1.hok.fresh (Nat.le_refl _))⟩
end
end Ws
namespace Ws
noncomputable abbrev XP := Nat → PV → PHp → Prop
noncomputable def Wp {α : Type} (m : M α) (A : PHp) (Q : α → PHp → Prop) (E : XP) : Prop := match m A with
  | .ok a A' => Q a A'
  | .ex c v A' => E c v A'
  | .no => False
noncomputable abbrev NoX : XP := fun _ _ _ => False
section
variable {α β : Type} {m : M α} {f : α → M β} {A A' A1 B : PHp} {a : α} {E E' : XP} {σ σ' : PSt}
theorem w_eq {Q : α → PHp → Prop} (h : m A = .ok a A') (q : Q a A') : Wp m A Q E := by unfold Wp; rw [h]; exact q
theorem w_inv {Q : α → PHp → Prop} (h : Wp m A Q NoX) : ∃ a A', m A = .ok a A' ∧ Q a A' := by
  unfold Wp at h
  cases e : m A with
  | ok a A' => rw [e] at h; exact ⟨a, A', rfl, h⟩
  | ex c v A' => rw [e] at h; exact h.elim
  | no => rw [e] at h; exact h.elim
theorem w_mono2 {Q Q' : α → PHp → Prop} (h : Wp m A Q E) (hq : ∀ a A', Q a A' → Q' a A') (he : ∀ c v A', E c v A' → E' c v A') : Wp m A Q' E' := by
  unfold Wp at h ⊢
  cases e : m A with
  | ok a A' => rw [e] at h; exact hq _ _ h
  | ex c v A' => rw [e] at h; exact he _ _ _ h
  | no => rw [e] at h; exact h.elim
theorem w_mono {Q Q' : α → PHp → Prop} (h : Wp m A Q E) (hq : ∀ a A', Q a A' → Q' a A') : Wp m A Q' E := w_mono2 h hq fun _ _ _ z => z
theorem w_ret {Q : α → PHp → Prop} (q : Q a A) : Wp (ret a) A Q E := q
theorem w_bnd {Q : β → PHp → Prop} (h : Wp m A (fun a A1 => Wp (f a) A1 Q E) E) : Wp (bnd m f) A Q E := by
  unfold Wp at h ⊢
  unfold bnd
  cases e : m A with
  | ok a A' => rw [e] at h; exact h
  | ex c v A' => rw [e] at h; exact h
  | no => rw [e] at h; exact h
theorem w_guard {P : Prop} {Q : α → PHp → Prop} (p : P) (h : Wp m A Q E) : Wp (guard P m) A Q E := by rw [guard_pos p]; exact h
variable {Q : PV → PHp → Prop} {e e1 e2 e3 : ED} {es : AD} {v x y : PV} {i j : Int} {k n : Nat} {l : List PV}
theorem w_var (h : σ[k]? = some (some v)) (q : Q v A) : Wp (eVar k σ) A Q E := w_eq (a := v) (by show (eVar k σ) A = _; unfold eVar; rw [h]; rfl) q
theorem w_k (q : Q v A) : Wp (eK v σ) A Q E := q
theorem w_nil {Q : List PV → PHp → Prop} (q : Q [] A) : Wp (aNil σ) A Q E := q
theorem w_cons {Q : List PV → PHp → Prop} (h : Wp (e σ) A (fun x A1 => Wp (es σ) A1 (fun xs A2 => Q (x :: xs) A2) E) E) : Wp (aCons e es σ) A Q E :=
  w_bnd (w_mono h fun _ _ h1 => w_bnd (w_mono h1 fun _ _ h2 => h2))
theorem w_tup (h : Wp (es σ) A (fun xs A1 => xs.length ≤ LIM ∧ Q (.tup xs) A1) E) : Wp (eTup es σ) A Q E := w_bnd (w_mono h fun _ _ ⟨h1, h2⟩ => w_guard h1 h2)
theorem w_lst (h : Wp (es σ) A (fun xs A1 => xs.length ≤ LIM ∧ Q (.ref A1.length) (A1 ++ [.lst xs])) E) : Wp (eLst es σ) A Q E := w_bnd (w_mono h fun _ _ ⟨h1, h2⟩ => w_guard h1 h2)
theorem w_bin {f : OD} (h : Wp (e1 σ) A (fun x A1 => Wp (e2 σ) A1 (fun y A2 => Wp (f x y) A2 Q E) E) E) : Wp (eBin f e1 e2 σ) A Q E := w_bnd (w_mono h fun _ _ h1 => w_bnd h1)
theorem w_add (q : Q (.int (i + j)) A) : Wp (oAdd (.int i) (.int j)) A Q E := q
theorem w_add2 (q : Q (.int (i + j)) A) : Wp (oAdd2 (.int i) (.int j)) A Q E := q
theorem w_mut {Q : List PV → PHp → Prop} (h : A[n]? = some (.lst l)) (q : Q l A) : Wp (mutAt n) A Q E := w_eq (mutAt_lst h) q
theorem w_addL {n k : Nat} {l m : List PV} (hn : A[n]? = some (.lst l)) (hk : A[k]? = some (.lst m)) (hl : l.length + m.length ≤ LIM) (q : Q (.ref A.length) (A ++ [.lst (l ++ m)])) : Wp (oAdd (.ref n) (.ref k)) A Q E :=
  w_bnd (w_mut hn (w_bnd (w_mut hk (w_guard hl q))))
theorem w_sub (q : Q (.int (i - j)) A) : Wp (oSub (.int i) (.int j)) A Q E := q
theorem w_mul (h : (-(2 ^ 64) < i ∧ i < 2 ^ 64) ∨ (-(2 ^ 64) < j ∧ j < 2 ^ 64)) (q : Q (.int (i * j)) A) : Wp (oMul (.int i) (.int j)) A Q E := w_guard h q
theorem w_mod (h : 0 < j) (q : Q (.int (i % j)) A) : Wp (oMod (.int i) (.int j)) A Q E := w_guard h q
theorem w_fdiv (h : 0 < j ∧ j < 1073741824) (q : Q (.int (i / j)) A) : Wp (oFdiv (.int i) (.int j)) A Q E := w_guard h q
theorem w_lt (q : Q (.bl (decide (i < j))) A) : Wp (oLt (.int i) (.int j)) A Q E := q
theorem w_le (q : Q (.bl (decide (i ≤ j))) A) : Wp (oLe (.int i) (.int j)) A Q E := q
theorem w_gt (q : Q (.bl (decide (j < i))) A) : Wp (oGt (.int i) (.int j)) A Q E := q
theorem w_ge (q : Q (.bl (decide (j ≤ i))) A) : Wp (oGe (.int i) (.int j)) A Q E := q
theorem w_eqI (q : Q (.bl (decide (i = j))) A) : Wp (oEq (.int i) (.int j)) A Q E := w_bnd (w_guard (.inr ⟨rfl, rfl⟩) q)
theorem w_neI (q : Q (.bl (!decide (i = j))) A) : Wp (oNe (.int i) (.int j)) A Q E := w_bnd (w_guard (.inr ⟨rfl, rfl⟩) q)
theorem w_eqB {b c : Bool} (q : Q (.bl (b == c)) A) : Wp (oEq (.bl b) (.bl c)) A Q E := w_bnd (w_guard (.inl rfl) q)
theorem w_neB {b c : Bool} (q : Q (.bl (!(b == c))) A) : Wp (oNe (.bl b) (.bl c)) A Q E := w_bnd (w_guard (.inl rfl) q)
theorem w_eqT {l m : List PV} (h : plain (.tup l) = true ∧ plain (.tup m) = true) (q : Q (.bl (eqvs l m)) A) : Wp (oEq (.tup l) (.tup m)) A Q E := w_bnd (w_guard (.inr h) q)
theorem w_neT {l m : List PV} (h : plain (.tup l) = true ∧ plain (.tup m) = true) (q : Q (.bl (!eqvs l m)) A) : Wp (oNe (.tup l) (.tup m)) A Q E := w_bnd (w_guard (.inr h) q)
theorem w_lstAt {Q : List PV → PHp → Prop} (h : A[n]? = some (.lst l)) (q : Q l A) : Wp (lstAt n) A Q E := w_eq (lstAt_lst h) q
theorem w_roAt {Q : List PV → PHp → Prop} (h : A[n]? = some (.ro l)) (q : Q l A) : Wp (lstAt n) A Q E := w_eq (a := l) (A' := A) (by show lstAt n A = _; unfold lstAt; rw [h]) q
theorem w_eqL {n k : Nat} {l m : List PV} (hn : A[n]? = some (.lst l)) (hk : A[k]? = some (.lst m)) (hp : plains l = true ∧ plains m = true) (q : Q (.bl (eqvs l m)) A) : Wp (oEq (.ref n) (.ref k)) A Q E :=
  w_bnd (w_bnd (w_lstAt hn (w_bnd (w_lstAt hk (w_guard hp q)))))
theorem w_neL {n k : Nat} {l m : List PV} (hn : A[n]? = some (.lst l)) (hk : A[k]? = some (.lst m)) (hp : plains l = true ∧ plains m = true) (q : Q (.bl (!eqvs l m)) A) : Wp (oNe (.ref n) (.ref k)) A Q E :=
  w_bnd (w_bnd (w_lstAt hn (w_bnd (w_lstAt hk (w_guard hp q)))))
theorem w_inL (hn : A[n]? = some (.lst l)) (hp : plain x = true ∧ plains l = true) (q : Q (.bl (pIn x l)) A) : Wp (oIn x (.ref n)) A Q E := w_bnd (w_lstAt hn (w_guard hp q))
theorem w_inT (hp : plain x = true ∧ plains l = true) (q : Q (.bl (pIn x l)) A) : Wp (oIn x (.tup l)) A Q E := w_bnd (w_ret (w_guard hp q))
theorem w_notInL (hn : A[n]? = some (.lst l)) (hp : plain x = true ∧ plains l = true) (q : Q (.bl (!pIn x l)) A) : Wp (oNotIn x (.ref n)) A Q E := w_bnd (w_lstAt hn (w_guard hp q))
theorem w_notInT (hp : plain x = true ∧ plains l = true) (q : Q (.bl (!pIn x l)) A) : Wp (oNotIn x (.tup l)) A Q E := w_bnd (w_ret (w_guard hp q))
theorem w_isN (h : Wp (e σ) A (fun x A1 => Q (.bl (isNon x)) A1) E) : Wp (eIsN e σ) A Q E := w_bnd h
theorem w_notN (h : Wp (e σ) A (fun x A1 => Q (.bl (!isNon x)) A1) E) : Wp (eNotN e σ) A Q E := w_bnd h
theorem w_chain {f g : OD} (h : Wp (e1 σ) A (fun x A1 => Wp (e2 σ) A1 (fun y A2 => Wp (f x y) A2 (fun z A3 => ∃ b, z = .bl b ∧ ((b = true → Wp (e3 σ) A3 (fun u A4 => Wp (g y u) A4 Q E) E) ∧ (b = false → Q (.bl false) A3))) E) E) E) : Wp (eChain f g e1 e2 e3 σ) A Q E :=
  w_bnd (w_mono h fun _ _ h1 => w_bnd (w_mono h1 fun _ _ h2 => w_bnd (w_mono h2 fun z A3 ⟨b, hz, h3, h4⟩ => by
    subst hz
    cases b with
    | true => exact w_bnd (h3 rfl)
    | false => exact h4 rfl)))
variable {QB : Bool → PHp → Prop} {t t1 t2 : TD} {b : Bool}
theorem w_true (q : QB true A) : Wp (tTrue σ) A QB E := q
theorem w_tval (h : Wp (e σ) A (fun x A1 => ∃ b, x = .bl b ∧ QB b A1) E) : Wp (tVal e σ) A QB E := w_bnd (w_mono h fun x A1 ⟨b, hx, q⟩ => by subst hx; exact q)
theorem w_tand (h : Wp (t1 σ) A (fun b A1 => (b = true → Wp (t2 σ) A1 QB E) ∧ (b = false → QB false A1)) E) : Wp (tAnd t1 t2 σ) A QB E := w_bnd (w_mono h fun b A1 ⟨h1, h2⟩ => by
  cases b with
  | true => exact h1 rfl
  | false => exact h2 rfl)
theorem w_tor (h : Wp (t1 σ) A (fun b A1 => (b = true → QB true A1) ∧ (b = false → Wp (t2 σ) A1 QB E)) E) : Wp (tOr t1 t2 σ) A QB E := w_bnd (w_mono h fun b A1 ⟨h1, h2⟩ => by
  cases b with
  | true => exact h1 rfl
  | false => exact h2 rfl)
theorem w_tnot (h : Wp (t σ) A (fun b A1 => QB (!b) A1) E) : Wp (tNot t σ) A QB E := w_bnd h
theorem w_and (h : Wp (e1 σ) A (fun x A1 => ∃ b, x = .bl b ∧ ((b = true → Wp (e2 σ) A1 Q E) ∧ (b = false → Q (.bl false) A1))) E) : Wp (eAnd e1 e2 σ) A Q E := w_bnd (w_bnd (w_mono h fun x A1 ⟨b, hx, h1, h2⟩ => by
  subst hx
  cases b with
  | true => exact h1 rfl
  | false => exact h2 rfl))
theorem w_or (h : Wp (e1 σ) A (fun x A1 => ∃ b, x = .bl b ∧ ((b = true → Q (.bl true) A1) ∧ (b = false → Wp (e2 σ) A1 Q E))) E) : Wp (eOr e1 e2 σ) A Q E := w_bnd (w_bnd (w_mono h fun x A1 ⟨b, hx, h1, h2⟩ => by
  subst hx
  cases b with
  | true => exact h1 rfl
  | false => exact h2 rfl))
theorem w_not (h : Wp (e σ) A (fun x A1 => ∃ b, x = .bl b ∧ Q (.bl (!b)) A1) E) : Wp (eNot e σ) A Q E := w_bnd (w_bnd (w_mono h fun x A1 ⟨b, hx, q⟩ => by subst hx; exact q))
theorem w_ifE (h : Wp (t σ) A (fun b A1 => (b = true → Wp (e1 σ) A1 Q E) ∧ (b = false → Wp (e2 σ) A1 Q E)) E) : Wp (eIf t e1 e2 σ) A Q E := w_bnd (w_mono h fun b A1 ⟨h1, h2⟩ => by
  cases b with
  | true => exact h1 rfl
  | false => exact h2 rfl)
theorem w_ixL (hn : A[n]? = some (.lst l)) (hi : atI l i = some v) (q : Q v A) : Wp (oIx (.ref n) (.int i)) A Q E := w_bnd (w_lstAt hn (by rw [hi]; exact q))
theorem w_ixR (hn : A[n]? = some (.ro l)) (hi : atI l i = some v) (q : Q v A) : Wp (oIx (.ref n) (.int i)) A Q E := w_bnd (w_roAt hn (by rw [hi]; exact q))
theorem w_ixT (hi : atI l i = some v) (q : Q v A) : Wp (oIx (.tup l) (.int i)) A Q E := by
  refine w_eq (a := v) (A' := A) ?_ q
  simp [hi]
theorem w_len (h : Wp (e σ) A (fun x A1 => Wp (seqOf x) A1 (fun l A2 => Q (.int l.length) A2) E) E) : Wp (eLen e σ) A Q E := w_bnd (w_mono h fun _ _ h1 => w_bnd h1)
theorem w_seqL {Q : List PV → PHp → Prop} (h : A[n]? = some (.lst l)) (q : Q l A) : Wp (seqOf (.ref n)) A Q E := w_lstAt h q
theorem w_seqR {Q : List PV → PHp → Prop} (h : A[n]? = some (.ro l)) (q : Q l A) : Wp (seqOf (.ref n)) A Q E := w_roAt h q
theorem w_seqT {Q : List PV → PHp → Prop} (q : Q l A) : Wp (seqOf (.tup l)) A Q E := q
theorem w_listOf (h : Wp (e σ) A (fun x A1 => Wp (seqOf x) A1 (fun l A2 => Q (.ref A2.length) (A2 ++ [.lst l])) E) E) : Wp (eListOf e σ) A Q E := w_bnd (w_mono h fun _ _ h1 => w_bnd h1)
theorem w_tupleOf (h : Wp (e σ) A (fun x A1 => ∃ n l, x = .ref n ∧ A1[n]? = some (.lst l) ∧ l.length ≤ LIM ∧ Q (.tup l) A1) E) : Wp (eTupleOf e σ) A Q E := w_bnd (w_mono h fun x A1 ⟨n, l, hx, h1, h2, q⟩ => by
  subst hx
  exact w_bnd (w_lstAt h1 (w_guard h2 q)))
variable {QO : Option Int → PHp → Prop} {lo hi : LD}
theorem w_lno (q : QO none A) : Wp (lNo σ) A QO E := q
theorem w_lat (h : Wp (e σ) A (fun x A1 => ∃ i, x = .int i ∧ QO (some i) A1) E) : Wp (lAt e σ) A QO E := w_bnd (w_mono h fun x A1 ⟨i, hx, q⟩ => by subst hx; exact q)
theorem w_cut (h : Wp (e σ) A (fun x A1 => Wp (lo σ) A1 (fun l A2 => Wp (hi σ) A2 (fun h A3 => (∃ n xs, x = .ref n ∧ lstAt n A3 = .ok xs A3 ∧ Q (.ref A3.length) (A3 ++ [.lst (cut xs l h)])) ∨
    ∃ xs, x = .tup xs ∧ ¬ (cutIx xs.length 0 l = 0 ∧ cutIx xs.length xs.length h = xs.length) ∧ Q (.tup (cut xs l h)) A3) E) E) E) : Wp (eCut e lo hi σ) A Q E :=
  w_bnd (w_mono h fun _ _ h1 => w_bnd (w_mono h1 fun _ _ h2 => w_bnd (w_mono h2 fun _ _ h3 => by
    rcases h3 with ⟨n, xs, rfl, hn, q⟩ | ⟨xs, rfl, hn, q⟩
    · exact w_bnd (w_eq hn q)
    · exact w_guard hn q)))
theorem w_cut2 (h : Wp (e σ) A (fun x A1 => Wp (lo σ) A1 (fun l A2 => Wp (hi σ) A2 (fun h A3 => (∃ n xs, x = .ref n ∧ lstAt n A3 = .ok xs A3 ∧ Q (.ref A3.length) (A3 ++ [.lst (cut xs l h)])) ∨
    ∃ xs, x = .tup xs ∧ Q (.tup (cut xs l h)) A3) E) E) E) : Wp (eCut2 e lo hi σ) A Q E :=
  w_bnd (w_mono h fun _ _ h1 => w_bnd (w_mono h1 fun _ _ h2 => w_bnd (w_mono h2 fun _ _ h3 => by
    rcases h3 with ⟨n, xs, rfl, hn, q⟩ | ⟨xs, rfl, q⟩
    · exact w_bnd (w_eq hn q)
    · exact q)))
theorem blsOf_map : ∀ bs : List Bool, blsOf (bs.map PV.bl) = some bs
  | [] => rfl
  | b :: r => by rw [List.map_cons]; show (blsOf (r.map PV.bl)).map (b :: ·) = _; rw [blsOf_map r]; rfl
theorem w_all (h : Wp (e σ) A (fun x A1 => ∃ (n : Nat) (bs : List Bool), x = .ref n ∧ A1[n]? = some (.lst (bs.map PV.bl)) ∧ Q (.bl (bs.all id)) A1) E) : Wp (eAll e σ) A Q E := w_bnd (w_mono h fun x A1 ⟨n, bs, hx, h1, q⟩ => by
  subst hx
  refine w_bnd (w_lstAt h1 ?_)
  rw [blsOf_map]; exact q)
theorem w_lenSet2 (h : Wp (e σ) A (fun x A1 => Wp (seqOf x) A1 (fun l A2 => ∃ ns, l = ns.map PV.int ∧ ns.length < 1000 ∧ Q (.int (cntI ns)) A2) E) E) : Wp (eLenSet2 e σ) A Q E := w_bnd (w_mono h fun x A1 h1 => w_bnd (w_mono h1 fun l A2 ⟨ns, hl, h2, q⟩ => by
  subst hl
  rw [intsOf_map]
  exact w_guard h2 q))
theorem w_revT (h : Wp (e σ) A (fun x A1 => ∃ l, x = .tup l ∧ Q (.tup l.reverse) A1) E) : Wp (eRevT e σ) A Q E := w_bnd (w_mono h fun x A1 ⟨l, hx, q⟩ => by subst hx; exact q)
theorem w_isF (h : Wp (e σ) A (fun x A1 => ∃ b, x = .bl b ∧ Q (.bl (!b)) A1) E) : Wp (eIsF e σ) A Q E := w_bnd (w_mono h fun x A1 ⟨b, hx, q⟩ => by subst hx; exact q)
theorem w_append {e1 e2 : ED} (h : Wp (e1 σ) A (fun x A1 => ∃ n l, x = .ref n ∧ A1[n]? = some (.lst l) ∧ Wp (e2 σ) A1 (fun v A2 => ∃ l2, A2[n]? = some (.lst l2) ∧ l2.length < LIM ∧ Q .non (A2.set n (.lst (l2 ++ [v])))) E) E) : Wp (eAppend e1 e2 σ) A Q E :=
  w_bnd (w_mono h fun x A1 ⟨n, l, hx, h1, h2⟩ => by
    subst hx
    exact w_bnd (w_mut h1 (w_bnd (w_mono h2 fun v A2 ⟨l2, h3, h4, q⟩ => w_bnd (w_mut h3 (w_guard h4 q))))))
theorem w_fld (h : Wp (e σ) A (fun x A1 => ∃ n c fs v, x = .ref n ∧ A1[n]? = some (.ins c fs) ∧ getFld k fs = some v ∧ Q v A1) E) : Wp (eFld e k σ) A Q E :=
  w_bnd (w_mono h fun x A1 ⟨n, c, fs, v, hx, h1, h2, q⟩ => by
    subst hx
    refine w_bnd (w_eq (a := (c, fs)) (A' := A1) (by show insAt n A1 = _; unfold insAt; rw [h1]) ?_)
    show Wp (match getFld k fs with | some v => _ | none => _) _ _ _
    rw [h2]; exact q)
theorem w_call {f : Fun} (h : Wp (es σ) A (fun vs A1 => Wp (f vs) A1 Q E) E) : Wp (eCall f es σ) A Q E := w_bnd h
theorem w_meth {c : Nat} {f : Fun} (h : Wp (e σ) A (fun x A1 => ∃ n fs, x = .ref n ∧ A1[n]? = some (.ins c fs) ∧ Wp (es σ) A1 (fun vs A2 => Wp (f (.ref n :: vs)) A2 Q E) E) E) : Wp (eMeth c f e es σ) A Q E :=
  w_bnd (w_mono h fun x A1 ⟨n, fs, hx, h1, h2⟩ => by
    subst hx
    exact w_bnd (w_eq (a := (c, fs)) (A' := A1) (by show insAt n A1 = _; unfold insAt; rw [h1]) (w_guard rfl (w_bnd h2))))
theorem w_make {c : Nat} {f : Fun} (h : Wp (es σ) A (fun vs A1 => Wp (f (.ref A1.length :: vs)) (A1 ++ [.ins c []]) (fun _ A2 => Q (.ref A1.length) A2) E) E) : Wp (eMake c f es σ) A Q E :=
  w_bnd (w_mono h fun vs A1 h1 => w_bnd (w_eq (a := .ref A1.length) (A' := A1 ++ [.ins c []]) rfl (w_bnd h1)))
variable {QF : Fl → PHp → Prop} {s s1 s2 : SD} {g : GD} {QS : PSt → PHp → Prop}
theorem w_pass (q : QF (.nx σ) A) : Wp (sPass σ) A QF E := q
theorem w_seq (h : Wp (s1 σ) A (fun o A1 => match o with | .nx σ' => Wp (s2 σ') A1 QF E | o => QF o A1) E) : Wp (sSeq s1 s2 σ) A QF E := w_bnd (w_mono h fun o A1 h1 => by
  cases o with
  | nx σ' => exact h1
  | _ => exact h1)
theorem w_exp (h : Wp (e σ) A (fun _ A1 => QF (.nx σ) A1) E) : Wp (sExpr e σ) A QF E := w_bnd h
theorem w_retS (h : Wp (e σ) A (fun v A1 => QF (.rt v) A1) E) : Wp (sRet e σ) A QF E := w_bnd h
theorem w_retN (q : QF (.rt .non) A) : Wp (sRetN σ) A QF E := q
theorem w_if (h : Wp (t σ) A (fun b A1 => (b = true → Wp (s1 σ) A1 QF E) ∧ (b = false → Wp (s2 σ) A1 QF E)) E) : Wp (sIf t s1 s2 σ) A QF E := w_bnd (w_mono h fun b A1 ⟨h1, h2⟩ => by
  cases b with
  | true => exact h1 rfl
  | false => exact h2 rfl)
theorem w_asg (h : Wp (e σ) A (fun v A1 => Wp (g v σ) A1 (fun σ' A2 => QF (.nx σ') A2) E) E) : Wp (sAsg e g σ) A QF E := w_bnd (w_mono h fun _ _ h1 => w_bnd h1)
theorem w_gname (q : QS (σ.set k (some v)) A) : Wp (gName k v σ) A QS E := q
theorem w_gnil (q : QS σ A) : Wp (gNil [] σ) A QS E := q
theorem w_gcons {r : GDs} {vs : List PV} (h : Wp (g v σ) A (fun σ' A1 => Wp (r vs σ') A1 QS E) E) : Wp (gCons g r (v :: vs) σ) A QS E := w_bnd h
theorem w_gtup {r : GDs} (hl : l.length = n) (h : Wp (r l σ) A QS E) : Wp (gTup n r (.tup l) σ) A QS E := w_guard hl h
theorem w_sfld (h : Wp (e2 σ) A (fun v A1 => Wp (e1 σ) A1 (fun x A2 => ∃ n c fs, x = .ref n ∧ A2[n]? = some (.ins c fs) ∧ fs.length < 900 ∧ QF (.nx σ) (A2.set n (.ins c (putFld k v fs)))) E) E) : Wp (sFld e1 k e2 σ) A QF E :=
  w_bnd (w_mono h fun v A1 h1 => w_bnd (w_mono h1 fun x A2 ⟨n, c, fs, hx, h2, h3, q⟩ => by
    subst hx
    exact w_bnd (w_eq (a := (c, fs)) (A' := A2) (by show insAt n A2 = _; unfold insAt; rw [h2]) (w_guard h3 q))))
theorem w_fn {n p : Nat} {vs : List PV} (hl : vs.length = p) (h : Wp (s (start n vs)) A (fun o A1 => match o with | .rt v => Q v A1 | .nx _ => Q .non A1 | _ => False) E) : Wp (fn n p s vs) A Q E :=
  w_guard hl (w_bnd (w_mono h fun o A1 h1 => by
    cases o with
    | rt v => exact h1
    | nx σ' => exact h1
    | bk σ' => exact h1.elim
    | ct σ' => exact h1.elim))
noncomputable abbrev TurnQ (P : PSt → PHp → Prop) (QF : Fl → PHp → Prop) : Fl → PHp → Prop := fun o A => match o with
  | .nx σ => P σ A
  | .ct σ => P σ A
  | .bk σ => QF (.nx σ) A
  | .rt v => QF (.rt v) A
theorem w_turns {J : It} {n : Nat} (P : Nat → PSt → PHp → Prop) (hend : ∀ σ A, P n σ A → item J n A = .ok none A ∧ QF (.nx σ) A)
    (hs : ∀ i σ A, i < n → P i σ A → ∃ v, item J i A = .ok (some v) A ∧ Wp (g v σ) A (fun σ1 A1 => Wp (s σ1) A1 (TurnQ (P (i + 1)) QF) E) E) :
    ∀ k i σ A, i + k = n → P i σ A → ∀ m, k < m → Wp (turns J g s m i σ) A QF E
  | _, _, _, _, _, _, 0, hm => absurd hm (Nat.not_lt_zero _)
  | 0, i, σ, A, e, h, m + 1, hm => by
    obtain rfl : i = n := by omega
    obtain ⟨h1, h2⟩ := hend σ A h
    rw [turns_succ]
    exact w_bnd (w_eq h1 h2)
  | k + 1, i, σ, A, e, h, m + 1, hm => by
    obtain ⟨v, hv, t⟩ := hs i σ A (by omega) h
    rw [turns_succ]
    refine w_bnd (w_eq hv ?_)
    refine w_bnd (w_mono t fun σ1 A1 h1 => w_bnd (w_mono h1 fun o A2 h2 => ?_))
    cases o with
    | nx σ2 => exact w_turns P hend hs k (i + 1) σ2 A2 (by omega) h2 m (by omega)
    | ct σ2 => exact w_turns P hend hs k (i + 1) σ2 A2 (by omega) h2 m (by omega)
    | bk σ2 => exact h2
    | rt v => exact h2
theorem w_forR {it : ID} (P : Nat → PSt → PHp → Prop) (h : Wp (it σ) A (fun J A1 => ∃ lo n, J = .rng lo n ∧ P 0 σ A1 ∧ (∀ (i : Nat) σ B, i < n → P i σ B → Wp (g (.int (lo + i)) σ) B (fun σ1 B1 => Wp (s σ1) B1 (TurnQ (P (i + 1)) QF) E) E) ∧ ∀ σ B, P n σ B → QF (.nx σ) B) E) :
    Wp (sFor it g s σ) A QF E := w_bnd (w_mono h fun J A1 ⟨lo, n, hJ, h0, hs, he⟩ => by
  subst hJ
  exact w_bnd (w_ret (w_turns P (fun σ B hP => ⟨by simp, he σ B hP⟩) (fun i σ B hi hP => ⟨_, by simp [hi], hs i σ B hi hP⟩) n 0 σ A1 (by omega) h0 (n + 1) (Nat.lt_succ_self _))))
theorem w_wturns (P : Nat → PSt → PHp → Prop) (hs : ∀ m σ A, P m σ A → Wp (t σ) A (fun b A1 => (b = true → Wp (s σ) A1 (TurnQ (fun σ' A' => ∃ m', m' < m ∧ P m' σ' A') QF) E) ∧ (b = false → QF (.nx σ) A1)) E) :
    ∀ f m σ A, m < f → P m σ A → Wp (wturns t s f σ) A QF E
  | 0, m, σ, A, hm, _ => absurd hm (by omega)
  | f + 1, m, σ, A, hm, h => by
    rw [wturns_succ]
    refine w_bnd (w_mono (hs m σ A h) fun b A1 ⟨h1, h2⟩ => ?_)
    cases b with
    | false => exact h2 rfl
    | true =>
      refine w_bnd (w_mono (h1 rfl) fun o A2 h3 => ?_)
      cases o with
      | nx σ2 => obtain ⟨m', hm', h4⟩ := h3; exact w_wturns P hs f m' σ2 A2 (by omega) h4
      | ct σ2 => obtain ⟨m', hm', h4⟩ := h3; exact w_wturns P hs f m' σ2 A2 (by omega) h4
      | bk σ2 => exact h3
      | rt v => exact h3
theorem w_while (P : Nat → PSt → PHp → Prop) {m : Nat} (hm : m < 10000) (h0 : P m σ A) (hs : ∀ m σ A, P m σ A → Wp (t σ) A (fun b A1 => (b = true → Wp (s σ) A1 (TurnQ (fun σ' A' => ∃ m', m' < m ∧ P m' σ' A') QF) E) ∧ (b = false → QF (.nx σ) A1)) E) :
    Wp (sWhile t s σ) A QF E := w_wturns P hs LIM m σ A (lim_lt hm) h0
theorem w_cturns {J : It} {g : GD} {t : TD} {e : ED} {l : List PV} {QL : List PV → PHp → Prop} (P : Nat → List PV → PSt → PHp → Prop) (hit : ∀ i acc σ B, P i acc σ B → item J i B = .ok l[i]? B)
    (hs : ∀ i v acc σ B, l[i]? = some v → P i acc σ B → Wp (g v σ) B (fun σ1 B1 => Wp (t σ1) B1 (fun c B2 => (c = true → Wp (e σ1) B2 (fun y B3 => P (i + 1) (acc ++ [y]) σ1 B3) E) ∧ (c = false → P (i + 1) acc σ1 B2)) E) E)
    (he : ∀ acc σ B, P l.length acc σ B → QL acc B) : ∀ k i acc σ B, i ≤ l.length → l.length < i + k → P i acc σ B → Wp (cturns J g t e k i σ) B (fun ys B' => QL (acc ++ ys) B') E
  | 0, i, acc, σ, B, h1, h2, _ => absurd h2 (by omega)
  | k + 1, i, acc, σ, B, h1, h2, h => by
    rw [cturns_succ]
    refine w_bnd (w_eq (hit i acc σ B h) ?_)
    cases hv : l[i]? with
    | none =>
      have : l.length = i := by have := List.getElem?_eq_none_iff.mp hv; omega
      subst this
      show QL (acc ++ []) B
      rw [List.append_nil]; exact he acc σ B h
    | some v =>
      have hi := (List.getElem?_eq_some_iff.mp hv).1
      refine w_bnd (w_mono (hs i v acc σ B hv h) fun σ1 B1 h3 => w_bnd (w_mono h3 fun c B2 ⟨h4, h5⟩ => ?_))
      cases c with
      | true =>
        refine w_bnd (w_mono (h4 rfl) fun y B3 h6 => w_bnd (w_mono (w_cturns P hit hs he k (i + 1) (acc ++ [y]) σ1 B3 hi (by omega) h6) fun ys B4 h7 => ?_))
        show QL (acc ++ (y :: ys)) B4
        rw [show acc ++ (y :: ys) = acc ++ [y] ++ ys by simp]; exact h7
      | false => exact w_cturns P hit hs he k (i + 1) acc σ1 B2 hi (by omega) (h5 rfl)
theorem w_comp {it : ID} {mk : PSt → PSt} {g : GD} {t : TD} {e : ED} (h : Wp (it σ) A (fun J A1 => ∃ (l : List PV) (n : Nat) (P : Nat → List PV → PSt → PHp → Prop), fuelOf J A1 = .ok n A1 ∧ l.length ≤ n ∧ P 0 [] (mk σ) A1 ∧ (∀ i acc σ B, P i acc σ B → item J i B = .ok l[i]? B) ∧
    (∀ i v acc σ B, l[i]? = some v → P i acc σ B → Wp (g v σ) B (fun σ1 B1 => Wp (t σ1) B1 (fun c B2 => (c = true → Wp (e σ1) B2 (fun y B3 => P (i + 1) (acc ++ [y]) σ1 B3) E) ∧ (c = false → P (i + 1) acc σ1 B2)) E) E) ∧
    ∀ acc σ B, P l.length acc σ B → acc.length ≤ LIM ∧ Q (.ref B.length) (B ++ [.lst acc])) E) : Wp (eComp it mk g t e σ) A Q E :=
  w_bnd (w_mono h fun J A1 ⟨l, n, P, hf, hn, h0, hit, hs, he⟩ => w_bnd (w_eq hf (w_bnd (w_mono (w_cturns P hit hs (QL := fun acc B => acc.length ≤ LIM ∧ Q (.ref B.length) (B ++ [.lst acc])) he (n + 1) 0 [] (mk σ) A1 (Nat.zero_le _) (by omega) h0) fun ys B h12 => by
    obtain ⟨h1, h2⟩ := h12
    rw [List.nil_append] at h1 h2
    exact w_guard h1 h2))))
theorem w_compP {it : ID} {mk : PSt → PSt} {g : GD} {t : TD} {e : ED} {l : List PV} (S : PSt → Prop) (p : PV → Bool) (f : PV → PV) (h : Wp (it σ) A (fun J A1 => ∃ n, fuelOf J A1 = .ok n A1 ∧ l.length ≤ n ∧ l.length ≤ LIM ∧ S (mk σ) ∧ (∀ i, item J i A1 = .ok l[i]? A1) ∧
    (∀ v σ, v ∈ l → S σ → Wp (g v σ) A1 (fun σ1 B1 => B1 = A1 ∧ S σ1 ∧ Wp (t σ1) A1 (fun c B2 => B2 = A1 ∧ c = p v ∧ (c = true → Wp (e σ1) A1 (fun y B3 => B3 = A1 ∧ y = f v) E)) E) E) ∧
    Q (.ref A1.length) (A1 ++ [.lst ((l.filter p).map f)])) E) : Wp (eComp it mk g t e σ) A Q E :=
  w_comp (w_mono h fun J A1 ⟨n, hf, hn, hL, h0, hit, hs, he⟩ => ⟨l, n, fun i acc σ B => B = A1 ∧ S σ ∧ acc = ((l.take i).filter p).map f, hf, hn, ⟨rfl, h0, by simp⟩, fun i acc σ B ⟨h1, _⟩ => by rw [h1]; exact hit i, fun i v acc σ B hv ⟨h1, h2, h3⟩ => by
    subst h1
    refine w_mono (hs v σ (List.mem_of_getElem? hv) h2) fun σ1 B1 ⟨e1, h4, h5⟩ => ?_
    subst e1
    refine w_mono h5 fun c B2 ⟨e2, h6, h7⟩ => ?_
    subst e2
    have tk : l.take (i + 1) = l.take i ++ [v] := by rw [List.take_succ, hv]; rfl
    refine ⟨fun hc => w_mono (h7 hc) fun y B3 ⟨e3, h8⟩ => ⟨e3, h4, ?_⟩, fun hc => ⟨rfl, h4, ?_⟩⟩
    · rw [tk, List.filter_append, List.map_append, h3, h8, List.filter_cons_of_pos (by rw [← h6]; exact hc)]; rfl
    · rw [tk, List.filter_append, List.map_append, h3, List.filter_cons_of_neg (by rw [← h6, hc]; simp)]; simp, fun acc σ B ⟨h1, _, h3⟩ => by
    subst h1
    rw [List.take_of_length_le (Nat.le_refl _)] at h3
    subst h3
    exact ⟨by rw [List.length_map]; exact Nat.le_trans (List.length_filter_le _ _) hL, he⟩⟩)
theorem fuel_lst {n : Nat} {l : List PV} (h : A[n]? = some (.lst l)) : fuelOf (.lst n) A = .ok l.length A := by show bnd (lstAt n) _ A = _; rw [bnd_ok (lstAt_lst h)]; rfl
theorem item_lst {n : Nat} {l : List PV} (h : A[n]? = some (.lst l)) (i : Nat) : item (.lst n) i A = .ok l[i]? A := by show bnd (lstAt n) _ A = _; rw [bnd_ok (lstAt_lst h)]; rfl
theorem item_rng (n i : Nat) : item (.rng 0 n) i A = .ok ((List.range n).map fun (k : Nat) => PV.int (k : Int))[i]? A := by
  by_cases hi : i < n <;> simp [hi]
theorem atn {α : Type} {xs : List α} {j : Nat} (h : j < xs.length) : atI xs (j : Int) = some xs[j] := by
  unfold atI ixN
  rw [if_pos (by omega), if_pos (by omega)]
  simp [h]
theorem atm {xs : List Int} {j : Nat} (h : j < xs.length) : atI (xs.map PV.int) (j : Int) = some (.int xs[j]) := by
  rw [atn (by simpa using h)]; simp
theorem atl {xs : List Int} {i : Int} (h : 0 ≤ i ∧ i < xs.length) : atI (xs.map PV.int) i = some (.int (xs.getD i.toNat 0)) := by
  obtain ⟨j, rfl⟩ : ∃ j : Nat, i = j := ⟨i.toNat, by omega⟩
  have hj : j < xs.length := by omega
  rw [atm hj]; simp [hj]
end
noncomputable def pv (p : Int × Int) : PV := .tup [.int p.1, .int p.2]
noncomputable def pvs (ps : List (Int × Int)) : List PV := ps.map pv
theorem pv_plain (p : Int × Int) : plain (pv p) = true := rfl
theorem pvs_plain (ps : List (Int × Int)) : plains (pvs ps) = true := by
  rw [plains_iff]; intro x hx; obtain ⟨p, _, rfl⟩ := List.mem_map.mp hx; rfl
theorem pv_inj {p q : Int × Int} (h : pv p = pv q) : p = q := by
  obtain ⟨a, b⟩ := p; obtain ⟨c, d⟩ := q
  simp [pv] at h; simp [h]
theorem pIn_pvs (p : Int × Int) (ps : List (Int × Int)) : pIn (pv p) (pvs ps) = decide (p ∈ ps) := by
  induction ps with
  | nil => simp [pIn, pvs]
  | cons q r ih =>
    have e : eqv (pv q) (pv p) = decide (q = p) := by
      by_cases h : q = p
      · subst h; simp [(eqv_iff (pv q) (pv q) rfl).mpr rfl]
      · have : ¬ eqv (pv q) (pv p) = true := fun z => h (pv_inj ((eqv_iff _ _ rfl).mp z))
        simp [h, this]
    show (eqv (pv q) (pv p) || pIn (pv p) (pvs r)) = _
    rw [ih, e]
    by_cases h : q = p <;> by_cases h2 : p ∈ r <;> simp [h, h2]
    intro z; exact h z.symm
theorem mem_pvs {ps : List (Int × Int)} {v : PV} (h : v ∈ pvs ps) : ∃ p ∈ ps, v = pv p := by
  obtain ⟨p, hp, rfl⟩ := List.mem_map.mp h; exact ⟨p, hp, rfl⟩
noncomputable def fst1 : PV → Int
  | .tup [.int a, .int b] => a
  | _ => 0
noncomputable def snd1 : PV → Int
  | .tup [.int a, .int b] => b
  | _ => 0
@[simp] theorem fst1_pv (p : Int × Int) : fst1 (pv p) = p.1 := rfl
@[simp] theorem snd1_pv (p : Int × Int) : snd1 (pv p) = p.2 := rfl
theorem pIn_int (x : Int) (M : List Int) : pIn (.int x) (M.map .int) = decide (x ∈ M) := by
  induction M with
  | nil => rfl
  | cons a r ih =>
    have : pIn (.int x) ((a :: r).map .int) = (eqv (.int a) (.int x) || pIn (.int x) (r.map .int)) := rfl
    rw [this, ih]
    show (decide (a = x) || decide (x ∈ r)) = _
    by_cases h : a = x
    · subst h; simp
    · have h' : ¬ x = a := fun z => h z.symm
      simp [h, h']
section
variable {A : PHp} {Q : PV → PHp → Prop} {E : XP} {n : Nat} {x a b : Int} {M : List Int} {ps : List (Int × Int)}
theorem w_inI (hn : A[n]? = some (.lst (M.map .int))) (q : Q (.bl (decide (x ∈ M))) A) : Wp (oIn (.int x) (.ref n)) A Q E := w_inL hn ⟨rfl, plains_ints _⟩ (by rw [pIn_int]; exact q)
theorem w_notInI (hn : A[n]? = some (.lst (M.map .int))) (q : Q (.bl (!decide (x ∈ M))) A) : Wp (oNotIn (.int x) (.ref n)) A Q E := w_notInL hn ⟨rfl, plains_ints _⟩ (by rw [pIn_int]; exact q)
theorem w_inIT (q : Q (.bl (decide (x ∈ M))) A) : Wp (oIn (.int x) (.tup (M.map .int))) A Q E := w_inT ⟨rfl, plains_ints _⟩ (by rw [pIn_int]; exact q)
theorem w_notInIT (q : Q (.bl (!decide (x ∈ M))) A) : Wp (oNotIn (.int x) (.tup (M.map .int))) A Q E := w_notInT ⟨rfl, plains_ints _⟩ (by rw [pIn_int]; exact q)
theorem w_inP (hn : A[n]? = some (.lst (pvs ps))) (q : Q (.bl (decide ((a, b) ∈ ps))) A) : Wp (oIn (.tup [.int a, .int b]) (.ref n)) A Q E := w_inL hn ⟨rfl, pvs_plain _⟩ (by rw [show PV.tup [.int a, .int b] = pv (a, b) from rfl, pIn_pvs]; exact q)
theorem w_notInP (hn : A[n]? = some (.lst (pvs ps))) (q : Q (.bl (!decide ((a, b) ∈ ps))) A) : Wp (oNotIn (.tup [.int a, .int b]) (.ref n)) A Q E := w_notInL hn ⟨rfl, pvs_plain _⟩ (by rw [show PV.tup [.int a, .int b] = pv (a, b) from rfl, pIn_pvs]; exact q)
theorem plain_ints (l : List Int) : plain (.tup (l.map .int)) = true := by
  show (l.map PV.int).all flat2 = true
  rw [List.all_eq_true]; intro x hx; obtain ⟨y, _, rfl⟩ := List.mem_map.mp hx; rfl
theorem w_isA {QB : PV → PHp → Prop} {e : ED} {σ : PSt} {t : Ty} (h : Wp (e σ) A (fun x A1 => Wp (isTy t x) A1 (fun b A2 => QB (.bl b) A2) E) E) : Wp (eIsA e t σ) A QB E := w_bnd (w_mono h fun _ _ h1 => w_bnd h1)
theorem w_isTyV {QB : Bool → PHp → Prop} {t : Ty} {x : PV} {b : Bool} (h : isTy t x A = .ok b A) (q : QB b A) : Wp (isTy t x) A QB E := w_eq h q
theorem w_isTyL {QB : Bool → PHp → Prop} {l : List PV} (h : A[n]? = some (.lst l)) (q : QB true A) : Wp (isTy .list (.ref n)) A QB E := w_bnd (w_mut h q)
theorem eqvs_ints (l m : List Int) : eqvs (l.map .int) (m.map .int) = decide (l = m) := by
  have h := eqvs_iff (l.map .int) (m.map .int) (plains_ints _)
  have inj : l.map PV.int = m.map PV.int ↔ l = m := ⟨fun z => by
    have := congrArg intsOf z
    rw [intsOf_map, intsOf_map] at this
    exact Option.some.inj this, fun z => by rw [z]⟩
  cases e : eqvs (l.map .int) (m.map .int) with
  | true => exact (decide_eq_true (inj.mp (h.mp e))).symm
  | false => exact (decide_eq_false fun z => by rw [h.mpr (inj.mpr z)] at e; cases e).symm
theorem w_eqT0 {l : List Int} (q : Q (.bl (decide (l = []))) A) : Wp (oEq (.tup (l.map .int)) (.tup [])) A Q E := w_eqT ⟨plain_ints _, rfl⟩ (by rw [show ([] : List PV) = ([] : List Int).map .int from rfl, eqvs_ints]; exact q)
theorem w_neT0 {l : List Int} (q : Q (.bl (!decide (l = []))) A) : Wp (oNe (.tup (l.map .int)) (.tup [])) A Q E := w_neT ⟨plain_ints _, rfl⟩ (by rw [show ([] : List PV) = ([] : List Int).map .int from rfl, eqvs_ints]; exact q)
theorem w_eqL0 {n k : Nat} {l : List Int} (hn : A[n]? = some (.lst (l.map .int))) (hk : A[k]? = some (.lst [])) (q : Q (.bl (decide (l = []))) A) : Wp (oEq (.ref n) (.ref k)) A Q E := w_eqL hn hk ⟨plains_ints _, rfl⟩ (by rw [show ([] : List PV) = ([] : List Int).map .int from rfl, eqvs_ints]; exact q)
theorem w_neL0 {n k : Nat} {l : List Int} (hn : A[n]? = some (.lst (l.map .int))) (hk : A[k]? = some (.lst [])) (q : Q (.bl (!decide (l = []))) A) : Wp (oNe (.ref n) (.ref k)) A Q E := w_neL hn hk ⟨plains_ints _, rfl⟩ (by rw [show ([] : List PV) = ([] : List Int).map .int from rfl, eqvs_ints]; exact q)
theorem w_eqTI {l m : List Int} (q : Q (.bl (decide (l = m))) A) : Wp (oEq (.tup (l.map .int)) (.tup (m.map .int))) A Q E := w_eqT ⟨plain_ints _, plain_ints _⟩ (by rw [eqvs_ints]; exact q)
theorem w_neTI {l m : List Int} (q : Q (.bl (!decide (l = m))) A) : Wp (oNe (.tup (l.map .int)) (.tup (m.map .int))) A Q E := w_neT ⟨plain_ints _, plain_ints _⟩ (by rw [eqvs_ints]; exact q)
theorem w_eqIs {n k : Nat} {l m : List Int} (hn : A[n]? = some (.lst (l.map .int))) (hk : A[k]? = some (.lst (m.map .int))) (q : Q (.bl (decide (l = m))) A) : Wp (oEq (.ref n) (.ref k)) A Q E := w_eqL hn hk ⟨plains_ints _, plains_ints _⟩ (by rw [eqvs_ints]; exact q)
theorem w_neIs {n k : Nat} {l m : List Int} (hn : A[n]? = some (.lst (l.map .int))) (hk : A[k]? = some (.lst (m.map .int))) (q : Q (.bl (!decide (l = m))) A) : Wp (oNe (.ref n) (.ref k)) A Q E := w_neL hn hk ⟨plains_ints _, plains_ints _⟩ (by rw [eqvs_ints]; exact q)
end
section
variable {A : PHp} {E : XP} {σ : PSt} {e e1 e2 : ED}
theorem brT {P R : Prop} (h : P) : (true = true → P) ∧ (true = false → R) := ⟨fun _ => h, fun z => nomatch z⟩
theorem brT' {P R : Prop} (h : P) : (True → P) ∧ (true = false → R) := ⟨fun _ => h, fun z => nomatch z⟩
theorem brF' {P R : Prop} (h : R) : (false = true → P) ∧ (True → R) := ⟨fun z => (nomatch z), fun _ => h⟩
theorem brNT {P R : Prop} (h : R) : ((!true) = true → P) ∧ ((!true) = false → R) := ⟨fun z => (nomatch z), fun _ => h⟩
theorem brNF {P R : Prop} (h : P) : ((!false) = true → P) ∧ ((!false) = false → R) := ⟨fun _ => h, fun z => nomatch z⟩
theorem brF {P R : Prop} (h : R) : (false = true → P) ∧ (false = false → R) := ⟨fun z => (nomatch z), fun _ => h⟩
theorem exL {A : PHp} {n : Nat} {l : List PV} {R : Nat → List PV → Prop} (h : A[n]? = some (.lst l)) (q : R n l) : ∃ n' l', PV.ref n = .ref n' ∧ A[n']? = some (.lst l') ∧ R n' l' := ⟨n, l, rfl, h, q⟩
theorem exL1 {A : PHp} {n : Nat} {l : List PV} {R : List PV → Prop} (h : A[n]? = some (.lst l)) (q : R l) : ∃ l', A[n]? = some (.lst l') ∧ R l' := ⟨l, h, q⟩
theorem exO {A : PHp} {n c : Nat} {l : List (Nat × PV)} {R : Nat → List (Nat × PV) → Prop} (h : A[n]? = some (.ins c l)) (q : R n l) : ∃ n' l', PV.ref n = .ref n' ∧ A[n']? = some (.ins c l') ∧ R n' l' := ⟨n, l, rfl, h, q⟩
theorem exO2 {A : PHp} {n c : Nat} {l : List (Nat × PV)} {R : Nat → Nat → List (Nat × PV) → Prop} (h : A[n]? = some (.ins c l)) (q : R n c l) : ∃ n' c' l', PV.ref n = .ref n' ∧ A[n']? = some (.ins c' l') ∧ R n' c' l' := ⟨n, c, l, rfl, h, q⟩
theorem exF {A : PHp} {n c k : Nat} {l : List (Nat × PV)} {v : PV} {R : PV → Prop} (h : A[n]? = some (.ins c l)) (hv : getFld k l = some v) (q : R v) : ∃ n' c' l' v', PV.ref n = .ref n' ∧ A[n']? = some (.ins c' l') ∧ getFld k l' = some v' ∧ R v' := ⟨n, c, l, v, rfl, h, hv, q⟩
theorem exLA {A : PHp} {n : Nat} {l : List PV} {R : Nat → Prop} {R' : Prop} (h : A[n]? = some (.lst l)) (q : R n) : (∃ n' l', PV.ref n = .ref n' ∧ lstAt n' A = .ok l' A ∧ R n') ∨ R' := .inl ⟨n, l, rfl, lstAt_lst h, q⟩
theorem exTA {l : List PV} {R : List PV → Prop} {R' : Prop} (q : R l) : R' ∨ ∃ l', PV.tup l = .tup l' ∧ R l' := .inr ⟨l, rfl, q⟩
theorem lstAt_ro {A : PHp} {n : Nat} {l : List PV} (h : A[n]? = some (.ro l)) : lstAt n A = .ok l A := by unfold lstAt; rw [h]
theorem exLC {A : PHp} {n : Nat} {l : List PV} {R : Nat → List PV → Prop} {R' : Prop} (h : A[n]? = some (.lst l)) (q : R n l) : (∃ n' l', PV.ref n = .ref n' ∧ lstAt n' A = .ok l' A ∧ R n' l') ∨ R' := .inl ⟨n, l, rfl, lstAt_lst h, q⟩
theorem exRC {A : PHp} {n : Nat} {l : List PV} {R : Nat → List PV → Prop} {R' : Prop} (h : A[n]? = some (.ro l)) (q : R n l) : (∃ n' l', PV.ref n = .ref n' ∧ lstAt n' A = .ok l' A ∧ R n' l') ∨ R' := .inl ⟨n, l, rfl, lstAt_ro h, q⟩
theorem exRB {A : PHp} {n : Nat} {l : List PV} {R : Nat → Prop} (h : A[n]? = some (.ro l)) (q : R n) : ∃ n' l', PV.ref n = .ref n' ∧ lstAt n' A = .ok l' A ∧ R n' := ⟨n, l, rfl, lstAt_ro h, q⟩
theorem exRA {A : PHp} {n : Nat} {l : List PV} {R : Nat → Prop} {R' : Prop} (h : A[n]? = some (.ro l)) (q : R n) : (∃ n' l', PV.ref n = .ref n' ∧ lstAt n' A = .ok l' A ∧ R n') ∨ R' := .inl ⟨n, l, rfl, lstAt_ro h, q⟩
theorem exLB {A : PHp} {n : Nat} {l : List PV} {R : Nat → Prop} (h : A[n]? = some (.lst l)) (q : R n) : ∃ n' l', PV.ref n = .ref n' ∧ lstAt n' A = .ok l' A ∧ R n' := ⟨n, l, rfl, lstAt_lst h, q⟩
variable {QI : It → PHp → Prop}
theorem w_iseq (h : Wp (e σ) A (fun x A1 => (∃ n l, x = .ref n ∧ lstAt n A1 = .ok l A1 ∧ QI (.lst n) A1) ∨ ∃ l, x = .tup l ∧ QI (.tup l) A1) E) : Wp (iSeq e σ) A QI E := w_bnd (w_mono h fun x A1 h1 => by
  rcases h1 with ⟨n, l, rfl, h2, q⟩ | ⟨l, rfl, q⟩
  · exact w_bnd (w_eq h2 q)
  · exact q)
theorem w_irng1 (h : Wp (e σ) A (fun x A1 => ∃ n : Nat, x = .int n ∧ n ≤ 1000000 ∧ QI (.rng 0 n) A1) E) : Wp (iRng1 e σ) A QI E := w_bnd (w_mono h fun x A1 ⟨n, hx, hn, q⟩ => by
  subst hx
  have l1 : (n : Int) ≤ 1000000 := Int.ofNat_le.mpr hn
  refine w_guard ⟨Int.le_trans (by decide) (Int.natCast_nonneg n), Int.lt_of_le_of_lt l1 (by decide)⟩ (w_ret ?_)
  rw [Int.toNat_natCast]; exact q)
theorem w_irng2 (h : Wp (e1 σ) A (fun x A1 => Wp (e2 σ) A1 (fun y A2 => ∃ a b : Nat, x = .int a ∧ y = .int b ∧ (a ≤ 1000000 ∧ b ≤ 1000000) ∧ QI (.rng a (b - a)) A2) E) E) : Wp (iRng2 e1 e2 σ) A QI E :=
  w_bnd (w_mono h fun x A1 h1 => w_bnd (w_mono h1 fun y A2 ⟨a, b, hx, hy, hn, q⟩ => by
    subst hx; subst hy
    have l1 : (a : Int) ≤ 1000000 := Int.ofNat_le.mpr hn.1
    have l2 : (b : Int) ≤ 1000000 := Int.ofNat_le.mpr hn.2
    refine w_guard ⟨⟨Int.le_trans (by decide) (Int.natCast_nonneg a), Int.lt_of_le_of_lt l1 (by decide)⟩, Int.le_trans (by decide) (Int.natCast_nonneg b), Int.lt_of_le_of_lt l2 (by decide)⟩ (w_ret ?_)
    have : ((b : Int) - a).toNat = b - a := by omega
    rw [this]; exact q))
theorem w_izip (h : Wp (e1 σ) A (fun x A1 => Wp (e2 σ) A1 (fun y A2 => Wp (seqOf x) A2 (fun _ A3 => Wp (seqOf y) A3 (fun _ A4 => QI (.zip x y) A4) E) E) E) E) : Wp (iZip e1 e2 σ) A QI E :=
  w_bnd (w_mono h fun _ _ h1 => w_bnd (w_mono h1 fun _ _ h2 => w_bnd (w_mono h2 fun _ _ h3 => w_bnd h3)))
theorem w_ienm (h : Wp (e σ) A (fun x A1 => ∃ n l, x = .ref n ∧ lstAt n A1 = .ok l A1 ∧ QI (.enm n) A1) E) : Wp (iEnm e σ) A QI E := w_bnd (w_mono h fun x A1 ⟨n, l, hx, h2, q⟩ => by
  subst hx
  exact w_bnd (w_eq h2 q))
end
end Ws
local macro_rules | `(tactic| walk_at "st") => `(tactic| first
  | assumption
  | exact Ws.get_app
  | (refine Ws.get_app_of ?_; walk_at "st")
  | (refine Ws.pre_get (by assumption) ?_; walk_at "st"))
local macro_rules | `(tactic| walk_at "lim") => `(tactic| first
  | (refine Ws.lim_le ?_; (try simp only [List.length_map, List.length_append, List.length_cons, List.length_nil]); omega)
  | (refine Ws.lim_lt ?_; (try simp only [List.length_map, List.length_append, List.length_cons, List.length_nil]); omega))
local macro_rules | `(tactic| walk_at "s1") => `(tactic| first
  | with_reducible refine Ws.w_seq ?_
  | with_reducible refine Ws.w_asg ?_
  | with_reducible refine Ws.w_if ?_
  | with_reducible refine Ws.w_exp ?_
  | with_reducible refine Ws.w_retS ?_
  | with_reducible refine Ws.w_retN ?_
  | with_reducible refine Ws.w_pass ?_
  | with_reducible refine Ws.w_sfld ?_
  | with_reducible refine Ws.w_tval ?_
  | with_reducible refine Ws.w_tand ?_
  | with_reducible refine Ws.w_tor ?_
  | with_reducible refine Ws.w_tnot ?_
  | with_reducible refine Ws.w_bin ?_
  | with_reducible refine Ws.w_chain ?_
  | with_reducible refine Ws.w_and ?_
  | with_reducible refine Ws.w_or ?_
  | with_reducible refine Ws.w_not ?_
  | with_reducible refine Ws.w_ifE ?_
  | with_reducible refine Ws.w_isN ?_
  | with_reducible refine Ws.w_notN ?_
  | with_reducible refine Ws.w_cons ?_
  | with_reducible refine Ws.w_tup ?_
  | with_reducible refine Ws.w_lst ?_
  | with_reducible refine Ws.w_call ?_
  | with_reducible refine Ws.w_meth ?_
  | with_reducible refine Ws.w_make ?_
  | with_reducible refine Ws.w_fld ?_
  | with_reducible refine Ws.w_len ?_
  | with_reducible refine Ws.w_listOf ?_
  | with_reducible refine Ws.w_tupleOf ?_
  | with_reducible refine Ws.w_cut ?_
  | with_reducible refine Ws.w_cut2 ?_
  | with_reducible refine Ws.w_lat ?_
  | with_reducible refine Ws.w_append ?_
  | with_reducible refine Ws.w_isA ?_
  | with_reducible refine Ws.w_all ?_
  | with_reducible refine Ws.w_lenSet2 ?_
  | with_reducible refine Ws.w_revT ?_
  | with_reducible refine Ws.w_isF ?_
  | with_reducible refine Ws.w_izip ?_
  | with_reducible refine Ws.w_iseq ?_
  | with_reducible refine Ws.w_irng1 ?_
  | with_reducible refine Ws.w_irng2 ?_
  | with_reducible refine Ws.w_ienm ?_)
local macro_rules | `(tactic| walk_at "s2") => `(tactic| first
  | ((with_reducible apply Ws.w_var); (· rfl))
  | with_reducible refine Ws.w_k ?_
  | with_reducible refine Ws.w_true ?_
  | with_reducible refine Ws.w_nil ?_
  | with_reducible refine Ws.w_gname ?_
  | with_reducible refine Ws.w_gnil ?_
  | with_reducible refine Ws.w_gcons ?_
  | ((with_reducible apply Ws.w_gtup); (· rfl))
  | with_reducible refine Ws.w_add ?_
  | with_reducible refine Ws.w_add2 ?_
  | with_reducible refine Ws.w_sub ?_
  | ((with_reducible apply Ws.w_mod); (· omega))
  | ((with_reducible apply Ws.w_fdiv); (· omega))
  | with_reducible refine Ws.w_lt ?_
  | with_reducible refine Ws.w_le ?_
  | with_reducible refine Ws.w_gt ?_
  | with_reducible refine Ws.w_ge ?_
  | with_reducible refine Ws.w_eqI ?_
  | with_reducible refine Ws.w_neI ?_
  | with_reducible refine Ws.w_eqB ?_
  | with_reducible refine Ws.w_neB ?_
  | with_reducible refine Ws.w_lno ?_
  | ((with_reducible apply Ws.w_inI); (· walk_at "st"))
  | ((with_reducible apply Ws.w_notInI); (· walk_at "st"))
  | with_reducible refine Ws.w_inIT ?_
  | with_reducible refine Ws.w_notInIT ?_
  | ((with_reducible apply Ws.w_inP); (· walk_at "st"))
  | ((with_reducible apply Ws.w_notInP); (· walk_at "st"))
  | ((with_reducible apply Ws.w_isTyL); (· walk_at "st"))
  | ((with_reducible apply Ws.w_isTyV); (· rfl))
  | with_reducible refine Ws.w_eqT0 ?_
  | with_reducible refine Ws.w_neT0 ?_
  | with_reducible refine Ws.w_eqTI ?_
  | with_reducible refine Ws.w_neTI ?_
  | ((with_reducible apply Ws.w_eqL0); (· walk_at "st"); (· walk_at "st"))
  | ((with_reducible apply Ws.w_neL0); (· walk_at "st"); (· walk_at "st"))
  | ((with_reducible apply Ws.w_eqIs); (· walk_at "st"); (· walk_at "st"))
  | ((with_reducible apply Ws.w_neIs); (· walk_at "st"); (· walk_at "st"))
  | ((with_reducible refine Ws.w_seqT ?_); (try dsimp only); (try rw [List.length_map]))
  | ((with_reducible apply Ws.w_seqL); (· walk_at "st"); (try dsimp only); (try rw [List.length_map]))
  | ((with_reducible apply Ws.w_seqR); (· walk_at "st"))
  | ((with_reducible apply Ws.w_ixL); (· walk_at "st"); (· walk_at "ix"))
  | ((with_reducible apply Ws.w_ixR); (· walk_at "st"); (· walk_at "ix"))
  | ((with_reducible apply Ws.w_ixT); (· walk_at "ix")))
local macro_rules | `(tactic| walk_at "ix") => `(tactic| first
  | assumption
  | rfl
  | exact Ws.atl (by omega))
local macro_rules | `(tactic| walk_at "s3") => `(tactic| first
  | with_reducible refine Ws.brT ?_
  | with_reducible refine Ws.brF ?_
  | with_reducible refine Ws.brNT ?_
  | with_reducible refine Ws.brNF ?_
  | with_reducible refine Ws.brT' ?_
  | with_reducible refine Ws.brF' ?_
  | with_reducible refine ⟨_, rfl, ?_⟩
  | ((with_reducible apply Ws.exL); (· walk_at "st"))
  | ((with_reducible apply Ws.exL1); (· walk_at "st"))
  | ((with_reducible apply Ws.exO); (· walk_at "st"))
  | ((with_reducible apply Ws.exO2); (· walk_at "st"))
  | ((with_reducible apply Ws.exF); (· walk_at "st"); (· rfl))
  | ((with_reducible apply Ws.exLA); (· walk_at "st"))
  | ((with_reducible apply Ws.exLB); (· walk_at "st"))
  | ((with_reducible apply Ws.exLC); (· walk_at "st"))
  | ((with_reducible apply Ws.exRC); (· walk_at "st"))
  | ((with_reducible apply Ws.exRB); (· walk_at "st"))
  | ((with_reducible apply Ws.exRA); (· walk_at "st"))
  | with_reducible apply Ws.exTA
  | ((with_reducible refine And.intro ?h1 ?_); (case h1 => first | walk_at "lim" | omega)))
local macro_rules | `(tactic| walk_at "s") => `(tactic| (first | walk_at "s1" | walk_at "s2" | walk_at "s3"); (try dsimp only [List.set, Ws.TurnQ]))
local macro_rules | `(tactic| walk_at "fn") => `(tactic| (refine Ws.w_fn (by rfl) ?_; simp only [Ws.start, List.map_cons, List.map_nil, List.length_cons, List.length_nil, Nat.reduceAdd, Nat.reduceSub, List.replicate, List.cons_append, List.nil_append]))
local macro_rules | `(tactic| walk_at "go") => `(tactic| repeat walk_at "s")
namespace Ws
noncomputable def f_is_whole : Fun := fn 1 1
 (sRet (eAnd (eIsA (eVar 0) .int) (eNot (eIsA (eVar 0) .bool))))
noncomputable def f_is_hand : Fun := fn 2 2
 (sRet (eAnd (eCall f_is_whole (aCons (eVar 1) aNil)) (eChain oLe oLt (eK (.int 0)) (eVar 1) (eVar 0))))
noncomputable def f_is_number_of_hands : Fun := fn 1 1
 (sRet (eAnd (eCall f_is_whole (aCons (eVar 0) aNil)) (eChain oLe oLe (eK (.int 2)) (eVar 0) (eK (.int 6)))))
noncomputable def f_is_passing : Fun := fn 2 2
 (sSeq (sIf (tOr (tNot (tVal (eIsA (eVar 1) .tuple))) (tVal (eBin oNe (eLen (eVar 1)) (eK (.int 2)))))
 (sRet (eK (.bl false)))
 sPass)
 (sRet (eAnd (eCall f_is_hand (aCons (eVar 0) (aCons (eBin oIx (eVar 1) (eK (.int 0))) aNil))) (eAnd (eCall f_is_hand (aCons (eVar 0) (aCons (eBin oIx (eVar 1) (eK (.int 1))) aNil))) (eBin oNe (eBin oIx (eVar 1) (eK (.int 0))) (eBin oIx (eVar 1) (eK (.int 1))))))))
noncomputable def f_first_wrong_passing_b1 : SD :=
 (sIf (tOr (tNot (tVal (eCall f_is_passing (aCons (eVar 0) (aCons (eVar 3) aNil))))) (tVal (eBin oIn (eVar 3) (eCut (eVar 1) lNo (lAt (eVar 2))))))
 (sRet (eVar 2))
 sPass)
noncomputable def f_first_wrong_passing_l1 : SD := sFor (iEnm (eVar 1)) (gTup 2 (gCons (gName 2) (gCons (gName 3) gNil))) f_first_wrong_passing_b1
noncomputable def f_first_wrong_passing : Fun := fn 4 2
 (sSeq f_first_wrong_passing_l1
 (sRet (eK .non)))
noncomputable def f_Web_init : Fun := fn 4 3
 (sSeq (sIf (tNot (tVal (eCall f_is_number_of_hands (aCons (eVar 1) aNil))))
 sNever
 sPass)
 (sSeq (sAsg (eCall f_first_wrong_passing (aCons (eVar 1) (aCons (eVar 2) aNil))) (gName 3))
 (sSeq (sIf (tVal (eNotN (eVar 3)))
 sNever
 sPass)
 (sSeq (sFld (eVar 0) 0 (eVar 1))
 (sFld (eVar 0) 1 (eSorted (eVar 2)))))))
noncomputable def f_Web_givers_of_c1 : ED := eComp (iSeq (eFld (eVar 0) 1)) (bst [none, none, some 1]) (gTup 2 (gCons (gName 0) (gCons (gName 1) gNil))) (tVal (eBin oEq (eVar 1) (eVar 2))) (eVar 0)
noncomputable def f_Web_givers_of : Fun := fn 2 2
 (sRet f_Web_givers_of_c1)
noncomputable def f_Web_known_lay_turns_b1 : SD :=
 (sDPut (eVar 2) (eVar 3) (eK (.int 1)))
noncomputable def f_Web_known_lay_turns_l1 : SD := sFor (iSeq (eVar 1)) (gName 3) f_Web_known_lay_turns_b1
noncomputable def f_Web_known_lay_turns_c1 : ED := eComp (iSeq (eVar 6)) (bst [none, some 2]) (gName 0) tTrue (eDIn (eVar 0) (eVar 1))
noncomputable def f_Web_known_lay_turns_c2 : ED := eComp (iSeq (eVar 6)) (bst [none, some 2]) (gName 0) tTrue (eDGet (eVar 1) (eVar 0))
noncomputable def f_Web_known_lay_turns_b3 : SD :=
 (sSeq (sAsg (eMeth 0 f_Web_givers_of (eVar 0) (aCons (eVar 5) aNil)) (gName 6))
 (sIf (tAnd (tVal (eDNotIn (eVar 5) (eVar 2))) (tVal (eAll f_Web_known_lay_turns_c1)))
 (sDPut (eVar 2) (eVar 5) (eBin oAdd (eK (.int 1)) (eMaxD f_Web_known_lay_turns_c2 (eK (.int 0)))))
 sPass))
noncomputable def f_Web_known_lay_turns_l3 : SD := sFor (iRng1 (eFld (eVar 0) 0)) (gName 5) f_Web_known_lay_turns_b3
noncomputable def f_Web_known_lay_turns_b2 : SD :=
 f_Web_known_lay_turns_l3
noncomputable def f_Web_known_lay_turns_l2 : SD := sFor (iRng1 (eFld (eVar 0) 0)) (gName 4) f_Web_known_lay_turns_b2
noncomputable def f_Web_known_lay_turns : Fun := fn 7 2
 (sSeq (sAsg eDNew (gName 2))
 (sSeq f_Web_known_lay_turns_l1
 (sSeq f_Web_known_lay_turns_l2
 (sRet (eVar 2)))))
noncomputable def f_Web_ring_c1 : ED := eComp (iRng1 (eFld (eVar 0) 0)) (bst [none, some 2]) (gName 0) (tVal (eDNotIn (eVar 0) (eVar 1))) (eVar 0)
noncomputable def f_Web_ring_c2 : ED := eComp (iSeq (eMeth 0 f_Web_givers_of (eVar 0) (aCons (eBin oIx (eVar 4) (eK (.int 0))) aNil))) (bst [none, some 3]) (gName 0) (tVal (eBin oIn (eVar 0) (eVar 1))) (eVar 0)
noncomputable def f_Web_ring_b1 : SD :=
 (sSeq (sAsg f_Web_ring_c2 (gName 5))
 (sExpr (eInsert (eVar 4) (eBin oIx (eVar 5) (eK (.int 0))))))
noncomputable def f_Web_ring_l1 : SD := sWhile (tVal (eBin oEq (eCount (eVar 4) (eBin oIx (eVar 4) (eK (.int 0)))) (eK (.int 1)))) f_Web_ring_b1
noncomputable def f_Web_ring : Fun := fn 6 2
 (sSeq (sAsg (eMeth 0 f_Web_known_lay_turns (eVar 0) (aCons (eVar 1) aNil)) (gName 2))
 (sSeq (sAsg f_Web_ring_c1 (gName 3))
 (sSeq (sIf (tVal (eBin oEq (eVar 3) (eLst aNil)))
 (sRet (eK .non))
 sPass)
 (sSeq (sAsg (eLst (aCons (eBin oIx (eVar 3) (eK (.int 0))) aNil)) (gName 4))
 (sSeq f_Web_ring_l1
 (sRet (eCut (eVar 4) lNo (lAt (eIndex1 (eVar 4) (eBin oIx (eVar 4) (eK (.int 0))))))))))))
noncomputable def f_Web_lay_turns_c1 : ED := eComp (iRng1 (eFld (eVar 0) 0)) (bst [none, some 2]) (gName 0) tTrue (eDGet (eVar 1) (eVar 0))
noncomputable def f_Web_lay_turns : Fun := fn 3 2
 (sSeq (sAsg (eMeth 0 f_Web_known_lay_turns (eVar 0) (aCons (eVar 1) aNil)) (gName 2))
 (sSeq (sIf (tVal (eBin oLt (eLenD (eVar 2)) (eFld (eVar 0) 0)))
 (sRet (eK .non))
 sPass)
 (sRet f_Web_lay_turns_c1)))
noncomputable def f_least_leaders_c1 : ED := eComp (iRng1 (eFld (eVar 0) 0)) (bst [none]) (gName 0) tTrue (eLst (aCons (eVar 0) aNil))
noncomputable def f_least_leaders_c2 : ED := eComp (iRng2 (eBin oAdd (eBin oIx (eVar 2) (eK (.int (-1)))) (eK (.int 1))) (eFld (eVar 0) 0)) (bst [none, some 2]) (gName 0) tTrue (eBin oAdd (eVar 1) (eLst (aCons (eVar 0) aNil)))
noncomputable def f_least_leaders_b1 : SD :=
 (sSeq (sAsg (ePop0 (eVar 1)) (gName 2))
 (sExpr (eExtend (eVar 1) f_least_leaders_c2)))
noncomputable def f_least_leaders_l1 : SD := sWhile (tVal (eNotN (eMeth 0 f_Web_ring (eVar 0) (aCons (eBin oIx (eVar 1) (eK (.int 0))) aNil)))) f_least_leaders_b1
noncomputable def f_least_leaders : Fun := fn 3 1
 (sSeq (sAsg f_least_leaders_c1 (gName 1))
 (sSeq f_least_leaders_l1
 (sRet (eBin oIx (eVar 1) (eK (.int 0))))))
noncomputable def f_span : Fun := fn 2 2
 (sRet (eMax (eMeth 0 f_Web_lay_turns (eVar 0) (aCons (eVar 1) aNil))))
noncomputable def f_law_cell_at : Fun := fn 2 2
 (sSeq (sIf (tVal (eBin oLt (eVar 1) (eLen (eVar 0))))
 (sRet (eBin oIx (eVar 0) (eVar 1)))
 sPass)
 (sRet (eK (.int 0))))
noncomputable def f_law_web_b2 : SD :=
 (sIf (tAnd (tVal (eBin oNe (eVar 6) (eVar 7))) (tVal (eBin oEq (eBin oAnd (eBin oShr (eVar 4) (eBin oAdd (eBin oMul (eVar 6) (eK (.int 6))) (eVar 7))) (eK (.int 1))) (eK (.int 1)))))
 (sExpr (eAppend (eVar 5) (eTup (aCons (eVar 6) (aCons (eVar 7) aNil)))))
 sPass)
noncomputable def f_law_web_l2 : SD := sFor (iRng1 (eVar 3)) (gName 7) f_law_web_b2
noncomputable def f_law_web_b1 : SD :=
 f_law_web_l2
noncomputable def f_law_web_l1 : SD := sFor (iRng1 (eVar 3)) (gName 6) f_law_web_b1
noncomputable def f_law_web_b3 : SD :=
 (sSeq (sExpr (eAppend (eVar 9) (ePopI (eVar 9) (eBin oMod (eVar 8) (eBin oSub (eVar 3) (eVar 10))))))
 (sAsg (eBin oFdiv (eVar 8) (eK (.int 7))) (gName 8)))
noncomputable def f_law_web_l3 : SD := sFor (iRng1 (eVar 3)) (gName 10) f_law_web_b3
noncomputable def f_law_web_b4 : SD :=
 (sSeq (sAsg (eTup (aCons (eBin oIx (eVar 9) (eBin oSub (eVar 10) (eK (.int 1)))) (aCons (eBin oIx (eVar 9) (eVar 10)) aNil))) (gName 11))
 (sIf (tVal (eBin oNotIn (eVar 11) (eVar 5)))
 (sExpr (eAppend (eVar 5) (eVar 11)))
 sPass))
noncomputable def f_law_web_l4 : SD := sFor (iRng1 (eVar 3)) (gName 10) f_law_web_b4
noncomputable def f_law_web : Fun := fn 12 3
 (sSeq (sAsg (eBin oAdd (eK (.int 2)) (eBin oMod (eVar 0) (eK (.int 5)))) (gName 3))
 (sSeq (sAsg (eVar 1) (gName 4))
 (sSeq (sIf (tVal (eBin oGt (eBin oMod (eBin oFdiv (eVar 0) (eK (.int 15))) (eK (.int 3))) (eK (.int 0))))
 (sSeq (sAsg (eBin oMod (eBin oMul (eBin oAdd (eVar 1) (eK (.int 1))) (eK (.int 6364136223846793005))) (eK (.int 2305843009213693951))) (gName 4))
 (sAsg (eBin oMod (eBin oMul (eVar 4) (eBin oAdd (eBin oFdiv (eVar 4) (eK (.int 1009))) (eK (.int 69621)))) (eK (.int 2305843009213693951))) (gName 4)))
 sPass)
 (sSeq (sIf (tVal (eBin oEq (eBin oMod (eBin oFdiv (eVar 0) (eK (.int 15))) (eK (.int 3))) (eK (.int 1))))
 (sAsg (eBin oAnd (eVar 4) (eBin oShr (eVar 4) (eK (.int 7)))) (gName 4))
 sPass)
 (sSeq (sAsg (eLst aNil) (gName 5))
 (sSeq f_law_web_l1
 (sSeq (sIf (tVal (eBin oGt (eBin oMod (eBin oFdiv (eVar 0) (eK (.int 5))) (eK (.int 3))) (eK (.int 0))))
 (sSeq (sAsg (eVar 2) (gName 8))
 (sSeq (sAsg (eListRng (eVar 3)) (gName 9))
 (sSeq f_law_web_l3
 f_law_web_l4)))
 sPass)
 (sRet (eTup (aCons (eVar 3) (aCons (eVar 5) aNil)))))))))))
noncomputable def f_law_turns_c1 : ED := eComp (iSeq (eVar 2)) (bst [none]) (gName 0) tTrue (eTup (aCons (eVar 0) (aCons (eK (.int 1)) aNil)))
noncomputable def f_law_turns_c2 : ED := eComp (iSeq (eVar 1)) (bst [none, none, some 5]) (gTup 2 (gCons (gName 0) (gCons (gName 1) gNil))) (tVal (eBin oEq (eVar 1) (eVar 2))) (eVar 0)
noncomputable def f_law_turns_c3 : ED := eComp (iSeq (eVar 6)) (bst [none, some 3]) (gName 0) (tVal (eDNotIn (eVar 0) (eVar 1))) (eVar 0)
noncomputable def f_law_turns_c4 : ED := eComp (iSeq (eVar 6)) (bst [none, some 3]) (gName 0) tTrue (eDGet (eVar 1) (eVar 0))
noncomputable def f_law_turns_b2 : SD :=
 (sSeq (sAsg f_law_turns_c2 (gName 6))
 (sIf (tAnd (tVal (eDNotIn (eVar 5) (eVar 3))) (tVal (eBin oEq f_law_turns_c3 (eLst aNil))))
 (sSeq (sDPut (eVar 3) (eVar 5) (eBin oAdd (eK (.int 1)) (eMax (eBin oAdd (eLst (aCons (eK (.int 0)) aNil)) f_law_turns_c4))))
 (sAsg (eK (.bl true)) (gName 4)))
 sPass))
noncomputable def f_law_turns_l2 : SD := sFor (iRng1 (eVar 0)) (gName 5) f_law_turns_b2
noncomputable def f_law_turns_b1 : SD :=
 (sSeq (sAsg (eK (.bl false)) (gName 4))
 f_law_turns_l2)
noncomputable def f_law_turns_l1 : SD := sWhile (tVal (eVar 4)) f_law_turns_b1
noncomputable def f_law_turns : Fun := fn 7 3
 (sSeq (sAsg (eDictOf f_law_turns_c1) (gName 3))
 (sSeq (sAsg (eK (.bl true)) (gName 4))
 (sSeq f_law_turns_l1
 (sRet (eVar 3)))))
noncomputable def f_law_bits_c1 : ED := eComp (iRng1 (eVar 0)) (bst [none, some 1]) (gName 0) (tVal (eBin oEq (eBin oAnd (eBin oShr (eVar 1) (eVar 0)) (eK (.int 1))) (eK (.int 1)))) (eVar 0)
noncomputable def f_law_bits : Fun := fn 2 2
 (sRet f_law_bits_c1)
noncomputable def f_law_b1 : SD :=
 (sSeq (sAsg (eCall f_law_bits (aCons (eVar 1) (aCons (eVar 6) aNil))) (gName 7))
 (sIf (tAnd (tVal (eBin oLtL (eTup (aCons (eLen (eVar 7)) (aCons (eVar 7) aNil))) (eTup (aCons (eLen (eVar 5)) (aCons (eVar 5) aNil))))) (tVal (eBin oEq (eLenD (eCall f_law_turns (aCons (eVar 1) (aCons (eVar 2) (aCons (eVar 7) aNil))))) (eVar 1))))
 (sRet (eK (.bl false)))
 sPass))
noncomputable def f_law_l1 : SD := sFor (iRng2 (eK (.int 1)) (eBin oShl (eK (.int 1)) (eVar 1))) (gName 6) f_law_b1
noncomputable def f_law : Fun := fn 10 1
 (sSeq (sAsg (eCall f_law_web (aCons (eCall f_law_cell_at (aCons (eVar 0) (aCons (eK (.int 0)) aNil))) (aCons (eCall f_law_cell_at (aCons (eVar 0) (aCons (eK (.int 1)) aNil))) (aCons (eCall f_law_cell_at (aCons (eVar 0) (aCons (eK (.int 2)) aNil))) aNil)))) (gTup 2 (gCons (gName 1) (gCons (gName 2) gNil))))
 (sSeq (sAsg (eMake 0 f_Web_init (aCons (eVar 1) (aCons (eListOf (eVar 2)) aNil))) (gName 3))
 (sSeq (sAsg (eCall f_least_leaders (aCons (eVar 3) aNil)) (gName 4))
 (sSeq (sAsg (eListOf (eVar 4)) (gName 5))
 (sSeq (sIf (tOr (tNot (tVal (eIsA (eVar 4) .list))) (tVal (eBin oNe (eLenD (eCall f_law_turns (aCons (eVar 1) (aCons (eVar 2) (aCons (eVar 5) aNil))))) (eVar 1))))
 (sRet (eK (.bl false)))
 sPass)
 (sSeq (sExpr (eAppend (eVar 4) (eK (.int 0))))
 (sSeq (sIf (tVal (eBin oNe (eCall f_least_leaders (aCons (eVar 3) aNil)) (eVar 5)))
 (sRet (eK (.bl false)))
 sPass)
 (sSeq f_law_l1
 (sSeq (sIf (tVal (eBin oNe (eCall f_span (aCons (eVar 3) (aCons (eVar 5) aNil))) (eMaxV (eCall f_law_turns (aCons (eVar 1) (aCons (eVar 2) (aCons (eVar 5) aNil)))))))
 (sRet (eK (.bl false)))
 sPass)
 (sSeq (sAsg (eCall f_law_bits (aCons (eVar 1) (aCons (eCall f_law_cell_at (aCons (eVar 0) (aCons (eK (.int 3)) aNil))) aNil))) (gName 8))
 (sSeq (sAsg (eCall f_law_turns (aCons (eVar 1) (aCons (eVar 2) (aCons (eVar 8) aNil)))) (gName 9))
 (sRet (eOr (eBin oNe (eLenD (eVar 9)) (eVar 1)) (eBin oEq (eCall f_span (aCons (eVar 3) (aCons (eVar 8) aNil))) (eMaxV (eVar 9))))))))))))))))
end Ws
namespace Ws
@[simp] theorem is_whole_eq (i : Int) (A : PHp) : f_is_whole [.int i] A = .ok (.bl true) A := by simp [f_is_whole]
theorem is_hand_eq (n h : Int) (A : PHp) : f_is_hand [.int n, .int h] A = .ok (.bl (decide (0 ≤ h ∧ h < n))) A := by
  by_cases h0 : 0 ≤ h <;> simp [f_is_hand, h0]
theorem is_number_eq (n : Int) (A : PHp) : f_is_number_of_hands [.int n] A = .ok (.bl (decide (2 ≤ n ∧ n ≤ 6))) A := by
  by_cases h0 : 2 ≤ n <;> simp [f_is_number_of_hands, h0]
noncomputable def good (n : Int) (p : Int × Int) : Prop := (0 ≤ p.1 ∧ p.1 < n) ∧ (0 ≤ p.2 ∧ p.2 < n) ∧ p.1 ≠ p.2
noncomputable instance (n : Int) (p : Int × Int) : Decidable (good n p) := by unfold good; infer_instance
theorem is_passing_eq (n : Int) (p : Int × Int) (A : PHp) : f_is_passing [.int n, pv p] A = .ok (.bl (decide (good n p))) A := by
  by_cases h0 : 0 ≤ p.1 ∧ p.1 < n <;> by_cases h1 : 0 ≤ p.2 ∧ p.2 < n <;> simp [f_is_passing, pv, good, atI, ixN, plain, eqv, is_hand_eq, h0, h1]
structure Passings (n : Int) (ps : List (Int × Int)) : Prop where
  lo : 2 ≤ n
  hi : n ≤ 6
  good : ∀ p ∈ ps, good n p
  nd : ps.Nodup
  len : ps.length < 64
theorem cut_to {α : Type} (xs : List α) (i : Nat) : cut xs none (some (i : Int)) = xs.take i := by
  unfold cut cutIx
  simp only [List.drop_zero, Nat.sub_zero]
  rw [if_neg (by omega)]
  rw [show (min (i : Int) (xs.length : Int)).toNat = min i xs.length by omega, List.take_eq_take_iff]
  omega
theorem first_wrong_ok {n : Int} {ps : List (Int × Int)} (W : Passings n ps) {A : PHp} {r : Nat} (hr : A[r]? = some (.lst (pvs ps))) :
    ∃ A', f_first_wrong_passing [.int n, .ref r] A = .ok .non A' ∧ A <+: A' := by
  have hl : Comes (f_first_wrong_passing_l1 [some (.int n), some (.ref r), none, none] A) (fun σ A' => A <+: A') (fun _ _ => False) := by
    unfold f_first_wrong_passing_l1
    refine (for_enm (l := pvs ps) (a := r) (A1 := A) (by simp [hr]) (fun i σ A' => A <+: A' ∧ ∃ x y, σ = [some (.int n), some (.ref r), x, y]) (fun _ _ => False) ⟨List.prefix_refl _, _, _, rfl⟩ ?_ ?_).mono (fun _ _ h => h.1) (fun _ _ h => h)
    · rintro i σ A' ⟨hp, _⟩
      simp [pre_get hp hr]
    · rintro i v σ A' hv ⟨hp, x, y, rfl⟩
      have hr' := pre_get hp hr
      obtain ⟨p, hp1, rfl⟩ : ∃ p, ps[i]? = some p ∧ v = pv p := by
        simp only [pvs, List.getElem?_map] at hv
        cases e : ps[i]? with
        | none => rw [e] at hv; cases hv
        | some p => rw [e] at hv; exact ⟨p, rfl, (Option.some.inj hv).symm⟩
      have hmem : p ∈ ps := List.mem_of_getElem? hp1
      have hg := W.good p hmem
      have hnin : p ∉ ps.take i := by
        intro hm
        have hlt := (List.getElem?_eq_some_iff.mp hp1).1
        obtain ⟨j, hj, e⟩ := List.mem_iff_getElem.mp hm
        rw [List.length_take] at hj
        rw [List.getElem_take] at e
        have e2 : ps[i] = p := (List.getElem?_eq_some_iff.mp hp1).2
        exact List.pairwise_iff_getElem.mp W.nd j i (by omega) hlt (by omega) (e.trans e2.symm)
      have hc : cut (pvs ps) none (some (i : Int)) = pvs (ps.take i) := by rw [cut_to]; simp [pvs, List.map_take]
      refine Turns.nx (σ := [some (.int n), some (.ref r), some (.int i), some (pv p)]) (A := A' ++ [.lst (pvs (ps.take i))]) ?_ ⟨pre_app hp, _, _, rfl⟩
      simp [f_first_wrong_passing_b1, is_passing_eq, hg, hr', hc, pv_plain, pvs_plain, pIn_pvs, hnin]
  obtain ⟨σ, A', e, h⟩ := hl.end
  refine ⟨A', ?_, h⟩
  simp [f_first_wrong_passing, e]
noncomputable def l2 (p : Int × Int) : List Int := [p.1, p.2]
noncomputable def ltP (p q : Int × Int) : Bool := lexLt (l2 p) (l2 q)
noncomputable def srt (ps : List (Int × Int)) : List (Int × Int) := sortBy ltP ps
theorem insBy_map {α β : Type} (f : α → β) (lt : β → β → Bool) (a : α) : ∀ l : List α, insBy lt (f a) (l.map f) = (insBy (fun x y => lt (f x) (f y)) a l).map f
  | [] => rfl
  | b :: r => by
    have ih := insBy_map f lt a r
    simp only [List.map_cons, insBy]
    split
    · rw [ih]; rfl
    · rfl
theorem sortBy_map {α β : Type} (f : α → β) (lt : β → β → Bool) : ∀ l : List α, sortBy lt (l.map f) = (sortBy (fun x y => lt (f x) (f y)) l).map f
  | [] => rfl
  | a :: r => by
    simp only [List.map_cons, sortBy]
    rw [sortBy_map f lt r, insBy_map]
theorem pvs_eq (ps : List (Int × Int)) : pvs ps = (ps.map l2).map fun t => PV.tup (t.map .int) := by
  simp [pvs, pv, l2]
theorem sorted_pvs {ps : List (Int × Int)} {A : PHp} (h : ps.length < 64) : pSorted (pvs ps) A = .ok (pvs (srt ps)) A := by
  rw [pvs_eq, pSorted_tups (by simpa using h) (by intro t ht; obtain ⟨p, _, rfl⟩ := List.mem_map.mp ht; simp [l2]), sortBy_map, pvs_eq]
  rfl
theorem srt_perm (ps : List (Int × Int)) : (srt ps).Perm ps := sortBy_perm _ _
structure WebAt (A : PHp) (w r : Nat) (n : Int) (ps : List (Int × Int)) : Prop where
  ob : A[w]? = some (.ins 0 [(0, .int n), (1, .ref r)])
  ls : A[r]? = some (.lst (pvs (srt ps)))
theorem WebAt.mono {A B : PHp} {w r : Nat} {n : Int} {ps : List (Int × Int)} (h : WebAt A w r n ps) (e : A <+: B) : WebAt B w r n ps := ⟨pre_get e h.ob, pre_get e h.ls⟩
theorem web_init {n : Int} {ps : List (Int × Int)} (W : Passings n ps) {A B : PHp} {w q : Nat} (hA : A <+: B) (hw : A.length ≤ w) (ho : B[w]? = some (.ins 0 [])) (hq : B[q]? = some (.lst (pvs ps))) :
    ∃ B' r, f_Web_init [.ref w, .int n, .ref q] B = .ok .non B' ∧ A <+: B' ∧ WebAt B' w r n ps ∧ w < r := by
  obtain ⟨B1, e1, h1⟩ := first_wrong_ok W hq
  have ho1 := pre_get h1 ho
  have hq1 := pre_get h1 hq
  have hwl := pre_lt ho1
  have nqw : q ≠ w := by rintro rfl; rw [hq] at ho; cases ho
  have hq2 : (B1.set w (.ins 0 [(0, .int n)]))[q]? = some (.lst (pvs ps)) := by rw [get_set_ne nqw]; exact hq1
  have ho2 : (B1.set w (.ins 0 [(0, .int n)]))[w]? = some (.ins 0 [(0, .int n)]) := get_set ho1
  have ho3 := get_app_of (o := PO.lst (pvs (srt ps))) ho2
  refine ⟨((B1.set w (PO.ins 0 [(0, .int n)])) ++ [PO.lst (pvs (srt ps))]).set w (PO.ins 0 [(0, .int n), (1, .ref B1.length)]), B1.length, ?_, ?_, ⟨get_set ho3, ?_⟩, hwl⟩
  · simp [f_Web_init, is_number_eq, W.lo, W.hi, e1, ho1, ho2, hq2, ho3, sorted_pvs W.len]
  · exact pre_set (pre_app (pre_set (hA.trans h1) hw)) hw
  · rw [get_set_ne (Nat.ne_of_gt hwl)]
    have := get_app (A := B1.set w (.ins 0 [(0, .int n)])) (o := .lst (pvs (srt ps)))
    rwa [List.length_set] at this
theorem web_make {n : Int} {ps : List (Int × Int)} (W : Passings n ps) {A : PHp} {q : Nat} (hq : A[q]? = some (.lst (pvs ps))) :
    ∃ A' r, f_Web_init [.ref A.length, .int n, .ref q] (A ++ [.ins 0 []]) = .ok .non A' ∧ A <+: A' ∧ WebAt A' A.length r n ps ∧ A.length < r :=
  web_init W (List.prefix_append _ _) (Nat.le_refl _) get_app (get_app_of hq)
noncomputable def givers (ps : List (Int × Int)) (h : Int) : List Int := (ps.filter fun p => decide (p.2 = h)).map (·.1)
theorem filt_g (ps : List (Int × Int)) (h : Int) : ((pvs ps).filter fun v => decide (snd1 v = h)).map (fun v => PV.int (fst1 v)) = (givers ps h).map .int := by
  simp only [pvs, givers, List.filter_map, List.map_map]; rfl
end Ws
namespace Ws
theorem givers_of_ok {A : PHp} {w r : Nat} {n h : Int} {ps : List (Int × Int)} (W : WebAt A w r n ps) (hl : ps.length < 64) :
    f_Web_givers_of [.ref w, .int h] A = .ok (.ref A.length) (A ++ [.lst ((givers (srt ps) h).map .int)]) := by
  have c : f_Web_givers_of_c1 [some (.ref w), some (.int h)] A = .ok (.ref A.length) (A ++ [.lst ((givers (srt ps) h).map .int)]) := by
    unfold f_Web_givers_of_c1
    rw [← filt_g]
    refine comp_lst (a := r) (l := pvs (srt ps)) (S := fun σ => ∃ x y, σ = [x, y, some (.int h)]) (by simp [W.ob, W.ls]) (by simp [W.ls]) (lim_le (by simp [pvs, (srt_perm ps).length_eq]; omega)) ⟨_, _, rfl⟩ ?_
    rintro v hv σ ⟨x, y, rfl⟩
    obtain ⟨p, hp, rfl⟩ := mem_pvs hv
    refine ⟨[some (.int p.1), some (.int p.2), some (.int h)], by simp [pv], ⟨_, _, rfl⟩, by simp [plain, eqv] <;> exact decide_eq_decide.mpr Iff.rfl, by simp⟩
  simp [f_Web_givers_of, c]
end Ws
namespace Ws
theorem rng1_nat {e : ED} {σ : PSt} {A A1 : PHp} {m k : Nat} (hm : m ≤ k) (h : e σ A = .ok (.int m) A1) (hk : k ≤ 1000000 := by decide) : iRng1 e σ A = .ok (.rng 0 m) A1 := by
  show bnd (e σ) _ A = _
  rw [bnd_ok h]
  show guard (-(2 ^ 62) ≤ (m : Int) ∧ (m : Int) < 2 ^ 62) _ A1 = _
  rw [guard_pos (by omega)]
  rfl
theorem cell_ok {A : PHp} {a : Nat} {ns : List Int} (h : A[a]? = some (.ro (ns.map .int))) (k : Nat) : ∃ c, f_law_cell_at [.ref a, .int k] A = .ok (.int c) A := by
  by_cases hk : k < ns.length
  · refine ⟨ns[k], ?_⟩
    have hk' : (k : Int) < (ns.length : Int) := by omega
    simp [f_law_cell_at, h, hk', hk, atI, ixN]
  · refine ⟨0, ?_⟩
    have hk' : ¬ (k : Int) < (ns.length : Int) := by omega
    simp [f_law_cell_at, h, hk', hk]
theorem ix_ok {e i : ED} {σ : PSt} {B : PHp} {a : Nat} {l : List PV} {k : Int} {u : PV} (he : e σ B = .ok (.ref a) B) (hi : i σ B = .ok (.int k) B) (ha : lstAt a B = .ok l B) (hk : atI l k = some u) : eBin oIx e i σ B = .ok u B := by
  show bnd (e σ) _ B = _
  rw [bnd_ok he, bnd_ok hi]
  show bnd (lstAt a) _ B = _
  rw [bnd_ok ha, hk]; rfl
theorem lAt_ok {i : ED} {σ : PSt} {A B : PHp} {j : Int} (hi : i σ A = .ok (.int j) B) : lAt i σ A = .ok (some j) B := by
  show bnd (i σ) _ A = _
  rw [bnd_ok hi]; rfl
theorem bin_ok {f : OD} {a b : ED} {σ : PSt} {A A1 A2 A3 : PHp} {x y z : PV} (ha : a σ A = .ok x A1) (hb : b σ A1 = .ok y A2) (hf : f x y A2 = .ok z A3) : eBin f a b σ A = .ok z A3 := by
  show bnd (a σ) _ A = _
  rw [bnd_ok ha, bnd_ok hb, hf]
theorem tval_ok {e : ED} {σ : PSt} {A A1 : PHp} {b : Bool} (h : e σ A = .ok (.bl b) A1) : tVal e σ A = .ok b A1 := by
  show bnd (e σ) _ A = _
  rw [bnd_ok h]; rfl
theorem cutto_ok {e i : ED} {σ : PSt} {B : PHp} {a j : Nat} {l : List PV} (he : e σ B = .ok (.ref a) B) (hi : i σ B = .ok (.int j) B) (ha : lstAt a B = .ok l B) : eCut e lNo (lAt i) σ B = .ok (.ref B.length) (B ++ [.lst (l.take j)]) := by
  show bnd (e σ) _ B = _
  rw [bnd_ok he]
  show bnd (lAt i σ) _ B = _
  rw [bnd_ok (lAt_ok hi)]
  show bnd (lstAt a) _ B = _
  rw [bnd_ok ha, cut_to]; rfl
end Ws
namespace Ws
theorem givers_len (ps : List (Int × Int)) (h : Int) : (givers ps h).length ≤ ps.length := by
  unfold givers; rw [List.length_map]; exact List.length_filter_le _ _
theorem args1_ok {e1 : ED} {σ : PSt} {A A1 : PHp} {u : PV} (h1 : e1 σ A = .ok u A1) : aCons e1 aNil σ A = .ok [u] A1 := by
  show bnd (e1 σ) _ A = _
  rw [bnd_ok h1]; rfl
theorem meth_ok {c : Nat} {f : Fun} {a : ED} {es : AD} {σ : PSt} {A A1 A2 A3 : PHp} {n : Nat} {fs : List (Nat × PV)} {vs : List PV} {v : PV} (ha : a σ A = .ok (.ref n) A1) (ho : A1[n]? = some (.ins c fs)) (h : es σ A1 = .ok vs A2) (hf : f (.ref n :: vs) A2 = .ok v A3) : eMeth c f a es σ A = .ok v A3 := by
  show bnd (a σ) _ A = _
  rw [bnd_ok ha]
  show bnd (insAt n) _ A1 = _
  rw [bnd_ok (show insAt n A1 = .ok (c, fs) A1 by unfold insAt; rw [ho]), guard_pos rfl, bnd_ok h, hf]
end Ws
namespace Ws
inductive Way (ps : List (Int × Int)) (u : PV) (h : Int) : Int → Prop
  | here : Way ps u h h
  | step {a b : Int} : Way ps u h a → (a, b) ∈ ps → PV.int b ≠ u → Way ps u h b
noncomputable def hands (N : Nat) : List Int := (List.range N).map fun (k : Nat) => (k : Int)
theorem mem_hands {N : Nat} {x : Int} : x ∈ hands N ↔ 0 ≤ x ∧ x < N := by
  unfold hands
  rw [List.mem_map]
  constructor
  · rintro ⟨k, hk, rfl⟩
    have := List.mem_range.mp hk
    omega
  · rintro ⟨h1, h2⟩
    exact ⟨x.toNat, List.mem_range.mpr (by omega), by omega⟩
theorem hands_len (N : Nat) : (hands N).length = N := by simp [hands]
theorem hands_lt (N : Nat) : (hands N).Pairwise (· < ·) := by
  unfold hands
  rw [List.pairwise_map]
  exact List.pairwise_lt_range.imp fun h => by omega
theorem hands_nd (N : Nat) : (hands N).Nodup := (hands_lt N).imp fun h z => by omega
theorem way_in {N : Nat} {ps : List (Int × Int)} {u : PV} {h x : Int} (hg : ∀ p ∈ ps, good N p) (hh : 0 ≤ h ∧ h < N) (w : Way ps u h x) : 0 ≤ x ∧ x < N := by
  induction w with
  | here => exact hh
  | step _ hp _ _ => exact (hg _ hp).2.1
structure Met (ps : List (Int × Int)) (u : PV) (h : Int) (M : List Int) : Prop where
  nd : M.Nodup
  way : ∀ x ∈ M, Way ps u h x
  mem : h ∈ M
theorem Met.len {N : Nat} {ps : List (Int × Int)} {u : PV} {h : Int} {M : List Int} (m : Met ps u h M) (hg : ∀ p ∈ ps, good N p) (hh : 0 ≤ h ∧ h < N) : M.length ≤ N := by
  have := m.nd.length_le_of_subset (l₂ := hands N) fun x hx => mem_hands.mpr (way_in hg hh (m.way x hx))
  rw [hands_len] at this; exact this
theorem Met.put {ps : List (Int × Int)} {u : PV} {h a b : Int} {M : List Int} (m : Met ps u h M) (ha : a ∈ M) (hp : (a, b) ∈ ps) (hu : PV.int b ≠ u) (hb : b ∉ M) : Met ps u h (M ++ [b]) := by
  refine ⟨?_, fun x hx => ?_, List.mem_append_left _ m.mem⟩
  · rw [List.nodup_append]
    refine ⟨m.nd, by simp, ?_⟩
    intro x hx y hy
    simp at hy; subst hy
    rintro rfl; exact hb hx
  · rcases List.mem_append.mp hx with hx | hx
    · exact m.way x hx
    · simp at hx; subst hx; exact .step (m.way a ha) hp hu
theorem wturns_inv {t : TD} {body : SD} {P' : PSt → PHp → Prop} {Q : PV → PHp → Prop} (P : Nat → PSt → PHp → Prop)
    (hs : ∀ m σ A, P m σ A → (∃ A1, t σ A = .ok false A1 ∧ P' σ A1) ∨ ∃ A1, t σ A = .ok true A1 ∧ Turns (body σ A1) (fun σ' A' => ∃ m', m' < m ∧ P m' σ' A') Q) :
    ∀ f m σ A, m < f → P m σ A → Comes (wturns t body f σ A) P' Q
  | 0, m, σ, A, hm, _ => absurd hm (by omega)
  | f + 1, m, σ, A, hm, h => by
    rw [wturns_succ]
    rcases hs m σ A h with ⟨A1, e, h1⟩ | ⟨A1, e, h1⟩
    · rw [bnd_ok e]; exact .inl ⟨σ, A1, rfl, h1⟩
    · rw [bnd_ok e, if_pos rfl]
      rcases h1 with ⟨σ2, A2, e2, m', hm', h2⟩ | ⟨v, A2, e2, h2⟩
      · rcases e2 with e2 | e2 <;> (rw [bnd_ok e2]; exact wturns_inv P hs f m' σ2 A2 (by omega) h2)
      · rw [bnd_ok e2]; exact .inr ⟨v, A2, rfl, h2⟩
theorem while_ok {t : TD} {body : SD} {P' : PSt → PHp → Prop} {Q : PV → PHp → Prop} {σ : PSt} {A : PHp} (P : Nat → PSt → PHp → Prop) {m : Nat} (hm : m < 10000) (h0 : P m σ A)
    (hs : ∀ m σ A, P m σ A → (∃ A1, t σ A = .ok false A1 ∧ P' σ A1) ∨ ∃ A1, t σ A = .ok true A1 ∧ Turns (body σ A1) (fun σ' A' => ∃ m', m' < m ∧ P m' σ' A') Q) : Comes (sWhile t body σ A) P' Q :=
  wturns_inv P hs LIM m σ A (lim_lt hm) h0
theorem eq_ok {x y : PV} {A : PHp} (hx : plain x = true) (hy : plain y = true) : oEq x y A = .ok (.bl (eqv x y)) A := by
  show bnd (pEq x y) _ A = _
  have : pEq x y A = .ok (eqv x y) A := by
    cases x <;> cases y <;> simp_all [pEq, plain]
  rw [bnd_ok this]; rfl
theorem dnotin_ok {y d : ED} {σ : PSt} {A : PHp} {k : Int} {n : Nat} {m : List (Int × PV)} (hy : y σ A = .ok (.int k) A) (hd : d σ A = .ok (.ref n) A) (hn : A[n]? = some (.dI m)) : eDNotIn y d σ A = .ok (.bl (!(valI m k).isSome)) A := by
  show bnd (y σ) _ A = _
  rw [bnd_ok hy, bnd_ok hd]
  show bnd (dctAt n) _ A = _
  rw [bnd_ok (show dctAt n A = .ok m A by unfold dctAt; rw [hn])]; rfl
theorem din_ok {y d : ED} {σ : PSt} {A : PHp} {k : Int} {n : Nat} {m : List (Int × PV)} (hy : y σ A = .ok (.int k) A) (hd : d σ A = .ok (.ref n) A) (hn : A[n]? = some (.dI m)) : eDIn y d σ A = .ok (.bl (valI m k).isSome) A := by
  show bnd (y σ) _ A = _
  rw [bnd_ok hy, bnd_ok hd]
  show bnd (dctAt n) _ A = _
  rw [bnd_ok (show dctAt n A = .ok m A by unfold dctAt; rw [hn])]; rfl
theorem dput_ok {d y e : ED} {σ : PSt} {A : PHp} {k : Int} {n : Nat} {m : List (Int × PV)} {v : PV} (he : e σ A = .ok v A) (hd : d σ A = .ok (.ref n) A) (hy : y σ A = .ok (.int k) A) (hn : A[n]? = some (.dI m)) (hl : m.length < LIM) : sDPut d y e σ A = .ok (.nx σ) (A.set n (.dI (putI m k v))) := by
  show bnd (e σ) _ A = _
  rw [bnd_ok he, bnd_ok hd, bnd_ok hy]
  show bnd (dctAt n) _ A = _
  rw [bnd_ok (show dctAt n A = .ok m A by unfold dctAt; rw [hn]), guard_pos hl]; rfl
theorem expr_ok {e : ED} {σ : PSt} {A A1 : PHp} {v : PV} (h : e σ A = .ok v A1) : sExpr e σ A = .ok (.nx σ) A1 := by
  show bnd (e σ) _ A = _
  rw [bnd_ok h]; rfl
theorem tand_ok {a b : TD} {σ : PSt} {A A1 A2 : PHp} {x y : Bool} (ha : a σ A = .ok x A1) (hb : x = true → b σ A1 = .ok y A2) (hx : x = false → y = false ∧ A2 = A1) : tAnd a b σ A = .ok y A2 := by
  show bnd (a σ) _ A = _
  rw [bnd_ok ha]
  cases x with
  | true => rw [if_pos rfl, hb rfl]
  | false => obtain ⟨rfl, rfl⟩ := hx rfl; rfl
theorem ret_ok {e : ED} {σ : PSt} {A A1 : PHp} {v : PV} (h : e σ A = .ok v A1) : sRet e σ A = .ok (.rt v) A1 := by
  show bnd (e σ) _ A = _
  rw [bnd_ok h]; rfl
theorem fld0_ok {e : ED} {σ : PSt} {A : PHp} {w r : Nat} {n : Int} {ps : List (Int × Int)} (W : WebAt A w r n ps) (he : e σ A = .ok (.ref w) A) : eFld e 0 σ A = .ok (.int n) A := by
  show bnd (e σ) _ A = _
  rw [bnd_ok he]
  show bnd (insAt w) _ A = _
  rw [bnd_ok (show insAt w A = .ok (0, [(0, .int n), (1, .ref r)]) A by unfold insAt; rw [W.ob])]; rfl
theorem pIn_ints (x : Int) (M : List Int) : pIn (.int x) (M.map .int) = decide (x ∈ M) := by
  induction M with
  | nil => rfl
  | cons y r ih =>
    show (eqv (.int y) (.int x) || pIn (.int x) (r.map .int)) = _
    rw [ih]
    by_cases h : y = x
    · simp [eqv, h]
    · have : x ≠ y := fun z => h z.symm
      simp [eqv, h, this]
theorem in_ok {a b : ED} {σ : PSt} {A : PHp} {x : Int} {n : Nat} {M : List Int} (ha : a σ A = .ok (.int x) A) (hb : b σ A = .ok (.ref n) A) (hn : A[n]? = some (.lst (M.map .int))) : eBin oIn a b σ A = .ok (.bl (decide (x ∈ M))) A := by
  refine bin_ok ha hb ?_
  show bnd (lstAt n) _ A = _
  rw [bnd_ok (lstAt_lst hn), guard_pos ⟨rfl, plains_ints M⟩, pIn_ints]; rfl
end Ws
namespace Ws
noncomputable def tv (tm : List (Int × Int)) : List (Int × PV) := tm.map fun p => (p.1, PV.int p.2)
noncomputable def keys (tm : List (Int × Int)) : List Int := tm.map (·.1)
noncomputable def tval : List (Int × Int) → Int → Option Int
  | [], _ => none
  | p :: r, k => if p.1 = k then some p.2 else tval r k
theorem valI_tv (tm : List (Int × Int)) (k : Int) : valI (tv tm) k = (tval tm k).map PV.int := by
  induction tm with
  | nil => rfl
  | cons p r ih =>
    show valI ((p.1, PV.int p.2) :: tv r) k = _
    unfold valI tval
    by_cases h : p.1 = k
    · simp [h]
    · rw [if_neg h, if_neg h, ih]
theorem tval_some (tm : List (Int × Int)) (k : Int) : (tval tm k).isSome = decide (k ∈ keys tm) := by
  induction tm with
  | nil => rfl
  | cons p r ih =>
    unfold tval
    by_cases h : p.1 = k
    · simp [h, keys]
    · rw [if_neg h, ih]
      have : k ≠ p.1 := fun z => h z.symm
      refine decide_eq_decide.mpr ⟨fun z => List.mem_cons_of_mem _ z, fun z => ?_⟩
      rcases List.mem_cons.mp z with z | z
      · exact absurd z this
      · exact z
theorem tval_mem {tm : List (Int × Int)} {k : Int} (h : k ∈ keys tm) : ∃ t, tval tm k = some t := by
  have := tval_some tm k
  rw [decide_eq_true h] at this
  exact Option.isSome_iff_exists.mp this
theorem tval_app {tm sm : List (Int × Int)} {k : Int} (h : k ∈ keys tm) : tval (tm ++ sm) k = tval tm k := by
  induction tm with
  | nil => simp [keys] at h
  | cons p r ih =>
    show tval (p :: (r ++ sm)) k = _
    unfold tval
    by_cases e : p.1 = k
    · simp [e]
    · rw [if_neg e, if_neg e]
      refine ih ?_
      rcases List.mem_cons.mp h with z | z
      · exact absurd z.symm e
      · exact z
theorem tval_new {tm : List (Int × Int)} {k t : Int} (h : k ∉ keys tm) : tval (tm ++ [(k, t)]) k = some t := by
  induction tm with
  | nil => simp [tval]
  | cons p r ih =>
    show tval (p :: (r ++ [(k, t)])) k = _
    unfold tval
    have h1 : ¬ p.1 = k := fun e => h (by simp [keys, e])
    rw [if_neg h1]
    exact ih fun z => h (List.mem_cons_of_mem _ z)
theorem putI_tv {tm : List (Int × Int)} {k t : Int} (h : k ∉ keys tm) : putI (tv tm) k (.int t) = tv (tm ++ [(k, t)]) := by
  unfold putI
  rw [if_neg]
  · simp [tv]
  · simp only [tv, List.any_map, List.any_eq_true, Function.comp, decide_eq_true_eq, not_exists, not_and]
    intro p hp e
    exact h (List.mem_map.mpr ⟨p, hp, e⟩)
theorem keys_app (tm sm : List (Int × Int)) : keys (tm ++ sm) = keys tm ++ keys sm := by simp [keys]
theorem keys_len (tm : List (Int × Int)) : (keys tm).length = tm.length := by simp [keys]
noncomputable def mx : List Int → Int
  | [] => 0
  | i :: r => maxI i r
noncomputable def iv : PV → Int
  | .int i => i
  | _ => 0
theorem all_ok {e : ED} {σ : PSt} {A A1 : PHp} {n : Nat} {bs : List Bool} (h : e σ A = .ok (.ref n) A1) (hn : A1[n]? = some (.lst (bs.map .bl))) : eAll e σ A = .ok (.bl (bs.all id)) A1 := by
  show bnd (e σ) _ A = _
  rw [bnd_ok h]
  show bnd (lstAt n) _ A1 = _
  rw [bnd_ok (lstAt_lst hn), blsOf_map]; rfl
theorem maxD_ok {e d : ED} {σ : PSt} {A A1 : PHp} {n : Nat} {ns : List Int} (h : e σ A = .ok (.ref n) A1) (hd : d σ A1 = .ok (.int 0) A1) (hn : A1[n]? = some (.lst (ns.map .int))) : eMaxD e d σ A = .ok (.int (mx ns)) A1 := by
  show bnd (e σ) _ A = _
  rw [bnd_ok h, bnd_ok hd]
  show bnd (lstAt n) _ A1 = _
  rw [bnd_ok (lstAt_lst hn), intsOf_map]
  cases ns <;> rfl
theorem lenD_ok {e : ED} {σ : PSt} {A A1 : PHp} {n : Nat} {m : List (Int × PV)} (h : e σ A = .ok (.ref n) A1) (hn : A1[n]? = some (.dI m)) : eLenD e σ A = .ok (.int m.length) A1 := by
  show bnd (e σ) _ A = _
  rw [bnd_ok h]
  show bnd (dctAt n) _ A1 = _
  rw [bnd_ok (show dctAt n A1 = .ok m A1 by unfold dctAt; rw [hn])]; rfl
theorem dget_ok {d y : ED} {σ : PSt} {A : PHp} {k : Int} {n : Nat} {m : List (Int × PV)} {v : PV} (hd : d σ A = .ok (.ref n) A) (hy : y σ A = .ok (.int k) A) (hn : A[n]? = some (.dI m)) (hv : valI m k = some v) : eDGet d y σ A = .ok v A := by
  show bnd (d σ) _ A = _
  rw [bnd_ok hd, bnd_ok hy]
  show bnd (dctAt n) _ A = _
  rw [bnd_ok (show dctAt n A = .ok m A by unfold dctAt; rw [hn]), hv]; rfl
theorem mem_givers {ps : List (Int × Int)} {a b : Int} : a ∈ givers (srt ps) b ↔ (a, b) ∈ ps := by
  unfold givers
  rw [List.mem_map]
  constructor
  · rintro ⟨⟨x, y⟩, hp, rfl⟩
    rw [List.mem_filter] at hp
    obtain ⟨h1, h2⟩ := hp
    simp at h2; subst h2
    exact (srt_perm ps).mem_iff.mp h1
  · intro h
    exact ⟨(a, b), List.mem_filter.mpr ⟨(srt_perm ps).mem_iff.mpr h, by simp⟩, rfl⟩
end Ws
namespace Ws
theorem hands_map (N : Nat) : (List.range N).map (fun (i : Nat) => PV.int ((0 : Int) + i)) = (hands N).map .int := by
  unfold hands
  rw [List.map_map]
  refine List.map_congr_left fun i _ => ?_
  rw [Int.zero_add]; rfl
theorem filter_int (p : PV → Bool) (xs : List Int) : (xs.map PV.int).filter p = (xs.filter fun x => p (.int x)).map .int := by
  rw [List.filter_map]; rfl
theorem eq_nil_ok {q : Nat} {ns : List Int} {A : PHp} {e : ED} {σ : PSt} (he : e σ A = .ok (.ref q) A) (h : A[q]? = some (.lst (ns.map .int))) : tVal (eBin oEq e (eLst aNil)) σ A = .ok ns.isEmpty (A ++ [.lst []]) := by
  refine tval_ok (bin_ok he (eLst_nil _ _) ?_)
  have e1 : pEq (.ref q) (.ref A.length) (A ++ [.lst []]) = .ok (eqvs (ns.map .int) []) (A ++ [.lst []]) := by
    show bnd (lstAt q) _ _ = _
    rw [bnd_ok (lstAt_lst (get_app_of h)), bnd_ok lstAt_last, guard_pos ⟨plains_ints ns, rfl⟩]; rfl
  have e2 : eqvs (ns.map PV.int) [] = ns.isEmpty := by cases ns <;> rfl
  show bnd (pEq (.ref q) (.ref A.length)) _ _ = _
  rw [bnd_ok e1, e2]; rfl
theorem mem_givers0 {ps : List (Int × Int)} {a b : Int} : a ∈ givers ps b ↔ (a, b) ∈ ps := by
  unfold givers
  rw [List.mem_map]
  constructor
  · rintro ⟨⟨x, y⟩, hp, rfl⟩
    rw [List.mem_filter] at hp
    obtain ⟨h1, h2⟩ := hp
    simp at h2; subst h2
    exact h1
  · intro h
    exact ⟨(a, b), List.mem_filter.mpr ⟨h, by simp⟩, rfl⟩
theorem tval_key {tm : List (Int × Int)} {h t : Int} (e : tval tm h = some t) : h ∈ keys tm := by
  have := tval_some tm h
  rw [e] at this
  simpa using this.symm
end Ws
namespace Ws
noncomputable def turnBy (ps : List (Int × Int)) (tm : List (Int × Int)) (h : Int) : Int := 1 + mx ((givers (srt ps) h).map fun g => (tval tm g).getD 0)
structure KT (N : Nat) (ps : List (Int × Int)) (L : List Int) (tm : List (Int × Int)) : Prop where
  nd : (keys tm).Nodup
  hand : ∀ h ∈ keys tm, 0 ≤ h ∧ h < N
  lead : ∀ h ∈ L, h ∈ keys tm
  one : ∀ h ∈ L, tval tm h = some 1
  giv : ∀ h ∈ keys tm, h ∉ L → ∀ g, (g, h) ∈ ps → g ∈ keys tm
  val : ∀ h ∈ keys tm, h ∉ L → tval tm h = some (turnBy ps tm h)
  pos : ∀ h t, tval tm h = some t → 1 ≤ t
theorem maxI_spec : ∀ (i : Int) (r : List Int), (maxI i r ∈ i :: r) ∧ ∀ x ∈ i :: r, x ≤ maxI i r
  | i, [] => ⟨by simp [maxI], by simp [maxI]⟩
  | i, j :: r => by
    unfold maxI
    obtain ⟨h1, h2⟩ := maxI_spec (if i < j then j else i) r
    have h3 := h2 _ List.mem_cons_self
    refine ⟨?_, fun x hx => ?_⟩
    · rcases List.mem_cons.mp h1 with z | z
      · rw [z]
        by_cases c : i < j <;> simp [c]
      · exact List.mem_cons_of_mem _ (List.mem_cons_of_mem _ z)
    · rcases List.mem_cons.mp hx with z | z
      · subst z
        by_cases c : x < j <;> simp [c] at h3 ⊢ <;> omega
      · rcases List.mem_cons.mp z with z | z
        · subst z
          by_cases c : i < x <;> simp [c] at h3 ⊢ <;> omega
        · exact h2 x (List.mem_cons_of_mem _ z)
theorem mx_ge {xs : List Int} {x : Int} (h : x ∈ xs) : x ≤ mx xs := by
  cases xs with
  | nil => cases h
  | cons i r => exact (maxI_spec i r).2 x h
theorem mx_mem {xs : List Int} (h : xs ≠ []) : mx xs ∈ xs := by
  cases xs with
  | nil => exact absurd rfl h
  | cons i r => exact (maxI_spec i r).1
theorem mx_nn {xs : List Int} (h : ∀ x ∈ xs, 0 ≤ x) : 0 ≤ mx xs := by
  by_cases c : xs = []
  · rw [c]; exact Int.le_refl _
  · exact h _ (mx_mem c)
theorem mx_perm {xs ys : List Int} (h : xs.Perm ys) : mx xs = mx ys := by
  by_cases c : xs = []
  · subst c
    rw [List.nil_perm.mp h]
  · have c' : ys ≠ [] := fun z => c (by rw [z] at h; exact List.perm_nil.mp h)
    have h1 := mx_ge (h.mem_iff.mp (mx_mem c))
    have h2 := mx_ge (h.mem_iff.mpr (mx_mem c'))
    omega
noncomputable def Closed (N : Nat) (ps : List (Int × Int)) (tm : List (Int × Int)) : Prop := ∀ h : Int, 0 ≤ h → h < N → h ∉ keys tm → ∃ g : Int, (g, h) ∈ ps ∧ g ∉ keys tm
theorem KT.len {N : Nat} {ps : List (Int × Int)} {L : List Int} {tm : List (Int × Int)} (k : KT N ps L tm) : tm.length ≤ N := by
  have := k.nd.length_le_of_subset (l₂ := hands N) fun x hx => mem_hands.mpr (k.hand x hx)
  rw [hands_len, keys_len] at this; exact this
theorem turnBy_app {ps tm sm : List (Int × Int)} {h : Int} (hg : ∀ g, (g, h) ∈ ps → g ∈ keys tm) : turnBy ps (tm ++ sm) h = turnBy ps tm h := by
  unfold turnBy
  congr 2
  refine List.map_congr_left fun g hgm => ?_
  rw [tval_app (hg g (mem_givers.mp hgm))]
theorem KT.put {N : Nat} {ps : List (Int × Int)} {L : List Int} {tm : List (Int × Int)} (k : KT N ps L tm) {h : Int} (hh : 0 ≤ h ∧ h < N) (hn : h ∉ keys tm) (hg : ∀ g, (g, h) ∈ ps → g ∈ keys tm) : KT N ps L (tm ++ [(h, turnBy ps tm h)]) := by
  have hk : keys (tm ++ [(h, turnBy ps tm h)]) = keys tm ++ [h] := by simp [keys]
  refine ⟨?_, ?_, ?_, ?_, ?_, ?_, ?_⟩
  · rw [hk, List.nodup_append]
    refine ⟨k.nd, by simp, ?_⟩
    intro x hx y hy
    simp at hy; subst hy
    rintro rfl; exact hn hx
  · rw [hk]
    intro x hx
    rcases List.mem_append.mp hx with z | z
    · exact k.hand x z
    · simp at z; subst z; exact hh
  · intro x hx
    rw [hk]; exact List.mem_append_left _ (k.lead x hx)
  · intro x hx
    rw [tval_app (k.lead x hx)]; exact k.one x hx
  · rw [hk]
    intro x hx hL g hp
    rcases List.mem_append.mp hx with z | z
    · exact List.mem_append_left _ (k.giv x z hL g hp)
    · simp at z; subst z; exact List.mem_append_left _ (hg g hp)
  · rw [hk]
    intro x hx hL
    rcases List.mem_append.mp hx with z | z
    · rw [tval_app z, turnBy_app (k.giv x z hL)]; exact k.val x z hL
    · simp at z; subst z
      rw [tval_new hn, turnBy_app hg]
  · intro x t ht
    by_cases z : x ∈ keys tm
    · rw [tval_app z] at ht; exact k.pos x t ht
    · have : x ∈ keys (tm ++ [(h, turnBy ps tm h)]) := by
        have := tval_some (tm ++ [(h, turnBy ps tm h)]) x
        rw [ht] at this
        simpa using this.symm
      rw [hk] at this
      rcases List.mem_append.mp this with y | y
      · exact absurd y z
      · simp at y; subst y
        rw [tval_new hn] at ht
        have := Option.some.inj ht
        unfold turnBy at this
        have : 0 ≤ mx ((givers (srt ps) x).map fun g => (tval tm g).getD 0) := mx_nn fun y hy => by
          obtain ⟨g, _, rfl⟩ := List.mem_map.mp hy
          cases e : tval tm g with
          | none => simp
          | some t => have := k.pos g t e; simp; omega
        omega
noncomputable def kst (w l d : Nat) (x3 x4 x5 x6 : Option PV) : PSt := [some (.ref w), some (.ref l), some (.ref d), x3, x4, x5, x6]
section
variable {A : PHp} {w r l d N : Nat} {ps : List (Int × Int)} {L : List Int}
theorem known_c1 {B : PHp} {g : Nat} {gs : List Int} {tm : List (Int × Int)} (hd : B[d]? = some (.dI (tv tm))) (hg : B[g]? = some (.lst (gs.map .int))) (hl : gs.length ≤ 1000) (x3 x4 x5 : Option PV) :
    f_Web_known_lay_turns_c1 (kst w l d x3 x4 x5 (some (.ref g))) B = .ok (.ref B.length) (B ++ [.lst ((gs.map fun a => decide (a ∈ keys tm)).map .bl)]) := by
  unfold f_Web_known_lay_turns_c1
  refine Eq.trans (comp_lst (a := g) (l := gs.map .int) (S := fun σ => ∃ x, σ = [x, some (.ref d)]) (p := fun _ => true) (f := fun v => .bl (decide (iv v ∈ keys tm))) (iseq_ok rfl (lstAt_lst hg)) (lstAt_lst hg) (lim_le (by rw [List.length_map]; omega)) ⟨_, rfl⟩ ?_) ?_
  · rintro v hv σ ⟨x, rfl⟩
    obtain ⟨a, ha, rfl⟩ := List.mem_map.mp hv
    refine ⟨[some (.int a), some (.ref d)], rfl, ⟨_, rfl⟩, rfl, fun _ => ?_⟩
    have := din_ok (y := eVar 0) (d := eVar 1) (σ := [some (.int a), some (.ref d)]) (A := B) (k := a) rfl rfl hd
    rw [this, valI_tv, Option.isSome_map, tval_some]; rfl
  · rw [List.filter_eq_self.mpr fun _ _ => rfl, List.map_map, List.map_map]; rfl
theorem known_c2 {B : PHp} {g : Nat} {gs : List Int} {tm : List (Int × Int)} (hd : B[d]? = some (.dI (tv tm))) (hg : B[g]? = some (.lst (gs.map .int))) (hl : gs.length ≤ 1000) (hk : ∀ a ∈ gs, a ∈ keys tm) (x3 x4 x5 : Option PV) :
    f_Web_known_lay_turns_c2 (kst w l d x3 x4 x5 (some (.ref g))) B = .ok (.ref B.length) (B ++ [.lst ((gs.map fun a => (tval tm a).getD 0).map .int)]) := by
  unfold f_Web_known_lay_turns_c2
  refine Eq.trans (comp_lst (a := g) (l := gs.map .int) (S := fun σ => ∃ x, σ = [x, some (.ref d)]) (p := fun _ => true) (f := fun v => .int ((tval tm (iv v)).getD 0)) (iseq_ok rfl (lstAt_lst hg)) (lstAt_lst hg) (lim_le (by rw [List.length_map]; omega)) ⟨_, rfl⟩ ?_) ?_
  · rintro v hv σ ⟨x, rfl⟩
    obtain ⟨a, ha, rfl⟩ := List.mem_map.mp hv
    refine ⟨[some (.int a), some (.ref d)], rfl, ⟨_, rfl⟩, rfl, fun _ => ?_⟩
    obtain ⟨t, ht⟩ := tval_mem (hk a ha)
    refine dget_ok (k := a) rfl rfl hd ?_
    rw [valI_tv, ht]
    show _ = some (PV.int ((tval tm a).getD 0))
    rw [ht]; rfl
  · rw [List.filter_eq_self.mpr fun _ _ => rfl, List.map_map, List.map_map]; rfl
theorem known_b3 (W : WebAt A w r N ps) (P : Passings N ps) {B : PHp} {tm : List (Int × Int)} (hp : A <+: B) (hd : B[d]? = some (.dI (tv tm))) (hAd : A.length ≤ d) (K : KT N ps L tm) {h : Int} (hh : 0 ≤ h ∧ h < N) (x3 x4 x6 : Option PV) :
    ∃ B' sm y6, f_Web_known_lay_turns_b3 (kst w l d x3 x4 (some (.int h)) x6) B = .ok (.nx (kst w l d x3 x4 (some (.int h)) y6)) B' ∧ A <+: B' ∧ B'[d]? = some (.dI (tv (tm ++ sm))) ∧ KT N ps L (tm ++ sm) ∧
      (sm = [] → h ∉ keys tm → ∃ g, (g, h) ∈ ps ∧ g ∉ keys tm) ∧ (sm ≠ [] → h ∉ keys tm ∧ ∀ g, (g, h) ∈ ps → g ∈ keys tm) := by
  have W1 := W.mono hp
  have g1 := meth_ok (c := 0) (f := f_Web_givers_of) (a := eVar 0) (es := aCons (eVar 5) aNil) (σ := kst w l d x3 x4 (some (.int h)) x6) (A := B) (A1 := B) (A2 := B) (n := w) rfl W1.ob (args1_ok rfl) (givers_of_ok W1 P.len (h := h))
  have hgl : (givers (srt ps) h).length ≤ 64 := by have := givers_len (srt ps) h; rw [(srt_perm ps).length_eq] at this; have := P.len; omega
  generalize hB1 : B ++ [PO.lst ((givers (srt ps) h).map .int)] = B1 at g1
  have hd1 : B1[d]? = some (.dI (tv tm)) := by rw [← hB1]; exact get_app_of hd
  have hg1 : B1[B.length]? = some (.lst ((givers (srt ps) h).map .int)) := by rw [← hB1]; exact get_app
  have p1 : A <+: B1 := by rw [← hB1]; exact pre_app hp
  have hdl := pre_lt hd
  let σ : PSt := kst w l d x3 x4 (some (.int h)) (some (.ref B.length))
  have c1 := known_c1 (w := w) (l := l) (x3 := x3) (x4 := x4) (x5 := some (.int h)) hd1 hg1 (by omega)
  have t1 : tVal (eDNotIn (eVar 5) (eVar 2)) σ B1 = .ok (!decide (h ∈ keys tm)) B1 := by
    have := tval_ok (dnotin_ok (y := eVar 5) (d := eVar 2) (σ := σ) (A := B1) (k := h) rfl rfl hd1)
    rwa [valI_tv, Option.isSome_map, tval_some] at this
  have t2 := tval_ok (all_ok c1 get_app)
  unfold f_Web_known_lay_turns_b3
  rw [seq_nx (asg_ok (g := gName 6) g1 (σ' := σ) (A'' := B1) rfl)]
  by_cases c : h ∉ keys tm ∧ ∀ g, (g, h) ∈ ps → g ∈ keys tm
  · have hall : (((givers (srt ps) h).map fun a => decide (a ∈ keys tm)).all id) = true := by
      rw [List.all_map, List.all_eq_true]
      intro a ha
      exact decide_eq_true (c.2 a (mem_givers.mp ha))
    generalize hB2 : B1 ++ [PO.lst (((givers (srt ps) h).map fun a => decide (a ∈ keys tm)).map .bl)] = B2 at t2
    have hd2 : B2[d]? = some (.dI (tv tm)) := by rw [← hB2]; exact get_app_of hd1
    have hg2 : B2[B.length]? = some (.lst ((givers (srt ps) h).map .int)) := by rw [← hB2]; exact get_app_of hg1
    have p2 : A <+: B2 := by rw [← hB2]; exact pre_app p1
    rw [if_t (A' := B2) (tand_ok t1 (fun _ => by rw [t2, hall]) (fun z => by simp [c.1] at z))]
    have c2 := known_c2 (w := w) (l := l) (x3 := x3) (x4 := x4) (x5 := some (.int h)) hd2 hg2 (by omega) (fun a ha => c.2 a (mem_givers.mp ha))
    have mv := maxD_ok (d := eK (.int 0)) c2 rfl get_app
    generalize hB3 : B2 ++ [PO.lst (((givers (srt ps) h).map fun a => (tval tm a).getD 0).map .int)] = B3 at mv
    have hd3 : B3[d]? = some (.dI (tv tm)) := by rw [← hB3]; exact get_app_of hd2
    have p3 : A <+: B3 := by rw [← hB3]; exact pre_app p2
    have ev : eBin oAdd (eK (.int 1)) (eMaxD f_Web_known_lay_turns_c2 (eK (.int 0))) σ B2 = .ok (.int (turnBy ps tm h)) B3 := bin_ok rfl mv rfl
    refine ⟨B3.set d (.dI (tv (tm ++ [(h, turnBy ps tm h)]))), [(h, turnBy ps tm h)], some (.ref B.length), ?_, pre_set p3 hAd, get_set hd3, K.put hh c.1 c.2, fun z => by simp at z, fun _ => c⟩
    show bnd (eBin oAdd (eK (.int 1)) (eMaxD f_Web_known_lay_turns_c2 (eK (.int 0))) σ) _ B2 = _
    rw [bnd_ok ev]
    show bnd (dctAt d) _ B3 = _
    rw [bnd_ok (show dctAt d B3 = .ok (tv tm) B3 by unfold dctAt; rw [hd3]), guard_pos (lim_lt (by have := K.len; have := P.hi; simp [tv]; omega)), putI_tv c.1]
    rfl
  · by_cases c1' : h ∈ keys tm
    · refine ⟨B1, [], some (.ref B.length), ?_, p1, by rw [List.append_nil]; exact hd1, by rw [List.append_nil]; exact K, fun _ z => absurd c1' z, fun z => absurd rfl z⟩
      rw [if_f (A' := B1) (tand_ok t1 (fun z => by simp [c1'] at z) (fun _ => ⟨rfl, rfl⟩))]; rfl
    · obtain ⟨g, hgp, hgk⟩ : ∃ g, (g, h) ∈ ps ∧ g ∉ keys tm := by
        by_cases z : ∃ g, (g, h) ∈ ps ∧ g ∉ keys tm
        · exact z
        · exact absurd ⟨c1', fun g hg => by by_cases y : g ∈ keys tm; exact y; exact absurd ⟨g, hg, y⟩ z⟩ c
      have hall : (((givers (srt ps) h).map fun a => decide (a ∈ keys tm)).all id) = false := by
        rw [List.all_map, List.all_eq_false]
        exact ⟨g, mem_givers.mpr hgp, by simpa using hgk⟩
      refine ⟨B1 ++ [.lst (((givers (srt ps) h).map fun a => decide (a ∈ keys tm)).map .bl)], [], some (.ref B.length), ?_, pre_app p1, by rw [List.append_nil]; exact get_app_of hd1, by rw [List.append_nil]; exact K, fun _ _ => ⟨g, hgp, hgk⟩, fun z => absurd rfl z⟩
      rw [if_f (A' := B1 ++ [.lst (((givers (srt ps) h).map fun a => decide (a ∈ keys tm)).map .bl)]) (tand_ok t1 (fun _ => by rw [t2, hall]) (fun z => by simp [c1'] at z))]; rfl
theorem gname_int {g : Nat} {x : Int} {σ : PSt} {A : PHp} {body : SD} : bnd (gName g (PV.int (0 + x)) σ) body A = body (σ.set g (some (.int x))) A := by
  rw [Int.zero_add]; rfl
theorem known_l1 (hl : A[l]? = some (.lst (L.map .int))) (nd : L.Nodup) (hL : ∀ h ∈ L, 0 ≤ h ∧ h < N) (hN : N ≤ 6) {B : PHp} (hp : A <+: B) (hAd : A.length ≤ d) (hd : B[d]? = some (.dI [])) :
    ∃ B' x3, f_Web_known_lay_turns_l1 (kst w l d none none none none) B = .ok (.nx (kst w l d x3 none none none)) B' ∧ A <+: B' ∧ B'[d]? = some (.dI (tv (L.map fun h => (h, 1)))) := by
  have hlen : L.length ≤ 6 := by
    have := nd.length_le_of_subset (l₂ := hands N) fun x hx => mem_hands.mpr (hL x hx)
    rw [hands_len] at this; omega
  have LL : Comes (f_Web_known_lay_turns_l1 (kst w l d none none none none) B) (fun σ B' => ∃ x3, σ = kst w l d x3 none none none ∧ A <+: B' ∧ B'[d]? = some (.dI (tv (L.map fun h => (h, 1))))) (fun _ _ => False) := by
    unfold f_Web_known_lay_turns_l1
    refine for_lst' (a := l) (l := L.map .int) (A1 := B) (iseq_ok rfl (lstAt_lst (pre_get hp hl))) (fun i σ B' => ∃ x3, σ = kst w l d x3 none none none ∧ A <+: B' ∧ B'[d]? = some (.dI (tv ((L.take i).map fun h => (h, 1)))))
      ⟨none, rfl, hp, hd⟩ ?_ ?_ ?_
    · rintro i σ B' ⟨x3, rfl, p1, _⟩
      exact lstAt_lst (pre_get p1 hl)
    · rintro i v σ B' hv ⟨x3, rfl, p1, hd1⟩
      obtain ⟨a, ha, rfl⟩ : ∃ a, L[i]? = some a ∧ v = .int a := by
        rw [List.getElem?_map] at hv
        cases e : L[i]? with
        | none => rw [e] at hv; cases hv
        | some b => rw [e] at hv; exact ⟨b, rfl, (Option.some.inj hv).symm⟩
      have hnin : a ∉ keys ((L.take i).map fun h => (h, (1 : Int))) := by
        intro hm
        have hm' : a ∈ L.take i := by simpa [keys, Function.comp_def] using hm
        have hlt := (List.getElem?_eq_some_iff.mp ha).1
        obtain ⟨j, hj, e⟩ := List.mem_iff_getElem.mp hm'
        rw [List.length_take] at hj
        rw [List.getElem_take] at e
        exact List.pairwise_iff_getElem.mp nd j i (by omega) hlt (by omega) (e.trans (List.getElem?_eq_some_iff.mp ha).2.symm)
      have pt := dput_ok (d := eVar 2) (y := eVar 3) (e := eK (.int 1)) (σ := kst w l d (some (.int a)) none none none) (A := B') (k := a) rfl rfl rfl hd1 (lim_lt (by simp [tv]; omega))
      rw [putI_tv hnin] at pt
      refine Turns.nx (σ := kst w l d (some (.int a)) none none none) pt ⟨_, rfl, pre_set p1 hAd, ?_⟩
      have e : (L.take i).map (fun h => (h, (1 : Int))) ++ [(a, 1)] = (L.take (i + 1)).map fun h => (h, 1) := by
        rw [List.take_succ, ha]; simp
      rw [← e]; exact get_set hd1
    · rintro σ B' ⟨x3, rfl, p1, hd1⟩
      rw [List.length_map, List.take_length] at hd1
      exact ⟨x3, rfl, p1, hd1⟩
  obtain ⟨σ, B', e, x3, rfl, h1, h2⟩ := LL.end
  exact ⟨B', x3, e, h1, h2⟩
theorem known_l3 (W : WebAt A w r N ps) (P : Passings N ps) {B : PHp} {tm : List (Int × Int)} (hp : A <+: B) (hd : B[d]? = some (.dI (tv tm))) (hAd : A.length ≤ d) (K : KT N ps L tm) (x3 x4 x5 x6 : Option PV) :
    ∃ B' sm y5 y6, f_Web_known_lay_turns_l3 (kst w l d x3 x4 x5 x6) B = .ok (.nx (kst w l d x3 x4 y5 y6)) B' ∧ A <+: B' ∧ B'[d]? = some (.dI (tv (tm ++ sm))) ∧ KT N ps L (tm ++ sm) ∧ (sm = [] → Closed N ps tm) ∧ (Closed N ps tm → sm = []) := by
  have hN : N ≤ 6 := by have := P.hi; omega
  have LL : Comes (f_Web_known_lay_turns_l3 (kst w l d x3 x4 x5 x6) B) (fun σ B' => ∃ sm y5 y6, σ = kst w l d x3 x4 y5 y6 ∧ A <+: B' ∧ B'[d]? = some (.dI (tv (tm ++ sm))) ∧ KT N ps L (tm ++ sm) ∧ (sm = [] → Closed N ps tm) ∧ (Closed N ps tm → sm = [])) (fun _ _ => False) := by
    unfold f_Web_known_lay_turns_l3
    refine for_rng' (lo := 0) (n := N) (A1 := B) (rng1_nat hN (fld0_ok (W.mono hp) rfl)) (fun j σ B' => ∃ sm y5 y6, σ = kst w l d x3 x4 y5 y6 ∧ A <+: B' ∧ B'[d]? = some (.dI (tv (tm ++ sm))) ∧ KT N ps L (tm ++ sm) ∧ (sm = [] → ∀ h : Int, 0 ≤ h → h < j → h ∉ keys tm → ∃ g : Int, (g, h) ∈ ps ∧ g ∉ keys tm) ∧ (Closed N ps tm → sm = []))
      ⟨[], x5, x6, rfl, hp, by rw [List.append_nil]; exact hd, by rw [List.append_nil]; exact K, fun _ h h0 h1 => absurd h1 (by omega), fun _ => rfl⟩ ?_ ?_
    · rintro j σ B' hj ⟨sm, y5, y6, rfl, p1, hd1, K1, c1, c2⟩
      obtain ⟨B2, sm', z6, e, p2, hd2, K2, n1, n2⟩ := known_b3 (l := l) W P p1 hd1 hAd K1 (h := (j : Int)) ⟨by omega, by omega⟩ x3 x4 y6
      rw [gname_int]
      refine Turns.nx (σ := kst w l d x3 x4 (some (.int j)) z6) e ⟨sm ++ sm', _, _, rfl, p2, by rw [← List.append_assoc]; exact hd2, by rw [← List.append_assoc]; exact K2, fun z => ?_, fun z => ?_⟩
      · obtain ⟨z1, z2⟩ := List.append_eq_nil_iff.mp z
        intro h h0 hlt hk
        by_cases e : h = j
        · have := n1 z2
          rw [z1, List.append_nil] at this
          rw [e] at hk ⊢
          exact this hk
        · exact c1 z1 h h0 (by omega) hk
      · have z1 := c2 z
        by_cases z2 : sm' = []
        · rw [z1, z2]; rfl
        · have := n2 z2
          rw [z1, List.append_nil] at this
          obtain ⟨g, hg1, hg2⟩ := z j (by omega) (by omega) this.1
          exact absurd (this.2 g hg1) hg2
    · rintro σ B' ⟨sm, y5, y6, rfl, p1, hd1, K1, c1, c2⟩
      exact ⟨sm, y5, y6, rfl, p1, hd1, K1, fun z h h0 h1 hk => c1 z h h0 h1 hk, c2⟩
  obtain ⟨σ, B', e, sm, y5, y6, rfl, h1⟩ := LL.end
  exact ⟨B', sm, y5, y6, e, h1⟩
theorem known_ok (W : WebAt A w r N ps) (P : Passings N ps) (hl : A[l]? = some (.lst (L.map .int))) (nd : L.Nodup) (hL : ∀ h ∈ L, 0 ≤ h ∧ h < N) :
    ∃ A' d tm, f_Web_known_lay_turns [.ref w, .ref l] A = .ok (.ref d) A' ∧ A <+: A' ∧ A.length ≤ d ∧ A'[d]? = some (.dI (tv tm)) ∧ KT N ps L tm ∧ Closed N ps tm := by
  have hN : N ≤ 6 := by have := P.hi; omega
  obtain ⟨B, x3, e1, p1, hd1⟩ := known_l1 (A := A) (w := w) (d := A.length) hl nd hL hN (B := A ++ [.dI []]) (pre_app (List.prefix_refl _)) (Nat.le_refl _) get_app
  have hk1 : keys (L.map fun h => (h, (1 : Int))) = L := by simp [keys, Function.comp_def]
  have t1 : ∀ h ∈ L, tval (L.map fun h => (h, (1 : Int))) h = some 1 := by
    intro h hh
    have : ∀ M : List Int, h ∈ M → tval (M.map fun h => (h, (1 : Int))) h = some 1 := by
      intro M
      induction M with
      | nil => intro z; simp at z
      | cons a M ih =>
        intro z
        show tval ((a, 1) :: M.map fun h => (h, (1 : Int))) h = _
        unfold tval
        by_cases e : a = h
        · simp [e]
        · rw [if_neg e]
          rcases List.mem_cons.mp z with y | y
          · exact absurd y.symm e
          · exact ih y
    exact this L hh
  have K1 : KT N ps L (L.map fun h => (h, (1 : Int))) := ⟨by rw [hk1]; exact nd, by rw [hk1]; exact hL, by rw [hk1]; exact fun h z => z, t1, by rw [hk1]; exact fun h z y => absurd z y, by rw [hk1]; exact fun h z y => absurd z y, fun h t ht => by
    have hm : h ∈ L := by
      have := tval_some (L.map fun h => (h, (1 : Int))) h
      rw [ht, hk1] at this
      simpa using this.symm
    rw [t1 h hm] at ht
    have := Option.some.inj ht
    omega⟩
  have LL : Comes (f_Web_known_lay_turns_l2 (kst w l A.length x3 none none none) B) (fun σ B' => ∃ tm y4 y5 y6, σ = kst w l A.length x3 y4 y5 y6 ∧ A <+: B' ∧ B'[A.length]? = some (.dI (tv tm)) ∧ KT N ps L tm ∧ (N ≤ tm.length ∨ Closed N ps tm)) (fun _ _ => False) := by
    unfold f_Web_known_lay_turns_l2
    refine for_rng' (lo := 0) (n := N) (A1 := B) (rng1_nat hN (fld0_ok (W.mono p1) rfl)) (fun i σ B' => ∃ tm y4 y5 y6, σ = kst w l A.length x3 y4 y5 y6 ∧ A <+: B' ∧ B'[A.length]? = some (.dI (tv tm)) ∧ KT N ps L tm ∧ (i ≤ tm.length ∨ Closed N ps tm))
      ⟨_, none, none, none, rfl, p1, hd1, K1, .inl (Nat.zero_le _)⟩ ?_ (fun _ _ h => h)
    rintro i σ B' hi ⟨tm, y4, y5, y6, rfl, p2, hd2, K2, hc⟩
    rw [gname_int]
    obtain ⟨B2, sm, z5, z6, e, p3, hd3, K3, c1, c2⟩ := known_l3 (l := l) W P p2 hd2 (Nat.le_refl _) K2 x3 (some (.int i)) y5 y6
    refine Turns.nx (σ := kst w l A.length x3 (some (.int i)) z5 z6) e ⟨tm ++ sm, _, _, _, rfl, p3, hd3, K3, ?_⟩
    by_cases z : sm = []
    · right
      have := c1 z
      rw [z, List.append_nil]; exact this
    · rcases hc with hc | hc
      · left
        have : 0 < sm.length := List.length_pos_iff.mpr z
        rw [List.length_append]; omega
      · exact absurd (c2 hc) z
  obtain ⟨σ, B', e2, tm, y4, y5, y6, rfl, p2, hd2, K2, hc⟩ := LL.end
  refine ⟨B', A.length, tm, ?_, p2, Nat.le_refl _, hd2, K2, ?_⟩
  · unfold f_Web_known_lay_turns
    refine fn_rt rfl ?_
    have e0 : sAsg eDNew (gName 2) (start 7 [.ref w, .ref l]) A = .ok (.nx (kst w l A.length none none none none)) (A ++ [.dI []]) := rfl
    rw [seq_nx e0, seq_nx e1, seq_nx e2]
    exact ret_ok rfl
  · rcases hc with hc | hc
    · intro h h0 h1 hk
      exfalso
      have h2 : (h :: keys tm).Nodup := List.nodup_cons.mpr ⟨hk, K2.nd⟩
      have := h2.length_le_of_subset (l₂ := hands N) fun x hx => by
        rcases List.mem_cons.mp hx with z | z
        · rw [z]; exact mem_hands.mpr ⟨h0, h1⟩
        · exact mem_hands.mpr (K2.hand x z)
      rw [hands_len, List.length_cons, keys_len] at this
      omega
    · exact hc
theorem KT.at_least {tm sm : List (Int × Int)} (K : KT N ps L tm) (K' : KT N ps L sm) (C' : Closed N ps sm) : ∀ (n : Nat) (h t : Int), tval tm h = some t → t ≤ n → tval sm h = some t
  | 0, h, t, ht, hn => by have := K.pos h t ht; omega
  | n + 1, h, t, ht, hn => by
    have hk : h ∈ keys tm := by
      have := tval_some tm h
      rw [ht] at this
      simpa using this.symm
    by_cases hL : h ∈ L
    · rw [K.one h hL] at ht
      rw [K'.one h hL, ht]
    · have hv := K.val h hk hL
      rw [ht] at hv
      have hv' := Option.some.inj hv
      have hg : ∀ g, (g, h) ∈ ps → tval sm g = tval tm g := by
        intro g hp
        obtain ⟨tg, htg⟩ := tval_mem (K.giv h hk hL g hp)
        rw [htg]
        refine KT.at_least K K' C' n g tg htg ?_
        have : tg ≤ mx ((givers (srt ps) h).map fun g => (tval tm g).getD 0) := mx_ge (List.mem_map.mpr ⟨g, mem_givers.mpr hp, by rw [htg]; rfl⟩)
        unfold turnBy at hv'
        omega
      have hgk : ∀ g, (g, h) ∈ ps → g ∈ keys sm := by
        intro g hp
        obtain ⟨tg, htg⟩ := tval_mem (K.giv h hk hL g hp)
        have := tval_some sm g
        rw [hg g hp, htg] at this
        simpa using this.symm
      have hks : h ∈ keys sm := by
        by_cases z : h ∈ keys sm
        · exact z
        · obtain ⟨g, hg1, hg2⟩ := C' h (K.hand h hk).1 (K.hand h hk).2 z
          exact absurd (hgk g hg1) hg2
      rw [K'.val h hks hL, hv']
      congr 1
      unfold turnBy
      congr 2
      refine List.map_congr_left fun g hgm => ?_
      rw [hg g (mem_givers.mp hgm)]
theorem KT.same {tm sm : List (Int × Int)} (K : KT N ps L tm) (C : Closed N ps tm) (K' : KT N ps L sm) (C' : Closed N ps sm) (h : Int) : tval tm h = tval sm h := by
  cases e : tval tm h with
  | some t => exact (KT.at_least K K' C' t.toNat h t e (by omega)).symm
  | none =>
    cases e' : tval sm h with
    | none => rfl
    | some t =>
      have := KT.at_least K' K C t.toNat h t e' (by omega)
      rw [e] at this; cases this
theorem KT.same_len {tm sm : List (Int × Int)} (K : KT N ps L tm) (C : Closed N ps tm) (K' : KT N ps L sm) (C' : Closed N ps sm) : tm.length = sm.length := by
  rw [← keys_len tm, ← keys_len sm]
  refine ((List.perm_ext_iff_of_nodup K.nd K'.nd).mpr fun x => ?_).length_eq
  have h1 := tval_some tm x
  have h2 := tval_some sm x
  rw [K.same C K' C' x] at h1
  rw [h1] at h2
  exact decide_eq_decide.mp h2
end
end Ws
namespace Ws
noncomputable def unk (N : Nat) (tm : List (Int × Int)) : List Int := (hands N).filter fun h => !decide (h ∈ keys tm)
theorem mem_unk {N : Nat} {tm : List (Int × Int)} {h : Int} : h ∈ unk N tm ↔ (0 ≤ h ∧ h < N) ∧ h ∉ keys tm := by
  unfold unk
  rw [List.mem_filter, mem_hands]; simp
theorem unk_len (N : Nat) (tm : List (Int × Int)) : (unk N tm).length ≤ N := by
  have := List.length_filter_le (fun h => !decide (h ∈ keys tm)) (hands N)
  rw [hands_len] at this; exact this
theorem unk_nil {N : Nat} {ps tm : List (Int × Int)} {L : List Int} (K : KT N ps L tm) : unk N tm = [] ↔ ¬ tm.length < N := by
  constructor
  · intro h hlt
    have hall : ∀ x ∈ hands N, x ∈ keys tm := by
      intro x hx
      by_cases z : x ∈ keys tm
      · exact z
      · have : x ∈ unk N tm := mem_unk.mpr ⟨mem_hands.mp hx, z⟩
        rw [h] at this; cases this
    have := (hands_nd N).length_le_of_subset (l₂ := keys tm) hall
    rw [hands_len, keys_len] at this; omega
  · intro h
    rw [List.eq_nil_iff_forall_not_mem]
    intro x hx
    obtain ⟨h1, h2⟩ := mem_unk.mp hx
    have h3 : (x :: keys tm).Nodup := List.nodup_cons.mpr ⟨h2, K.nd⟩
    have := h3.length_le_of_subset (l₂ := hands N) fun y hy => by
      rcases List.mem_cons.mp hy with z | z
      · rw [z]; exact mem_hands.mpr h1
      · exact mem_hands.mpr (K.hand y z)
    rw [hands_len, List.length_cons, keys_len] at this
    omega
end Ws
namespace Ws
section
variable {A : PHp} {w r l N : Nat} {ps : List (Int × Int)} {L : List Int}
noncomputable def layL (N : Nat) (tm : List (Int × Int)) : List Int := (hands N).map fun h => (tval tm h).getD 0
theorem lay_turns_ok (W : WebAt A w r N ps) (P : Passings N ps) (hl : A[l]? = some (.lst (L.map .int))) (nd : L.Nodup) (hL : ∀ h ∈ L, 0 ≤ h ∧ h < N) :
    ∃ A' tm v, f_Web_lay_turns [.ref w, .ref l] A = .ok v A' ∧ A <+: A' ∧ KT N ps L tm ∧ Closed N ps tm ∧ if tm.length < N then v = .non else ∃ p, v = .ref p ∧ A.length ≤ p ∧ A'[p]? = some (.lst ((layL N tm).map .int)) := by
  have hN : N ≤ 6 := by have := P.hi; omega
  obtain ⟨A1, d, tm, e1, p1, hdl, hd, K, C⟩ := known_ok W P hl nd hL
  have W1 := W.mono p1
  let σ : PSt := [some (.ref w), some (.ref l), some (.ref d)]
  have s1 : sAsg (eMeth 0 f_Web_known_lay_turns (eVar 0) (aCons (eVar 1) aNil)) (gName 2) (start 3 [.ref w, .ref l]) A = .ok (.nx σ) A1 :=
    asg_ok (v := .ref d) (meth_ok (c := 0) (n := w) (A1 := A) (A2 := A) rfl W.ob (args1_ok rfl) e1) rfl
  have tt : tVal (eBin oLt (eLenD (eVar 2)) (eFld (eVar 0) 0)) σ A1 = .ok (decide (tm.length < N)) A1 := by
    refine tval_ok (bin_ok (lenD_ok (e := eVar 2) rfl hd) (fld0_ok W1 rfl) ?_)
    show R.ok (PV.bl _) _ = _
    rw [show (tv tm).length = tm.length by simp [tv]]
    congr 2
    exact decide_eq_decide.mpr (by omega)
  by_cases c : tm.length < N
  · refine ⟨A1, tm, .non, ?_, p1, K, C, by rw [if_pos c]⟩
    unfold f_Web_lay_turns
    refine fn_rt rfl ?_
    rw [seq_nx s1]
    refine seq_rt ?_
    rw [if_t (A' := A1) (by rw [tt, decide_eq_true c])]; rfl
  · have hall : ∀ x ∈ hands N, x ∈ keys tm := by
      intro x hx
      by_cases z : x ∈ keys tm
      · exact z
      · have : x ∈ unk N tm := mem_unk.mpr ⟨mem_hands.mp hx, z⟩
        rw [(unk_nil K).mpr c] at this; cases this
    have ec : f_Web_lay_turns_c1 σ A1 = .ok (.ref A1.length) (A1 ++ [.lst ((layL N tm).map .int)]) := by
      unfold f_Web_lay_turns_c1
      refine Eq.trans (comp_rng (lo := 0) (n := N) (A1 := A1) (S := fun σ => ∃ x, σ = [x, some (.ref d)]) (p := fun _ => true) (f := fun v => .int ((tval tm (iv v)).getD 0)) (rng1_nat hN (fld0_ok W1 rfl)) (lim_le (by omega)) ⟨_, rfl⟩ ?_) ?_
      · rintro i hi σ ⟨x, rfl⟩
        refine ⟨[some (.int (0 + i)), some (.ref d)], rfl, ⟨_, rfl⟩, rfl, fun _ => ?_⟩
        obtain ⟨t, ht⟩ := tval_mem (hall ((0 : Int) + i) (mem_hands.mpr ⟨by omega, by omega⟩))
        refine dget_ok (k := 0 + i) rfl rfl hd ?_
        rw [valI_tv, ht]
        show _ = some (PV.int ((tval tm (0 + i)).getD 0))
        rw [ht]; rfl
      · rw [List.filter_eq_self.mpr fun _ _ => rfl, hands_map, List.map_map, layL, List.map_map]; rfl
    refine ⟨A1 ++ [.lst ((layL N tm).map .int)], tm, .ref A1.length, ?_, pre_app p1, K, C, by rw [if_neg c]; exact ⟨A1.length, rfl, pre_len p1, get_app⟩⟩
    unfold f_Web_lay_turns
    refine fn_rt rfl ?_
    rw [seq_nx s1, seq_nx (σ' := σ) (A' := A1) (by rw [if_f (A' := A1) (by rw [tt, decide_eq_false c])]; rfl)]
    exact ret_ok ec
end
end Ws
namespace Ws
section
variable {A : PHp} {w r l N : Nat} {ps : List (Int × Int)} {L : List Int}
noncomputable def qst (w l d u k : Nat) (x5 : Option PV) : PSt := [some (.ref w), some (.ref l), some (.ref d), some (.ref u), some (.ref k), x5]
noncomputable def Links (ps : List (Int × Int)) (xs : List Int) : Prop := ∀ i (h : i + 1 < xs.length), (xs[i], xs[i + 1]) ∈ ps
structure RingOf (ps : List (Int × Int)) (un xs : List Int) : Prop where
  ne : xs ≠ []
  nd : xs.Nodup
  mem : ∀ x ∈ xs, x ∈ un
  links : Links ps xs
  round : ∀ (h : 0 < xs.length), (xs[xs.length - 1]'(by omega), xs[0]) ∈ ps
theorem count_one {a : Int} {xs : List Int} : ((a :: xs).count a = 1) ↔ a ∉ xs := by
  rw [List.count_cons_self]
  constructor
  · intro h z
    have := List.count_pos_iff.mpr z
    omega
  · intro h
    have : xs.count a = 0 := List.count_eq_zero.mpr h
    omega
theorem idxI_some {k : Int} : ∀ {r : List Int}, k ∈ r → ∃ j, idxI k r = some j ∧ ∃ h : j < r.length, r[j] = k ∧ k ∉ r.take j
  | [], h => by cases h
  | i :: r, h => by
    unfold idxI
    by_cases e : i = k
    · exact ⟨0, by rw [if_pos e], by simp, e, by simp⟩
    · rw [if_neg e]
      rcases List.mem_cons.mp h with z | z
      · exact absurd z.symm e
      · obtain ⟨j, h1, h2, h3, h4⟩ := idxI_some z
        refine ⟨j + 1, by rw [h1]; rfl, by simp; omega, by simpa using h3, ?_⟩
        rw [List.take_succ_cons, List.mem_cons]
        rintro (y | y)
        · exact e y.symm
        · exact h4 y
theorem count_ok {e v : ED} {σ : PSt} {A : PHp} {n : Nat} {ns : List Int} {k : Int} (he : e σ A = .ok (.ref n) A) (hn : A[n]? = some (.lst (ns.map .int))) (hv : v σ A = .ok (.int k) A) : eCount e v σ A = .ok (.int (ns.count k)) A := by
  show bnd (e σ) _ A = _
  rw [bnd_ok he]
  show bnd (mutAt n) _ A = _
  rw [bnd_ok (mutAt_lst hn), bnd_ok hv]
  show bnd (mutAt n) _ A = _
  rw [bnd_ok (mutAt_lst hn), intsOf_map]; rfl
theorem insert_ok {e v : ED} {σ : PSt} {A : PHp} {n : Nat} {l : List PV} {u : PV} (he : e σ A = .ok (.ref n) A) (hn : A[n]? = some (.lst l)) (hv : v σ A = .ok u A) (hl : l.length < LIM) : eInsert e v σ A = .ok .non (A.set n (.lst (u :: l))) := by
  show bnd (e σ) _ A = _
  rw [bnd_ok he]
  show bnd (mutAt n) _ A = _
  rw [bnd_ok (mutAt_lst hn), bnd_ok hv, bnd_ok (mutAt_lst hn), guard_pos hl]; rfl
theorem index1_ok {e v : ED} {σ : PSt} {A : PHp} {n : Nat} {i : Int} {r : List Int} {k : Int} {j : Nat} (he : e σ A = .ok (.ref n) A) (hn : A[n]? = some (.lst ((i :: r).map .int))) (hv : v σ A = .ok (.int k) A) (hj : idxI k r = some j) : eIndex1 e v σ A = .ok (.int (j + 1 : Nat)) A := by
  show bnd (e σ) _ A = _
  rw [bnd_ok he]
  show bnd (mutAt n) _ A = _
  rw [bnd_ok (mutAt_lst hn), bnd_ok hv]
  show bnd (mutAt n) _ A = _
  rw [bnd_ok (mutAt_lst hn), intsOf_map]
  show (match idxI k r with | some j => ret (PV.int (j + 1 : Nat)) | none => stuck) A = _
  rw [hj]; rfl
theorem at0 {a : Int} {xs : List Int} : atI ((a :: xs).map PV.int) 0 = some (.int a) := by
  unfold atI ixN
  rw [if_pos (by omega), if_pos (by simp)]; rfl
theorem ring_l1 (W : WebAt A w r N ps) (P : Passings N ps) {d u k : Nat} {tm : List (Int × Int)} (C : Closed N ps tm) (hAk : A.length ≤ k) (hu : A[u]? = some (.lst ((unk N tm).map .int))) {B : PHp} {a0 : Int} (hp : A <+: B) (hk : B[k]? = some (.lst ([a0].map .int))) (h0 : a0 ∈ unk N tm) (x5 : Option PV) :
    ∃ B' a xs y5, f_Web_ring_l1 (qst w l d u k x5) B = .ok (.nx (qst w l d u k y5)) B' ∧ A <+: B' ∧ B'[k]? = some (.lst ((a :: xs).map .int)) ∧ a ∈ xs ∧ xs.Nodup ∧ (∀ x ∈ a :: xs, x ∈ unk N tm) ∧ Links ps (a :: xs) := by
  have hN : N ≤ 6 := by have := P.hi; omega
  have LL : Comes (f_Web_ring_l1 (qst w l d u k x5) B) (fun σ B' => ∃ a xs y5, σ = qst w l d u k y5 ∧ A <+: B' ∧ B'[k]? = some (.lst ((a :: xs).map .int)) ∧ a ∈ xs ∧ xs.Nodup ∧ (∀ x ∈ a :: xs, x ∈ unk N tm) ∧ Links ps (a :: xs)) (fun _ _ => False) := by
    unfold f_Web_ring_l1
    refine while_ok (fun m σ B' => ∃ a xs y5, σ = qst w l d u k y5 ∧ A <+: B' ∧ B'[k]? = some (.lst ((a :: xs).map .int)) ∧ xs.Nodup ∧ (∀ x ∈ a :: xs, x ∈ unk N tm) ∧ Links ps (a :: xs) ∧ m = 20 - xs.length) (m := 20) (by decide)
      ⟨a0, [], x5, rfl, hp, hk, by simp, fun x hx => by simp at hx; subst hx; exact h0, fun i h => by simp at h, rfl⟩ ?_
    rintro m σ B' ⟨a, xs, y5, rfl, p1, hk1, nd, hm, lk, hmm⟩
    have hxl : xs.length ≤ 6 := by
      have := nd.length_le_of_subset (l₂ := unk N tm) fun x hx => hm x (List.mem_cons_of_mem _ hx)
      have := unk_len N tm
      omega
    have ix0 : eBin oIx (eVar 4) (eK (.int 0)) (qst w l d u k y5) B' = .ok (.int a) B' := ix_ok (a := k) rfl rfl (lstAt_lst hk1) at0
    have tt : tVal (eBin oEq (eCount (eVar 4) (eBin oIx (eVar 4) (eK (.int 0)))) (eK (.int 1))) (qst w l d u k y5) B' = .ok (decide (a ∉ xs)) B' := by
      refine tval_ok (bin_ok (count_ok (e := eVar 4) rfl hk1 ix0) rfl ?_)
      rw [eq_ok rfl rfl]
      show R.ok (PV.bl (decide ((((a :: xs).count a : Nat) : Int) = 1))) _ = _
      congr 2
      refine decide_eq_decide.mpr ?_
      rw [← count_one]
      omega
    by_cases c : a ∈ xs
    · left
      exact ⟨B', by rw [tt, decide_eq_false (by simpa using c)], a, xs, y5, rfl, p1, hk1, c, nd, hm, lk⟩
    · right
      refine ⟨B', by rw [tt, decide_eq_true c], ?_⟩
      have W1 := W.mono p1
      have hu1 := pre_get p1 hu
      have au := mem_unk.mp (hm a List.mem_cons_self)
      have g1 : eMeth 0 f_Web_givers_of (eVar 0) (aCons (eBin oIx (eVar 4) (eK (.int 0))) aNil) (qst w l d u k y5) B' = _ := meth_ok (c := 0) (f := f_Web_givers_of) (a := eVar 0) (A := B') (A1 := B') (A2 := B') (n := w) rfl W1.ob (args1_ok ix0) (givers_of_ok W1 P.len (h := a))
      have hgl : (givers (srt ps) a).length ≤ 64 := by have := givers_len (srt ps) a; rw [(srt_perm ps).length_eq] at this; have := P.len; omega
      generalize hB1 : B' ++ [PO.lst ((givers (srt ps) a).map .int)] = B1 at g1
      have hg1 : B1[B'.length]? = some (.lst ((givers (srt ps) a).map .int)) := by rw [← hB1]; exact get_app
      have hu2 : B1[u]? = some (.lst ((unk N tm).map .int)) := by rw [← hB1]; exact get_app_of hu1
      have hk2 : B1[k]? = some (.lst ((a :: xs).map .int)) := by rw [← hB1]; exact get_app_of hk1
      have p2 : A <+: B1 := by rw [← hB1]; exact pre_app p1
      have ec : f_Web_ring_c2 (qst w l d u k y5) B' = .ok (.ref B1.length) (B1 ++ [.lst (((givers (srt ps) a).filter fun g => decide (g ∈ unk N tm)).map .int)]) := by
        unfold f_Web_ring_c2
        refine Eq.trans (comp_lst (a := B'.length) (l := (givers (srt ps) a).map .int) (A1 := B1) (S := fun σ => ∃ x, σ = [x, some (.ref u)]) (p := fun v => decide (iv v ∈ unk N tm)) (f := fun v => .int (iv v)) (iseq_ok g1 (lstAt_lst hg1)) (lstAt_lst hg1) (lim_le (by rw [List.length_map]; omega)) ⟨_, rfl⟩ ?_) ?_
        · rintro v hv σ ⟨x, rfl⟩
          obtain ⟨g, hg, rfl⟩ := List.mem_map.mp hv
          refine ⟨[some (.int g), some (.ref u)], rfl, ⟨_, rfl⟩, ?_, fun _ => rfl⟩
          exact tval_ok (in_ok (a := eVar 0) (b := eVar 1) (σ := [some (.int g), some (.ref u)]) (A := B1) rfl rfl hu2)
        · rw [filter_int, List.map_map]; rfl
      obtain ⟨g, hgp, hgk⟩ := C a au.1.1 au.1.2 au.2
      have hne : ((givers (srt ps) a).filter fun g => decide (g ∈ unk N tm)) ≠ [] := by
        intro z
        have : g ∈ ((givers (srt ps) a).filter fun g => decide (g ∈ unk N tm)) := List.mem_filter.mpr ⟨mem_givers.mpr hgp, decide_eq_true (mem_unk.mpr ⟨(P.good _ hgp).1, hgk⟩)⟩
        rw [z] at this; cases this
      obtain ⟨b, bs, hbs⟩ := List.exists_cons_of_ne_nil hne
      have hbm := List.mem_filter.mp (show b ∈ ((givers (srt ps) a).filter fun g => decide (g ∈ unk N tm)) by rw [hbs]; exact List.mem_cons_self)
      rw [hbs] at ec
      have hk3 : (B1 ++ [PO.lst ((b :: bs).map .int)])[k]? = some (.lst ((a :: xs).map .int)) := get_app_of hk2
      have ix1 : eBin oIx (eVar 5) (eK (.int 0)) (qst w l d u k (some (.ref B1.length))) (B1 ++ [.lst ((b :: bs).map .int)]) = .ok (.int b) (B1 ++ [.lst ((b :: bs).map .int)]) := ix_ok (a := B1.length) rfl rfl lstAt_last at0
      have ins := insert_ok (e := eVar 4) (σ := qst w l d u k (some (.ref B1.length))) rfl hk3 ix1 (lim_lt (by simp; omega))
      refine Turns.nx (σ := qst w l d u k (some (.ref B1.length))) (A := (B1 ++ [PO.lst ((b :: bs).map .int)]).set k (.lst ((b :: a :: xs).map .int))) ?_ ⟨20 - (a :: xs).length, by simp; omega, b, a :: xs, _, rfl, pre_set (pre_app p2) hAk, get_set hk3, List.nodup_cons.mpr ⟨c, nd⟩, ?_, ?_, rfl⟩
      · unfold f_Web_ring_b1
        rw [seq_nx (asg_ok (g := gName 5) ec (σ' := qst w l d u k (some (.ref B1.length))) rfl)]
        exact expr_ok ins
      · intro x hx
        rcases List.mem_cons.mp hx with z | z
        · rw [z]; simpa using hbm.2
        · exact hm x z
      · intro i hi
        cases i with
        | zero => exact mem_givers.mp hbm.1
        | succ i =>
          have := lk i (by simpa using hi)
          simpa using this
  obtain ⟨σ, B', e, a, xs, y5, rfl, h1⟩ := LL.end
  exact ⟨B', a, xs, y5, e, h1⟩
theorem ring_of {un xs : List Int} {a : Int} {j : Nat} (nd : xs.Nodup) (hm : ∀ x ∈ a :: xs, x ∈ un) (lk : Links ps (a :: xs)) (hj : j < xs.length) (he : xs[j] = a) (hn : a ∉ xs.take j) : RingOf ps un (a :: xs.take j) := by
  refine ⟨by simp, List.nodup_cons.mpr ⟨hn, nd.take⟩, fun x hx => ?_, fun i h => ?_, fun h => ?_⟩
  · rcases List.mem_cons.mp hx with z | z
    · rw [z]; exact hm a List.mem_cons_self
    · exact hm x (List.mem_cons_of_mem _ (List.mem_of_mem_take z))
  · have hl : i + 1 < j + 1 := by
      simp only [List.length_cons, List.length_take] at h; omega
    have := lk i (by simp; omega)
    rw [List.getElem_cons_succ] at this ⊢
    rw [List.getElem_take]
    cases i with
    | zero => exact this
    | succ i => rw [List.getElem_cons_succ] at this ⊢; rw [List.getElem_take]; exact this
  · have := lk j (by simp; omega)
    rw [List.getElem_cons_succ, he] at this
    have e1 : (a :: xs.take j).length - 1 = j := by simp; omega
    have : (a :: xs.take j)[(a :: xs.take j).length - 1]'(by simp) = (a :: xs)[j]'(by simp; omega) := by
      have e2 : (a :: xs.take j) = (a :: xs).take (j + 1) := rfl
      simp only [e2, List.getElem_take]
      congr 1
    rw [this]
    assumption
theorem ring_ok (W : WebAt A w r N ps) (P : Passings N ps) (hl : A[l]? = some (.lst (L.map .int))) (nd : L.Nodup) (hL : ∀ h ∈ L, 0 ≤ h ∧ h < N) :
    ∃ A' tm v, f_Web_ring [.ref w, .ref l] A = .ok v A' ∧ A <+: A' ∧ KT N ps L tm ∧ Closed N ps tm ∧ if tm.length < N then ∃ p xs, v = .ref p ∧ A.length ≤ p ∧ A'[p]? = some (.lst (xs.map .int)) ∧ RingOf ps (unk N tm) xs else v = .non := by
  have hN : N ≤ 6 := by have := P.hi; omega
  obtain ⟨A1, d, tm, e1, p1, hdl, hd, K, C⟩ := known_ok W P hl nd hL
  have W1 := W.mono p1
  let σ2 : PSt := [some (.ref w), some (.ref l), some (.ref d), none, none, none]
  have s1 : sAsg (eMeth 0 f_Web_known_lay_turns (eVar 0) (aCons (eVar 1) aNil)) (gName 2) (start 6 [.ref w, .ref l]) A = .ok (.nx σ2) A1 :=
    asg_ok (v := .ref d) (meth_ok (c := 0) (n := w) (A1 := A) (A2 := A) rfl W.ob (args1_ok rfl) e1) rfl
  have ec : f_Web_ring_c1 σ2 A1 = .ok (.ref A1.length) (A1 ++ [.lst ((unk N tm).map .int)]) := by
    unfold f_Web_ring_c1
    refine Eq.trans (comp_rng (lo := 0) (n := N) (A1 := A1) (S := fun σ => ∃ x, σ = [x, some (.ref d)]) (p := fun v => !decide (iv v ∈ keys tm)) (f := fun v => .int (iv v)) (rng1_nat hN (fld0_ok W1 rfl)) (lim_le (by omega)) ⟨_, rfl⟩ ?_) ?_
    · rintro i hi σ ⟨x, rfl⟩
      refine ⟨[some (.int (0 + i)), some (.ref d)], rfl, ⟨_, rfl⟩, ?_, fun _ => rfl⟩
      have := tval_ok (dnotin_ok (y := eVar 0) (d := eVar 1) (σ := [some (.int (0 + i)), some (.ref d)]) (A := A1) (k := 0 + i) rfl rfl hd)
      rwa [valI_tv, Option.isSome_map, tval_some] at this
    · rw [hands_map, filter_int, List.map_map]; rfl
  generalize hA2 : A1 ++ [PO.lst ((unk N tm).map .int)] = A2 at ec
  have hu2 : A2[A1.length]? = some (.lst ((unk N tm).map .int)) := by rw [← hA2]; exact get_app
  have p2 : A <+: A2 := by rw [← hA2]; exact pre_app p1
  generalize hu : A1.length = u at ec hu2
  let σ3 : PSt := [some (.ref w), some (.ref l), some (.ref d), some (.ref u), none, none]
  have tt := eq_nil_ok (e := eVar 3) (σ := σ3) (A := A2) rfl hu2
  have p3 : A <+: A2 ++ [PO.lst []] := pre_app p2
  by_cases c : tm.length < N
  · have hne : unk N tm ≠ [] := fun z => (unk_nil K).mp z c
    obtain ⟨a0, us, hus⟩ := List.exists_cons_of_ne_nil hne
    have hemp : (unk N tm).isEmpty = false := by rw [hus]; rfl
    have hu3 : (A2 ++ [PO.lst []])[u]? = some (.lst ((unk N tm).map .int)) := get_app_of hu2
    have ix0 : eBin oIx (eVar 3) (eK (.int 0)) σ3 (A2 ++ [PO.lst []]) = .ok (.int a0) (A2 ++ [PO.lst []]) := ix_ok (a := u) rfl rfl (lstAt_lst hu3) (by rw [hus]; exact at0)
    have s4 : sAsg (eLst (aCons (eBin oIx (eVar 3) (eK (.int 0))) aNil)) (gName 4) σ3 (A2 ++ [PO.lst []]) = .ok (.nx (qst w l d u (A2 ++ [PO.lst []]).length none)) (A2 ++ [PO.lst []] ++ [.lst ([a0].map .int)]) := by
      refine asg_ok (v := .ref (A2 ++ [PO.lst []]).length) (A' := A2 ++ [PO.lst []] ++ [.lst ([a0].map .int)]) ?_ rfl
      show bnd (aCons _ _ _) _ _ = _
      rw [bnd_ok (args1_ok ix0), guard_pos (by simp)]; rfl
    obtain ⟨B, a, xs, y5, el, pB, hk, hax, ndx, hmx, lk⟩ := ring_l1 (l := l) (d := d) (A := A2 ++ [PO.lst []]) (W.mono p3) P C (Nat.le_refl _) hu3 (B := A2 ++ [PO.lst []] ++ [.lst ([a0].map .int)]) (pre_app (List.prefix_refl _)) get_app (by rw [hus]; exact List.mem_cons_self) none
    obtain ⟨j, hj, hjl, hje, hjn⟩ := idxI_some hax
    have ix1 : eBin oIx (eVar 4) (eK (.int 0)) (qst w l d u (A2 ++ [PO.lst []]).length y5) B = .ok (.int a) B := ix_ok (a := (A2 ++ [PO.lst []]).length) rfl rfl (lstAt_lst hk) at0
    have ixx := index1_ok (e := eVar 4) (σ := qst w l d u (A2 ++ [PO.lst []]).length y5) rfl hk ix1 hj
    have ecut : eCut (eVar 4) lNo (lAt (eIndex1 (eVar 4) (eBin oIx (eVar 4) (eK (.int 0))))) (qst w l d u (A2 ++ [PO.lst []]).length y5) B = .ok (.ref B.length) (B ++ [.lst ((a :: xs.take j).map .int)]) := by
      have := cutto_ok (e := eVar 4) (i := eIndex1 (eVar 4) (eBin oIx (eVar 4) (eK (.int 0)))) (σ := qst w l d u (A2 ++ [PO.lst []]).length y5) (B := B) (j := j + 1) rfl ixx (lstAt_lst hk)
      rw [this]
      simp
    refine ⟨B ++ [.lst ((a :: xs.take j).map .int)], tm, .ref B.length, ?_, pre_app (p3.trans pB), K, C, ?_⟩
    · unfold f_Web_ring
      refine fn_rt rfl ?_
      rw [seq_nx s1, seq_nx (asg_ok (g := gName 3) ec (σ' := σ3) (A'' := A2) rfl), seq_nx (σ' := σ3) (A' := A2 ++ [PO.lst []]) (by rw [if_f (A' := A2 ++ [PO.lst []]) (by rw [tt, hemp])]; rfl), seq_nx s4, seq_nx el]
      exact ret_ok ecut
    · rw [if_pos c]
      exact ⟨B.length, a :: xs.take j, rfl, pre_len (p3.trans pB), get_app, ring_of ndx hmx lk hjl hje hjn⟩
  · have hnil := (unk_nil K).mpr c
    refine ⟨A2 ++ [PO.lst []], tm, .non, ?_, p3, K, C, by rw [if_neg c]⟩
    unfold f_Web_ring
    refine fn_rt rfl ?_
    rw [seq_nx s1, seq_nx (asg_ok (g := gName 3) ec (σ' := σ3) (A'' := A2) rfl)]
    refine seq_rt ?_
    rw [if_t (A' := A2 ++ [PO.lst []]) (by rw [tt, hnil]; rfl)]; rfl
end
end Ws
namespace Ws
section
variable {A : PHp} {Q : PV → PHp → Prop} {E : XP} {σ : PSt} {i j : Int} {n k : Nat} {e e1 e2 : ED}
theorem w_shr (h : 0 ≤ j) (q : Q (.int (i / 2 ^ j.toNat)) A) : Wp (oShr (.int i) (.int j)) A Q E := w_guard h q
theorem w_shl (h : 0 ≤ j ∧ j ≤ 1000000 ∧ i.natAbs < 2 ^ 64) (q : Q (.int (i * 2 ^ j.toNat)) A) : Wp (oShl (.int i) (.int j)) A Q E := w_guard h q
theorem w_andB (q : Q (.int (PySem.Builtin.bitAnd i j)) A) : Wp (oAnd (.int i) (.int j)) A Q E := q
theorem w_listRng (h : Wp (e σ) A (fun x A1 => ∃ n : Nat, x = .int n ∧ n ≤ 1000 ∧ Q (.ref A1.length) (A1 ++ [.lst ((hands n).map .int)])) E) : Wp (eListRng e σ) A Q E :=
  w_bnd (w_mono h fun x A1 ⟨n, hx, hn, q⟩ => by
    subst hx
    refine w_guard (by omega) ?_
    rw [Int.toNat_natCast]
    have : (hands n).map PV.int = (List.range n).map fun (k : Nat) => PV.int (k : Int) := by unfold hands; rw [List.map_map]; rfl
    rw [this] at q
    exact q)
theorem w_popI (h : Wp (e1 σ) A (fun x A1 => ∃ n l0, x = .ref n ∧ A1[n]? = some (.lst l0) ∧ Wp (e2 σ) A1 (fun y A2 => ∃ (l : List PV) (j : Nat) (v : PV), y = .int j ∧ j ≤ 1000000 ∧ A2[n]? = some (.lst l) ∧ l[j]? = some v ∧ Q v (A2.set n (.lst (l.eraseIdx j)))) E) E) : Wp (ePopI e1 e2 σ) A Q E :=
  w_bnd (w_mono h fun x A1 ⟨n, l0, hx, h0, h1⟩ => by
    subst hx
    refine w_bnd (w_mut h0 (w_bnd (w_mono h1 fun y A2 ⟨l, j, v, hy, hj, hl, hv, q⟩ => ?_)))
    subst hy
    refine w_bnd (w_mut hl ?_)
    have hlt : j < l.length := (List.getElem?_eq_some_iff.mp hv).1
    have e : ixN l.length (j : Int) = some j := by
      unfold ixN
      rw [if_pos (by omega), if_pos (by omega)]; rfl
    rw [e]
    dsimp only
    rw [hv]
    exact w_guard (by omega) (w_bnd (w_eq (a := ()) rfl q)))
theorem w_dictOf (h : Wp (e σ) A (fun x A1 => ∃ n l m, x = .ref n ∧ A1[n]? = some (.lst l) ∧ prsOf l = some m ∧ m.length < LIM ∧ Q (.ref A1.length) (A1 ++ [.dI (m.foldl (fun acc p => putI acc p.1 p.2) [])])) E) : Wp (eDictOf e σ) A Q E :=
  w_bnd (w_mono h fun x A1 ⟨n, l, m, hx, h0, h1, h2, q⟩ => by
    subst hx
    refine w_bnd (w_mut h0 ?_)
    rw [h1]
    exact w_guard h2 q)
theorem w_dctAt {QM : List (Int × PV) → PHp → Prop} {m : List (Int × PV)} (h : A[n]? = some (.dI m)) (q : QM m A) : Wp (dctAt n) A QM E := w_eq (a := m) (by unfold dctAt; rw [h]) q
theorem w_maxV (h : Wp (e σ) A (fun x A1 => ∃ n m i r, x = .ref n ∧ A1[n]? = some (.dI m) ∧ intsOf (m.map (·.2)) = some (i :: r) ∧ Q (.int (maxI i r)) A1) E) : Wp (eMaxV e σ) A Q E :=
  w_bnd (w_mono h fun x A1 ⟨n, m, i, r, hx, h0, h1, q⟩ => by
    subst hx
    refine w_bnd (w_dctAt h0 ?_)
    rw [h1]
    exact q)
theorem w_ltL {l m : List Int} (hn : A[n]? = some (.lst (l.map .int))) (hk : A[k]? = some (.lst (m.map .int))) (q : Q (.bl (if i = j then lexLt l m else decide (i < j))) A) : Wp (oLtL (.tup [.int i, .ref n]) (.tup [.int j, .ref k])) A Q E :=
  w_bnd (w_mut hn (w_bnd (w_mut hk (by rw [intsOf_map, intsOf_map]; exact q))))
theorem w_dput {QF : Fl → PHp → Prop} {d y : ED} (h : Wp (e σ) A (fun v A1 => Wp (d σ) A1 (fun x A2 => Wp (y σ) A2 (fun k A3 => ∃ (n : Nat) (i : Int) (m : List (Int × PV)), x = .ref n ∧ k = .int i ∧ A3[n]? = some (.dI m) ∧ m.length < LIM ∧ QF (.nx σ) (A3.set n (.dI (putI m i v)))) E) E) E) : Wp (sDPut d y e σ) A QF E :=
  w_bnd (w_mono h fun v A1 h1 => w_bnd (w_mono h1 fun x A2 h2 => w_bnd (w_mono h2 fun k A3 ⟨n, i, m, hx, hk, hn, hm, q⟩ => by
    subst hx; subst hk
    exact w_bnd (w_dctAt hn (w_guard hm (w_bnd (w_eq (a := ()) rfl q)))))))
theorem w_max (h : Wp (e σ) A (fun x A1 => ∃ (n : Nat) (i : Int) (r : List Int), x = .ref n ∧ A1[n]? = some (.lst ((i :: r).map .int)) ∧ Q (.int (maxI i r)) A1) E) : Wp (eMax e σ) A Q E :=
  w_bnd (w_mono h fun x A1 ⟨n, i, r, hx, h0, q⟩ => by
    subst hx
    refine w_bnd (w_lstAt h0 ?_)
    rw [intsOf_map]
    exact q)
theorem w_lenD (h : Wp (e σ) A (fun x A1 => ∃ n m, x = .ref n ∧ A1[n]? = some (.dI m) ∧ Q (.int m.length) A1) E) : Wp (eLenD e σ) A Q E :=
  w_bnd (w_mono h fun x A1 ⟨n, m, hx, h0, q⟩ => by
    subst hx
    exact w_bnd (w_dctAt h0 q))
end
theorem erase_perm {α : Type} : ∀ {l : List α} {j : Nat} (h : j < l.length), (l[j] :: l.eraseIdx j).Perm l
  | a :: l, 0, h => List.Perm.refl _
  | a :: l, j + 1, h => (List.Perm.swap _ _ _).trans ((erase_perm (l := l) (j := j) (by simpa using h)).cons a)
theorem map_erase {α β : Type} (f : α → β) : ∀ (l : List α) (j : Nat), (l.map f).eraseIdx j = (l.eraseIdx j).map f
  | [], j => by simp
  | a :: l, 0 => rfl
  | a :: l, j + 1 => by simp [map_erase f l j]
structure PG (N : Nat) (ps : List (Int × Int)) : Prop where
  good : ∀ p ∈ ps, good N p
  nd : ps.Nodup
theorem PG.put {N : Nat} {ps : List (Int × Int)} (h : PG N ps) {a b : Int} (g : Ws.good N (a, b)) (hn : (a, b) ∉ ps) : PG N (ps ++ [(a, b)]) := by
  refine ⟨fun p hp => ?_, ?_⟩
  · rcases List.mem_append.mp hp with z | z
    · exact h.good p z
    · rw [List.mem_singleton] at z; subst z; exact g
  · rw [List.nodup_append]
    exact ⟨h.nd, by simp, fun x hx y hy e => hn (by rw [List.mem_singleton] at hy; rw [← hy, ← e]; exact hx)⟩
theorem pvs_app (ps : List (Int × Int)) (p : Int × Int) : pvs ps ++ [pv p] = pvs (ps ++ [p]) := by simp [pvs]
theorem pvs_len (ps : List (Int × Int)) : (pvs ps).length = ps.length := by simp [pvs]
section
variable {A : PHp} {N : Nat}
noncomputable abbrev w51 (a b c : Int) (N : Nat) (bits : Int) (f : Nat) (x6 x7 x8 x9 x10 x11 : Option PV) : PSt := [some (.int a), some (.int b), some (.int c), some (.int N), some (.int bits), some (.ref f), x6, x7, x8, x9, x10, x11]
theorem web_l2 {B : PHp} {a b c bits : Int} {f i : Nat} {ps : List (Int × Int)} (hN : N ≤ 6) (hi : i < N) (pre : A <+: B) (hf : A.length ≤ f) (hl : B[f]? = some (.lst (pvs ps))) (G : PG N ps) (hlen : ps.length ≤ i * N) (hlt : ∀ p ∈ ps, p.1 < i) (x7 x8 x9 x10 x11 : Option PV) :
    Wp (f_law_web_l2 (w51 a b c N bits f (some (.int i)) x7 x8 x9 x10 x11)) B (fun o B' => ∃ qs y7, o = .nx (w51 a b c N bits f (some (.int i)) y7 x8 x9 x10 x11) ∧ A <+: B' ∧ B'[f]? = some (.lst (pvs qs)) ∧ PG N qs ∧ qs.length ≤ (i + 1) * N ∧ ∀ p ∈ qs, p.1 < (i + 1 : Nat)) NoX := by
  unfold f_law_web_l2
  refine w_forR (fun j σ B' => ∃ qs y7, σ = w51 a b c N bits f (some (.int i)) y7 x8 x9 x10 x11 ∧ A <+: B' ∧ B'[f]? = some (.lst (pvs qs)) ∧ PG N qs ∧ qs.length ≤ i * N + j ∧ ∀ p ∈ qs, p.1 < i ∨ (p.1 = i ∧ p.2 < j)) ?_
  unfold w51
  walk_at "go"
  refine ⟨0, N, rfl, ⟨ps, _, rfl, pre, hl, G, by omega, fun p hp => .inl (hlt p hp)⟩, ?_, ?_⟩
  · rintro j σ B1 hj ⟨qs, y7, rfl, p1, hl1, G1, hn1, hb1⟩
    walk_at "go"
    have hlim : (pvs qs).length < LIM := by
      rw [pvs_len]
      refine lim_lt ?_
      have : i * N ≤ 5 * 6 := Nat.mul_le_mul (by omega) hN
      omega
    unfold f_law_web_b2
    walk_at "go"
    refine ⟨fun h1 => ?_, fun h1 => ?_⟩
    · walk_at "go"
      refine w_mul (.inr (by omega)) ?_
      walk_at "go"
      refine w_shr (by omega) ?_
      walk_at "go"
      refine w_andB ?_
      walk_at "go"
      refine ⟨fun h2 => ?_, fun h2 => ?_⟩
      · walk_at "go"
        refine ⟨qs ++ [((i : Int), (0 + j : Int))], _, rfl, pre_set p1 hf, ?_, G1.put ?_ ?_, ?_, ?_⟩
        · rw [get_set hl1, ← pvs_app]; rfl
        · refine ⟨by omega, by omega, ?_⟩
          simpa using h1
        · intro z
          rcases hb1 _ z with h | h
          · simp at h
          · simp at h
        · rw [List.length_append]; simp; omega
        · intro p hp
          rcases List.mem_append.mp hp with z | z
          · rcases hb1 p z with h | h
            · exact .inl h
            · exact .inr ⟨h.1, by have := h.2; omega⟩
          · rw [List.mem_singleton] at z; subst z; exact .inr ⟨rfl, by simp; omega⟩
      · walk_at "go"
        exact ⟨qs, _, rfl, p1, hl1, G1, by omega, fun p hp => by
          rcases hb1 p hp with h | h
          · exact .inl h
          · exact .inr ⟨h.1, by have := h.2; omega⟩⟩
    · walk_at "go"
      exact ⟨qs, _, rfl, p1, hl1, G1, by omega, fun p hp => by
        rcases hb1 p hp with h | h
        · exact .inl h
        · exact .inr ⟨h.1, by have := h.2; omega⟩⟩
  · rintro σ B1 ⟨qs, y7, rfl, p1, hl1, G1, hn1, hb1⟩
    exact ⟨qs, _, rfl, p1, hl1, G1, by rw [Nat.succ_mul]; exact hn1, fun p hp => by
      rcases hb1 p hp with h | h
      · omega
      · omega⟩
theorem web_l1 {a b c bits : Int} {f : Nat} (hN : N ≤ 6) {B : PHp} (pre : A <+: B) (hf : A.length ≤ f) (hl : B[f]? = some (.lst [])) :
    Wp (f_law_web_l1 (w51 a b c N bits f none none none none none none)) B (fun o B' => ∃ qs y6 y7, o = .nx (w51 a b c N bits f y6 y7 none none none none) ∧ A <+: B' ∧ B'[f]? = some (.lst (pvs qs)) ∧ PG N qs ∧ qs.length ≤ 36) NoX := by
  unfold f_law_web_l1
  refine w_forR (fun i σ B' => ∃ qs y6 y7, σ = w51 a b c N bits f y6 y7 none none none none ∧ A <+: B' ∧ B'[f]? = some (.lst (pvs qs)) ∧ PG N qs ∧ qs.length ≤ i * N ∧ ∀ p ∈ qs, p.1 < i) ?_
  unfold w51
  walk_at "go"
  refine ⟨0, N, rfl, ⟨[], _, _, rfl, pre, hl, ⟨by simp, by simp⟩, by simp, by simp⟩, ?_, ?_⟩
  · rintro i σ B1 hi ⟨qs, y6, y7, rfl, p1, hl1, G1, hn1, hb1⟩
    walk_at "go"
    unfold f_law_web_b1
    have := web_l2 (a := a) (b := b) (c := c) (bits := bits) hN hi p1 hf hl1 G1 hn1 hb1 y7 none none none none
    rw [show (0 : Int) + i = i by omega]
    refine w_mono this fun o B2 ⟨rs, z7, ho, p2, hl2, G2, hn2, hb2⟩ => ?_
    subst ho
    exact ⟨rs, _, _, rfl, p2, hl2, G2, hn2, hb2⟩
  · rintro σ B1 ⟨qs, y6, y7, rfl, p1, hl1, G1, hn1, hb1⟩
    exact ⟨qs, _, _, rfl, p1, hl1, G1, Nat.le_trans hn1 (Nat.mul_le_mul hN hN)⟩
theorem web_l3 {a b c bits st : Int} {f o : Nat} (hN : N ≤ 6) {B : PHp} (pre : A <+: B) (ho : A.length ≤ o) (hl : B[o]? = some (.lst ((hands N).map .int))) (fo : f ≠ o) {ps : List (Int × Int)} (hf : B[f]? = some (.lst (pvs ps))) (x6 x7 : Option PV) :
    Wp (f_law_web_l3 (w51 a b c N bits f x6 x7 (some (.int st)) (some (.ref o)) none none)) B (fun r B' => ∃ (O : List Int) (z : Int) (y : Option PV), r = .nx (w51 a b c N bits f x6 x7 (some (.int z)) (some (.ref o)) y none) ∧ A <+: B' ∧ B'[o]? = some (.lst (O.map .int)) ∧ B'[f]? = some (.lst (pvs ps)) ∧ O.Perm (hands N)) NoX := by
  unfold f_law_web_l3
  refine w_forR (fun i σ B' => ∃ (O : List Int) (z : Int) (y : Option PV), σ = (w51 a b c N bits f x6 x7 (some (.int z)) (some (.ref o)) y none) ∧ A <+: B' ∧ B'[o]? = some (.lst (O.map .int)) ∧ B'[f]? = some (.lst (pvs ps)) ∧ O.Perm (hands N)) ?_
  unfold w51
  walk_at "go"
  refine ⟨0, N, rfl, ⟨_, _, _, rfl, pre, hl, hf, List.Perm.refl _⟩, ?_, ?_⟩
  · rintro i σ B1 hi ⟨O, z, y, rfl, p1, hl1, hf1, hp⟩
    have hO : O.length = N := by rw [hp.length_eq, hands_len]
    walk_at "go"
    unfold f_law_web_b3
    walk_at "go"
    refine w_popI ?_
    walk_at "go"
    have hm0 : 0 ≤ z % ((N : Int) - (0 + i)) := Int.emod_nonneg _ (by omega)
    have hm1 : z % ((N : Int) - (0 + i)) < N - i := by
      have := Int.emod_lt_of_pos z (b := (N : Int) - (0 + i)) (by omega)
      omega
    obtain ⟨j, hj⟩ : ∃ j : Nat, z % ((N : Int) - (0 + i)) = j := ⟨_, (Int.toNat_of_nonneg hm0).symm⟩
    rw [hj] at hm1 ⊢
    have hjO : j < O.length := by omega
    refine ⟨_, j, .int O[j], rfl, by omega, hl1, by rw [List.getElem?_map, List.getElem?_eq_getElem hjO]; rfl, ?_⟩
    refine ⟨_, get_set hl1, by rw [List.length_eraseIdx_of_lt (by simpa using hjO)]; refine lim_lt ?_; simp; omega, ?_⟩
    walk_at "go"
    have e : (O.map PV.int).eraseIdx j ++ [PV.int O[j]] = (O.eraseIdx j ++ [O[j]]).map PV.int := by
      rw [List.map_append, map_erase]; rfl
    refine ⟨O.eraseIdx j ++ [O[j]], _, _, rfl, pre_set (pre_set p1 ho) ho, ?_, ?_, ?_⟩
    · rw [← e]; exact get_set (get_set hl1)
    · rw [get_set_ne fo, get_set_ne fo]; exact hf1
    · exact ((List.perm_append_comm).trans (erase_perm hjO)).trans hp
  · rintro σ B1 ⟨O, z, y, rfl, h⟩
    exact ⟨O, z, y, rfl, h⟩
theorem web_l4 {a b c bits : Int} {f o : Nat} (h2 : 2 ≤ N) (hN : N ≤ 6) {B : PHp} (pre : A <+: B) (hfA : A.length ≤ f) (fo : o ≠ f) {O : List Int} (hp : O.Perm (hands N)) (hl : B[o]? = some (.lst (O.map .int))) {ps : List (Int × Int)} (hf : B[f]? = some (.lst (pvs ps))) (G : PG N ps) (hlen : ps.length ≤ 36) (x6 x7 x8 x10 : Option PV) :
    Wp (f_law_web_l4 (w51 a b c N bits f x6 x7 x8 (some (.ref o)) x10 none)) B (fun r B' => ∃ qs y10 y11, r = .nx (w51 a b c N bits f x6 x7 x8 (some (.ref o)) y10 y11) ∧ A <+: B' ∧ B'[f]? = some (.lst (pvs qs)) ∧ PG N qs ∧ qs.length ≤ 42) NoX := by
  have hO : O.length = N := by rw [hp.length_eq, hands_len]
  have nd : O.Nodup := hp.nodup_iff.mpr (hands_nd N)
  have hin : ∀ x ∈ O, 0 ≤ x ∧ x < N := fun x hx => mem_hands.mp (hp.mem_iff.mp hx)
  unfold f_law_web_l4
  refine w_forR (fun i σ B' => ∃ qs y10 y11, σ = w51 a b c N bits f x6 x7 x8 (some (.ref o)) y10 y11 ∧ A <+: B' ∧ B'[o]? = some (.lst (O.map .int)) ∧ B'[f]? = some (.lst (pvs qs)) ∧ PG N qs ∧ qs.length ≤ 36 + i) ?_
  unfold w51
  walk_at "go"
  refine ⟨0, N, rfl, ⟨_, _, _, rfl, pre, hl, hf, G, by omega⟩, ?_, ?_⟩
  · rintro i σ B1 hi ⟨qs, y10, y11, rfl, p1, hl1, hf1, G1, hn1⟩
    have hiO : i < O.length := by omega
    obtain ⟨k, hk, hki, hat⟩ : ∃ k : Nat, ∃ hk : k < O.length, k ≠ i ∧ atI (O.map PV.int) ((0 : Int) + i - 1) = some (.int O[k]) := by
      cases i with
      | zero =>
        refine ⟨N - 1, by omega, by omega, ?_⟩
        unfold atI ixN
        rw [if_neg (by omega), if_pos (by rw [List.length_map]; omega)]
        have : (((0 : Int) + (0 : Nat) - 1) + ((O.map PV.int).length : Nat)).toNat = N - 1 := by rw [List.length_map]; omega
        simp only [Option.bind_some]
        rw [this, List.getElem?_map, List.getElem?_eq_getElem (by omega)]; rfl
      | succ i =>
        refine ⟨i, by omega, by omega, ?_⟩
        rw [show (0 : Int) + ((i + 1 : Nat) : Int) - 1 = (i : Nat) by omega]
        exact atm (by omega)
    have hati : atI (O.map PV.int) ((0 : Int) + i) = some (.int O[i]) := by
      rw [show (0 : Int) + i = (i : Nat) by omega]; exact atm hiO
    walk_at "go"
    unfold f_law_web_b4
    walk_at "go"
    have hlim : (pvs qs).length < LIM := by rw [pvs_len]; exact lim_lt (by omega)
    refine ⟨fun h1 => ?_, fun h1 => ?_⟩
    · walk_at "go"
      refine ⟨qs ++ [(O[k], O[i])], _, _, rfl, pre_set p1 hfA, ?_, ?_, G1.put ?_ ?_, ?_⟩
      · rw [get_set_ne fo]; exact hl1
      · rw [get_set hf1, ← pvs_app]; rfl
      · refine ⟨hin _ (List.getElem_mem _), hin _ (List.getElem_mem _), fun z => hki ?_⟩
        exact (List.getElem_inj nd).mp z
      · simpa using h1
      · rw [List.length_append]; simp; omega
    · walk_at "go"
      exact ⟨qs, _, _, rfl, p1, hl1, hf1, G1, by omega⟩
  · rintro σ B1 ⟨qs, y10, y11, rfl, p1, hl1, hf1, G1, hn1⟩
    exact ⟨qs, _, _, rfl, p1, hf1, G1, by omega⟩
theorem web51 (a b c : Int) : Wp (f_law_web [.int a, .int b, .int c]) A (fun v A' => A <+: A' ∧ ∃ (N : Nat) (ps : List (Int × Int)) (r : Nat), v = .tup [.int N, .ref r] ∧ A'[r]? = some (.lst (pvs ps)) ∧ Passings N ps) NoX := by
  obtain ⟨N, hN⟩ : ∃ N : Nat, (2 + a % 5 : Int) = N := ⟨(2 + a % 5).toNat, by omega⟩
  have h2 : 2 ≤ N := by omega
  have h6 : N ≤ 6 := by omega
  unfold f_law_web
  walk_at "fn"
  have st0 : Wp (sAsg (eBin oAdd (eK (.int 2)) (eBin oMod (eVar 0) (eK (.int 5)))) (gName 3) [some (.int a), some (.int b), some (.int c), none, none, none, none, none, none, none, none, none]) A (fun o A1 => o = .nx [some (.int a), some (.int b), some (.int c), some (.int N), none, none, none, none, none, none, none, none] ∧ A = A1) NoX := by
    walk_at "go"
    exact ⟨by rw [hN], rfl⟩
  have st01 : Wp (sAsg (eVar 1) (gName 4) [some (.int a), some (.int b), some (.int c), some (.int N), none, none, none, none, none, none, none, none]) A (fun o A1 => o = .nx [some (.int a), some (.int b), some (.int c), some (.int N), some (.int b), none, none, none, none, none, none, none] ∧ A = A1) NoX := by
    walk_at "go"
    exact ⟨rfl, rfl⟩
  have st1 : ∀ bits : Int, Wp (sIf (tVal (eBin oGt (eBin oMod (eBin oFdiv (eVar 0) (eK (.int 15))) (eK (.int 3))) (eK (.int 0))))
 (sSeq (sAsg (eBin oMod (eBin oMul (eBin oAdd (eVar 1) (eK (.int 1))) (eK (.int 6364136223846793005))) (eK (.int 2305843009213693951))) (gName 4))
 (sAsg (eBin oMod (eBin oMul (eVar 4) (eBin oAdd (eBin oFdiv (eVar 4) (eK (.int 1009))) (eK (.int 69621)))) (eK (.int 2305843009213693951))) (gName 4)))
 sPass [some (.int a), some (.int b), some (.int c), some (.int N), some (.int bits), none, none, none, none, none, none, none]) A (fun o A1 => ∃ z : Int, o = .nx [some (.int a), some (.int b), some (.int c), some (.int N), some (.int z), none, none, none, none, none, none, none] ∧ A = A1) NoX := by
    intro bits
    walk_at "go"
    refine ⟨fun h1 => ?_, fun h1 => ?_⟩
    · walk_at "go"
      ((with_reducible apply w_mul); (· right; omega))
      walk_at "go"
      ((with_reducible apply w_mul); (· left; omega))
      walk_at "go"
    · walk_at "go"
  have st2 : ∀ bits : Int, Wp (sIf (tVal (eBin oEq (eBin oMod (eBin oFdiv (eVar 0) (eK (.int 15))) (eK (.int 3))) (eK (.int 1))))
 (sAsg (eBin oAnd (eVar 4) (eBin oShr (eVar 4) (eK (.int 7)))) (gName 4))
 sPass [some (.int a), some (.int b), some (.int c), some (.int N), some (.int bits), none, none, none, none, none, none, none]) A (fun o A1 => ∃ z : Int, o = .nx [some (.int a), some (.int b), some (.int c), some (.int N), some (.int z), none, none, none, none, none, none, none] ∧ A = A1) NoX := by
    intro bits
    walk_at "go"
    refine ⟨fun h1 => ?_, fun h1 => ?_⟩
    · walk_at "go"
      ((with_reducible apply w_shr); (· omega))
      walk_at "go"
      refine w_andB ?_
      walk_at "go"
    · walk_at "go"
  refine w_seq (w_mono st0 fun o A1 ⟨ho, hA⟩ => ?_)
  subst ho; subst hA
  dsimp only
  refine w_seq (w_mono st01 fun o A1 ⟨ho, hA⟩ => ?_)
  subst ho; subst hA
  dsimp only
  refine w_seq (w_mono (st1 _) fun o A1 ⟨z, ho, hA⟩ => ?_)
  subst ho; subst hA
  dsimp only
  refine w_seq (w_mono (st2 _) fun o A1 ⟨bits, ho, hA⟩ => ?_)
  subst ho; subst hA
  dsimp only
  walk_at "go"
  refine w_mono (web_l1 (A := A) (a := a) (b := b) (c := c) (bits := bits) (f := A.length) h6 (B := A ++ [.lst []]) (pre_app (List.prefix_refl _)) (Nat.le_refl _) get_app) fun o B1 ⟨qs, y6, y7, ho, p1, hl1, G1, hn1⟩ => ?_
  subst ho
  unfold w51
  walk_at "go"
  refine ⟨fun h1 => ?_, fun h1 => ?_⟩
  · walk_at "go"
    refine w_listRng ?_
    walk_at "go"
    have nf : A.length ≠ B1.length := by have := pre_lt hl1; omega
    have hlB : A.length ≤ B1.length := pre_len p1
    refine w_mono (web_l3 (A := A) (a := a) (b := b) (c := c) (bits := bits) (st := c) (f := A.length) (o := B1.length) h6 (pre_app p1) hlB get_app nf (get_app_of hl1) y6 y7) fun o B2 ⟨O, z, y, ho, p2, hl2, hf2, hp⟩ => ?_
    subst ho
    refine w_mono (web_l4 (A := A) (a := a) (b := b) (c := c) (bits := bits) h2 h6 p2 (Nat.le_refl _) (Ne.symm nf) hp hl2 hf2 G1 hn1 y6 y7 _ _) fun o B3 ⟨rs, y10, y11, ho, p3, hf3, G3, hn3⟩ => ?_
    subst ho
    unfold w51
    walk_at "go"
    first | exact ⟨p3, N, rs, A.length, rfl, hf3, ⟨by omega, by omega, G3.good, G3.nd, by omega⟩⟩ | exact ⟨N, rs, A.length, rfl, hf3, ⟨by omega, by omega, G3.good, G3.nd, by omega⟩⟩
  · walk_at "go"
    first | exact ⟨p1, N, qs, A.length, rfl, hl1, ⟨by omega, by omega, G1.good, G1.nd, by omega⟩⟩ | exact ⟨N, qs, A.length, rfl, hl1, ⟨by omega, by omega, G1.good, G1.nd, by omega⟩⟩
end
end Ws
namespace Ws
theorem mx_zero {xs : List Int} (h : ∀ x ∈ xs, 0 ≤ x) : maxI 0 xs = mx xs := by
  have h1 := maxI_spec 0 xs
  have h0 := mx_nn h
  apply Int.le_antisymm
  · rcases List.mem_cons.mp h1.1 with e | e
    · rw [e]; exact h0
    · exact mx_ge e
  · cases xs with
    | nil => exact h1.2 0 List.mem_cons_self
    | cons a r => exact h1.2 _ (List.mem_cons_of_mem _ (mx_mem (by simp)))
theorem givers_perm (ps : List (Int × Int)) (h : Int) : (givers ps h).Perm (givers (srt ps) h) := ((srt_perm ps).symm.filter _).map _
theorem pairs_ones (L : List Int) : prsOf (L.map fun h => PV.tup [.int h, .int 1]) = some (L.map fun h => (h, PV.int 1)) := by
  induction L with
  | nil => rfl
  | cons a r ih => simp [prsOf, ih]
theorem fold_ones : ∀ (L : List Int) (tm : List (Int × Int)), L.Nodup → (∀ h ∈ L, h ∉ keys tm) → (L.map fun h => (h, PV.int 1)).foldl (fun acc p => putI acc p.1 p.2) (tv tm) = tv (tm ++ L.map fun h => (h, (1 : Int)))
  | [], tm, _, _ => by simp
  | a :: L, tm, nd, hn => by
    rw [List.map_cons, List.foldl_cons]
    dsimp only
    rw [putI_tv (hn a List.mem_cons_self)]
    rw [List.nodup_cons] at nd
    rw [fold_ones L _ nd.2 (fun h hh => ?_)]
    · simp
    · rw [keys_app]
      intro z
      rcases List.mem_append.mp z with z | z
      · exact hn h (List.mem_cons_of_mem _ hh) z
      · simp [keys] at z
        subst z
        exact nd.1 hh
theorem KT.start {N : Nat} {ps : List (Int × Int)} {L : List Int} (nd : L.Nodup) (hL : ∀ h ∈ L, 0 ≤ h ∧ h < (N : Int)) : KT N ps L (L.map fun h => (h, (1 : Int))) := by
  have hk1 : keys (L.map fun h => (h, (1 : Int))) = L := by simp [keys, Function.comp_def]
  have t1 : ∀ h ∈ L, tval (L.map fun h => (h, (1 : Int))) h = some 1 := by
    intro h hh
    have : ∀ M : List Int, h ∈ M → tval (M.map fun h => (h, (1 : Int))) h = some 1 := by
      intro M
      induction M with
      | nil => intro z; simp at z
      | cons a M ih =>
        intro z
        show tval ((a, 1) :: M.map fun h => (h, (1 : Int))) h = _
        unfold tval
        by_cases e : a = h
        · simp [e]
        · rw [if_neg (by simpa using e)]
          exact ih (by rcases List.mem_cons.mp z with z | z; exact absurd z.symm e; exact z)
    exact this L hh
  refine ⟨by rw [hk1]; exact nd, fun h hh => hL h (by rw [hk1] at hh; exact hh), fun h hh => by rw [hk1]; exact hh, t1, fun h hh hn => absurd (by rw [hk1] at hh; exact hh) hn, fun h hh hn => absurd (by rw [hk1] at hh; exact hh) hn, fun h t e => ?_⟩
  have := tval_key e
  rw [hk1] at this
  rw [t1 h this] at e
  cases e
  decide
section
variable {A : PHp} {N r l d : Nat} {ps : List (Int × Int)} {L : List Int}
noncomputable abbrev t51 (N r l d : Nat) (g : Bool) (x5 x6 : Option PV) : PSt := [some (.int N), some (.ref r), some (.ref l), some (.ref d), some (.bl g), x5, x6]
theorem turns_c2 {B : PHp} (hr : B[r]? = some (.lst (pvs ps))) (hlen : ps.length < 64) {h : Int} (g : Bool) (x6 : Option PV) :
    Wp (f_law_turns_c2 (t51 N r l d g (some (.int h)) x6)) B (fun v B' => v = .ref B.length ∧ B' = B ++ [.lst ((givers ps h).map .int)]) NoX := by
  unfold f_law_turns_c2 t51
  refine w_compP (l := pvs ps) (fun σ => ∃ x y, σ = [x, y, some (.int h)]) (fun v => decide (snd1 v = h)) (fun v => .int (fst1 v)) ?_
  walk_at "go"
  refine ⟨_, fuel_lst hr, Nat.le_refl _, lim_le (by simp [pvs]; omega), ⟨_, _, rfl⟩, fun i => item_lst hr i, ?_, ?_⟩
  · rintro v σ hv ⟨x, y, rfl⟩
    obtain ⟨p, hp, rfl⟩ := mem_pvs hv
    unfold pv
    walk_at "go"
    refine ⟨rfl, ⟨_, _, rfl⟩, ?_⟩
    walk_at "go"
    exact ⟨rfl, rfl, fun _ => w_var rfl ⟨rfl, rfl⟩⟩
  · exact ⟨rfl, by rw [filt_g]⟩
theorem turns_c3 {B : PHp} {q : Nat} {gs : List Int} {tm : List (Int × Int)} (hd : B[d]? = some (.dI (tv tm))) (hq : B[q]? = some (.lst (gs.map .int))) (hl : gs.length ≤ 1000) (g : Bool) (x5 : Option PV) :
    Wp (f_law_turns_c3 (t51 N r l d g x5 (some (.ref q)))) B (fun v B' => v = .ref B.length ∧ B' = B ++ [.lst ((gs.filter fun x => !decide (x ∈ keys tm)).map .int)]) NoX := by
  unfold f_law_turns_c3 t51
  refine w_compP (l := gs.map .int) (fun σ => ∃ x, σ = [x, some (.ref d)]) (fun v => !decide (iv v ∈ keys tm)) (fun v => v) ?_
  walk_at "go"
  refine ⟨_, fuel_lst hq, Nat.le_refl _, lim_le (by simp; omega), ⟨_, rfl⟩, fun i => item_lst hq i, ?_, ?_⟩
  · rintro v σ hv ⟨x, rfl⟩
    obtain ⟨p, hp, rfl⟩ := List.mem_map.mp hv
    walk_at "go"
    refine ⟨rfl, ⟨_, rfl⟩, ?_⟩
    have := dnotin_ok (y := eVar 0) (d := eVar 1) (σ := [some (.int p), some (.ref d)]) (A := B) (k := p) rfl rfl hd
    rw [valI_tv, Option.isSome_map, tval_some] at this
    refine w_eq (tval_ok this) ⟨rfl, rfl, fun _ => w_var rfl ⟨rfl, rfl⟩⟩
  · refine ⟨rfl, ?_⟩
    rw [List.map_id', filter_int]; rfl
theorem turns_c4 {B : PHp} {q : Nat} {gs : List Int} {tm : List (Int × Int)} (hd : B[d]? = some (.dI (tv tm))) (hq : B[q]? = some (.lst (gs.map .int))) (hl : gs.length ≤ 1000) (hk : ∀ a ∈ gs, a ∈ keys tm) (g : Bool) (x5 : Option PV) :
    Wp (f_law_turns_c4 (t51 N r l d g x5 (some (.ref q)))) B (fun v B' => v = .ref B.length ∧ B' = B ++ [.lst ((gs.map fun x => (tval tm x).getD 0).map .int)]) NoX := by
  unfold f_law_turns_c4 t51
  refine w_compP (l := gs.map .int) (fun σ => ∃ x, σ = [x, some (.ref d)]) (fun v => true) (fun v => .int ((tval tm (iv v)).getD 0)) ?_
  walk_at "go"
  refine ⟨_, fuel_lst hq, Nat.le_refl _, lim_le (by simp; omega), ⟨_, rfl⟩, fun i => item_lst hq i, ?_, ?_⟩
  · rintro v σ hv ⟨x, rfl⟩
    obtain ⟨p, hp, rfl⟩ := List.mem_map.mp hv
    walk_at "go"
    refine ⟨rfl, ⟨_, rfl⟩, ?_⟩
    walk_at "go"
    refine ⟨rfl, rfl, fun _ => ?_⟩
    obtain ⟨t, ht⟩ := tval_mem (hk p hp)
    refine w_eq (dget_ok (d := eVar 1) (y := eVar 0) (σ := [some (.int p), some (.ref d)]) (A := B) (k := p) (v := .int t) rfl rfl hd (by rw [valI_tv, ht]; rfl)) ⟨rfl, ?_⟩
    show PV.int t = .int ((tval tm p).getD 0)
    rw [ht]; rfl
  · refine ⟨rfl, ?_⟩
    rw [List.filter_eq_self.mpr (fun _ _ => rfl), List.map_map, List.map_map]; rfl
theorem turns_b2 {B : PHp} {tm : List (Int × Int)} (P : Passings N ps) (pre : A <+: B) (hr : B[r]? = some (.lst (pvs ps))) (hdA : A.length ≤ d) (rd : r ≠ d) (hd : B[d]? = some (.dI (tv tm))) (K : KT N ps L tm) {h : Int} (hh : 0 ≤ h ∧ h < N) (g : Bool) (x6 : Option PV) :
    Wp (f_law_turns_b2 (t51 N r l d g (some (.int h)) x6)) B (fun o B' => A <+: B' ∧ B'[r]? = some (.lst (pvs ps)) ∧ ∃ y6, (o = .nx (t51 N r l d g (some (.int h)) y6) ∧ B'[d]? = some (.dI (tv tm)) ∧ (h ∉ keys tm → ∃ x, (x, h) ∈ ps ∧ x ∉ keys tm)) ∨
      (o = .nx (t51 N r l d true (some (.int h)) y6) ∧ ∃ sm, B'[d]? = some (.dI (tv sm)) ∧ KT N ps L sm ∧ sm.length = tm.length + 1)) NoX := by
  have hgl : (givers ps h).length ≤ 1000 := by have := givers_len ps h; have := P.len; omega
  unfold f_law_turns_b2
  refine w_seq (w_asg (w_mono (turns_c2 hr P.len g x6) fun v B1 ⟨hv, hB⟩ => ?_))
  subst hv; subst hB
  refine w_gname ?_
  dsimp only [List.set]
  have hr1 := get_app_of (o := PO.lst ((givers ps h).map .int)) hr
  have hd1 := get_app_of (o := PO.lst ((givers ps h).map .int)) hd
  have hq1 : (B ++ [PO.lst ((givers ps h).map .int)])[B.length]? = some (.lst ((givers ps h).map .int)) := get_app
  have p1 : A <+: B ++ [PO.lst ((givers ps h).map .int)] := pre_app pre
  generalize B ++ [PO.lst ((givers ps h).map .int)] = B1 at *
  generalize B.length = q at *
  have dn := dnotin_ok (y := eVar 5) (d := eVar 3) (σ := t51 N r l d g (some (.int h)) (some (.ref q))) (A := B1) (k := h) rfl rfl hd1
  rw [valI_tv, Option.isSome_map, tval_some] at dn
  refine w_if (w_tand (w_eq (tval_ok dn) ⟨fun hn => ?_, fun hn => ?_⟩))
  · have hn : h ∉ keys tm := by simpa using hn
    refine w_tval (w_bin (w_mono (turns_c3 hd1 hq1 hgl g _) fun v B2 ⟨hv, hB⟩ => ?_))
    subst hv; subst hB
    walk_at "go"
    refine ⟨fun hz => ?_, fun hz => ?_⟩
    · have hz : ((givers ps h).filter fun x => !decide (x ∈ keys tm)) = [] := of_decide_eq_true hz
      have hall : ∀ x, (x, h) ∈ ps → x ∈ keys tm := by
        intro x hx
        have := List.filter_eq_nil_iff.mp hz x (mem_givers0.mpr hx)
        simpa using this
      have hd2 := get_app_of (o := PO.lst []) (get_app_of (o := PO.lst (((givers ps h).filter fun x => !decide (x ∈ keys tm)).map .int)) hd1)
      have hr2 := get_app_of (o := PO.lst []) (get_app_of (o := PO.lst (((givers ps h).filter fun x => !decide (x ∈ keys tm)).map .int)) hr1)
      have hq2 := get_app_of (o := PO.lst []) (get_app_of (o := PO.lst (((givers ps h).filter fun x => !decide (x ∈ keys tm)).map .int)) hq1)
      have p2 := pre_app (o := PO.lst []) (pre_app (o := PO.lst (((givers ps h).filter fun x => !decide (x ∈ keys tm)).map .int)) p1)
      generalize B1 ++ [PO.lst (((givers ps h).filter fun x => !decide (x ∈ keys tm)).map .int)] ++ [PO.lst []] = B2 at *
      refine w_seq (w_dput (w_bin (w_k (w_max (w_bin ?_)))))
      walk_at "go"
      refine w_mono (turns_c4 (get_app_of hd2) (get_app_of hq2) hgl (fun x hx => hall x (mem_givers0.mp hx)) g _) fun v B3 ⟨hv, hB⟩ => ?_
      subst hv; subst hB
      refine w_addL (l := [PV.int 0]) (m := ((givers ps h).map fun x => (tval tm x).getD 0).map .int) (get_app_of get_app) get_app (lim_le (by simp; omega)) ?_
      have hd3 := get_app_of (o := PO.lst ([PV.int 0] ++ ((givers ps h).map fun x => (tval tm x).getD 0).map .int)) (get_app_of (o := PO.lst (((givers ps h).map fun x => (tval tm x).getD 0).map .int)) (get_app_of (o := PO.lst [PV.int 0]) hd2))
      have hr3 := get_app_of (o := PO.lst ([PV.int 0] ++ ((givers ps h).map fun x => (tval tm x).getD 0).map .int)) (get_app_of (o := PO.lst (((givers ps h).map fun x => (tval tm x).getD 0).map .int)) (get_app_of (o := PO.lst [PV.int 0]) hr2))
      have p3 := pre_app (o := PO.lst ([PV.int 0] ++ ((givers ps h).map fun x => (tval tm x).getD 0).map .int)) (pre_app (o := PO.lst (((givers ps h).map fun x => (tval tm x).getD 0).map .int)) (pre_app (o := PO.lst [PV.int 0]) p2))
      refine ⟨_, 0, (givers ps h).map fun x => (tval tm x).getD 0, rfl, get_app, ?_⟩
      generalize B2 ++ [PO.lst [PV.int 0]] ++ [PO.lst (((givers ps h).map fun x => (tval tm x).getD 0).map .int)] ++ [PO.lst ([PV.int 0] ++ ((givers ps h).map fun x => (tval tm x).getD 0).map .int)] = B3 at *
      have et : (1 : Int) + maxI 0 ((givers ps h).map fun x => (tval tm x).getD 0) = turnBy ps tm h := by
        unfold turnBy
        rw [mx_zero, mx_perm ((givers_perm ps h).map _)]
        intro x hx
        obtain ⟨y, hy, rfl⟩ := List.mem_map.mp hx
        cases e : tval tm y with
        | none => simp
        | some t => have := K.pos y t e; simp; omega
      walk_at "go"
      refine ⟨d, h, tv tm, rfl, rfl, hd3, lim_lt (by have := K.len; have := P.hi; simp [tv]; omega), ?_⟩
      rw [et, putI_tv hn]
      walk_at "go"
      have h3 : (B3.set d (.dI (tv (tm ++ [(h, turnBy ps tm h)]))))[r]? = some (.lst (pvs ps)) := by rw [get_set_ne rd]; exact hr3
      refine ⟨pre_set p3 hdA, h3, _, .inr ⟨rfl, _, get_set hd3, K.put hh hn hall, by simp⟩⟩
    · have hz : ¬ ((givers ps h).filter fun x => !decide (x ∈ keys tm)) = [] := of_decide_eq_false hz
      walk_at "go"
      refine ⟨pre_app (pre_app p1), get_app_of (get_app_of hr1), _, .inl ⟨rfl, get_app_of (get_app_of hd1), fun _ => ?_⟩⟩
      obtain ⟨x, hx⟩ := List.exists_mem_of_ne_nil _ hz
      obtain ⟨h1, h2⟩ := List.mem_filter.mp hx
      exact ⟨x, mem_givers0.mp h1, by simpa using h2⟩
  · have hn : h ∈ keys tm := by simpa using hn
    walk_at "go"
    first | exact ⟨p1, hr1, _, .inl ⟨rfl, hd1, fun z => absurd hn z⟩⟩ | exact ⟨_, .inl ⟨rfl, hd1, fun z => absurd hn z⟩⟩
theorem turns_l2 {B : PHp} {tm : List (Int × Int)} (P : Passings N ps) (pre : A <+: B) (hr : B[r]? = some (.lst (pvs ps))) (hdA : A.length ≤ d) (rd : r ≠ d) (hd : B[d]? = some (.dI (tv tm))) (K : KT N ps L tm) (x5 x6 : Option PV) :
    Wp (f_law_turns_l2 (t51 N r l d false x5 x6)) B (fun o B' => A <+: B' ∧ B'[r]? = some (.lst (pvs ps)) ∧ ∃ y5 y6, (o = .nx (t51 N r l d false y5 y6) ∧ B'[d]? = some (.dI (tv tm)) ∧ Closed N ps tm) ∨
      (o = .nx (t51 N r l d true y5 y6) ∧ ∃ sm, B'[d]? = some (.dI (tv sm)) ∧ KT N ps L sm ∧ tm.length < sm.length)) NoX := by
  have hN : N ≤ 6 := by have := P.hi; omega
  unfold f_law_turns_l2
  refine w_forR (fun i σ B' => A <+: B' ∧ B'[r]? = some (.lst (pvs ps)) ∧ ∃ y5 y6, (σ = t51 N r l d false y5 y6 ∧ B'[d]? = some (.dI (tv tm)) ∧ ∀ h : Int, 0 ≤ h → h < i → h ∉ keys tm → ∃ x, (x, h) ∈ ps ∧ x ∉ keys tm) ∨
      (σ = t51 N r l d true y5 y6 ∧ ∃ sm, B'[d]? = some (.dI (tv sm)) ∧ KT N ps L sm ∧ tm.length < sm.length)) ?_
  unfold t51
  walk_at "go"
  refine ⟨0, N, rfl, ⟨pre, hr, _, _, .inl ⟨rfl, hd, fun h h0 h1 => by omega⟩⟩, ?_, ?_⟩
  · rintro i σ B1 hi ⟨p1, hr1, y5, y6, h1⟩
    rw [show (0 : Int) + i = i by omega]
    rcases h1 with ⟨rfl, hd1, hc⟩ | ⟨rfl, sm, hd1, K1, hlt⟩
    · walk_at "go"
      refine w_mono (turns_b2 (l := l) (h := (i : Int)) P p1 hr1 hdA rd hd1 K (by omega) false y6) fun o B2 ⟨p2, hr2, z6, h2⟩ => ?_
      rcases h2 with ⟨rfl, hd2, hc2⟩ | ⟨rfl, sm, hd2, K2, hl2⟩
      · refine ⟨p2, hr2, _, _, .inl ⟨rfl, hd2, fun h h0 h1 hk => ?_⟩⟩
        by_cases e : h = i
        · subst e; exact hc2 hk
        · exact hc h h0 (by omega) hk
      · exact ⟨p2, hr2, _, _, .inr ⟨rfl, sm, hd2, K2, by omega⟩⟩
    · walk_at "go"
      refine w_mono (turns_b2 (l := l) (h := (i : Int)) P p1 hr1 hdA rd hd1 K1 (by omega) true y6) fun o B2 ⟨p2, hr2, z6, h2⟩ => ?_
      rcases h2 with ⟨rfl, hd2, hc2⟩ | ⟨rfl, sm2, hd2, K2, hl2⟩
      · exact ⟨p2, hr2, _, _, .inr ⟨rfl, sm, hd2, K1, hlt⟩⟩
      · exact ⟨p2, hr2, _, _, .inr ⟨rfl, sm2, hd2, K2, by omega⟩⟩
  · rintro σ B1 ⟨p1, hr1, y5, y6, h1⟩
    refine ⟨p1, hr1, y5, y6, ?_⟩
    rcases h1 with ⟨rfl, hd1, hc⟩ | ⟨rfl, sm, hd1, K1, hlt⟩
    · exact .inl ⟨rfl, hd1, fun h h0 h1 hk => hc h h0 h1 hk⟩
    · exact .inr ⟨rfl, sm, hd1, K1, hlt⟩
theorem turns_ok (P : Passings N ps) (hr : A[r]? = some (.lst (pvs ps))) (hl : A[l]? = some (.lst (L.map .int))) (nd : L.Nodup) (hL : ∀ h ∈ L, 0 ≤ h ∧ h < (N : Int)) :
    Wp (f_law_turns [.int N, .ref r, .ref l]) A (fun v A' => A <+: A' ∧ ∃ d tm, v = .ref d ∧ A'[d]? = some (.dI (tv tm)) ∧ KT N ps L tm ∧ Closed N ps tm) NoX := by
  have hN : N ≤ 6 := by have := P.hi; omega
  have hLl : L.length ≤ 6 := by
    have := nd.length_le_of_subset (l₂ := hands N) fun y hy => mem_hands.mpr (hL y hy)
    rw [hands_len] at this; omega
  unfold f_law_turns
  walk_at "fn"
  have c1 : Wp (f_law_turns_c1 [some (.int N), some (.ref r), some (.ref l), none, none, none, none]) A (fun v B' => v = .ref A.length ∧ B' = A ++ [.lst (L.map fun h => PV.tup [.int h, .int 1])]) NoX := by
    unfold f_law_turns_c1
    refine w_compP (l := L.map .int) (fun σ => ∃ x, σ = [x]) (fun v => true) (fun v => .tup [v, .int 1]) ?_
    walk_at "go"
    refine ⟨_, fuel_lst hl, Nat.le_refl _, lim_le (by simp; omega), ⟨_, rfl⟩, fun i => item_lst hl i, ?_, ?_⟩
    · rintro v σ hv ⟨x, rfl⟩
      walk_at "go"
      refine ⟨rfl, ⟨_, rfl⟩, ?_⟩
      walk_at "go"
      refine ⟨rfl, rfl, fun _ => ?_⟩
      walk_at "go"
      exact ⟨rfl, rfl⟩
    · refine ⟨rfl, ?_⟩
      rw [List.filter_eq_self.mpr (fun _ _ => rfl), List.map_map]; rfl
  refine w_seq (w_asg (w_dictOf (w_mono c1 fun v B ⟨hv, hB⟩ => ?_)))
  subst hv; subst hB
  refine ⟨_, _, _, rfl, get_app, pairs_ones L, lim_lt (by simp; omega), w_gname ?_⟩
  dsimp only [List.set]
  have ef := fold_ones L [] nd (fun h _ => by simp [keys])
  rw [show tv [] = ([] : List (Int × PV)) from rfl, List.nil_append] at ef
  rw [ef]
  have p0 : A <+: A ++ [PO.lst (L.map fun h => PV.tup [.int h, .int 1])] := pre_app (List.prefix_refl _)
  have hrl := pre_lt hr
  have p1 := pre_app (o := PO.dI (tv (L.map fun h => (h, (1 : Int))))) p0
  have hd1 : ((A ++ [PO.lst (L.map fun h => PV.tup [.int h, .int 1])]) ++ [PO.dI (tv (L.map fun h => (h, (1 : Int))))])[(A ++ [PO.lst (L.map fun h => PV.tup [.int h, .int 1])]).length]? = some (.dI (tv (L.map fun h => (h, (1 : Int))))) := get_app
  have hlen := pre_len p0
  generalize (A ++ [PO.lst (L.map fun h => PV.tup [.int h, .int 1])]).length = d at *
  generalize (A ++ [PO.lst (L.map fun h => PV.tup [.int h, .int 1])]) ++ [PO.dI (tv (L.map fun h => (h, (1 : Int))))] = B at *
  have rd : r ≠ d := by omega
  walk_at "go"
  have LL : Wp (f_law_turns_l1 (t51 N r l d true none none)) B (fun o B' => A <+: B' ∧ ∃ tm y5 y6, o = .nx (t51 N r l d false y5 y6) ∧ B'[d]? = some (.dI (tv tm)) ∧ KT N ps L tm ∧ Closed N ps tm) NoX := by
    unfold f_law_turns_l1
    refine w_while (fun m σ B' => A <+: B' ∧ B'[r]? = some (.lst (pvs ps)) ∧ ∃ tm g y5 y6, σ = t51 N r l d g y5 y6 ∧ B'[d]? = some (.dI (tv tm)) ∧ KT N ps L tm ∧ (g = false → Closed N ps tm) ∧ m = (N - tm.length) + (if g = true then 1 else 0)) (m := (N - (L.map fun h => (h, (1 : Int))).length) + 1) (by omega) ⟨p1, pre_get p1 hr, _, true, _, _, rfl, hd1, KT.start nd hL, fun z => (nomatch z), rfl⟩ ?_
    rintro m σ B1 ⟨p2, hr2, tm, g, y5, y6, rfl, hd2, K2, hc, hm⟩
    unfold t51
    walk_at "go"
    refine ⟨fun hg => ?_, fun hg => ?_⟩
    · subst hg
      unfold f_law_turns_b1
      walk_at "go"
      have hkl := K2.len
      refine w_mono (turns_l2 (l := l) P p2 hr2 (by omega) rd hd2 K2 y5 y6) fun o B2 ⟨p3, hr3, z5, z6, h3⟩ => ?_
      rcases h3 with ⟨rfl, hd3, hc3⟩ | ⟨rfl, sm, hd3, K3, hl3⟩
      · exact ⟨N - tm.length, by rw [hm]; simp, p3, hr3, tm, false, _, _, rfl, hd3, K2, fun _ => hc3, by simp⟩
      · have := K3.len
        exact ⟨N - sm.length + 1, by rw [hm]; simp; omega, p3, hr3, sm, true, _, _, rfl, hd3, K3, fun z => (nomatch z), by simp⟩
    · subst hg
      exact ⟨p2, tm, _, _, rfl, hd2, K2, hc rfl⟩
  refine w_mono LL fun o B2 ⟨p2, tm, y5, y6, ho, hd2, K2, C2⟩ => ?_
  subst ho
  unfold t51
  walk_at "go"
  first | exact ⟨p2, d, tm, rfl, hd2, K2, C2⟩ | exact ⟨d, tm, rfl, hd2, K2, C2⟩
end
end Ws
namespace Ws
theorem lex_irr (l : List Int) : lexLt l l = false := by
  cases h : lexLt l l with
  | false => rfl
  | true => have := lex_asym l l h; rw [h] at this; cases this
theorem lex_same (a x y : List Int) : lexLt (a ++ x) (a ++ y) = lexLt x y := by
  induction a with
  | nil => rfl
  | cons b r ih => show (if b = b then lexLt (r ++ x) (r ++ y) else _) = _; rw [if_pos rfl, ih]
theorem lex_app : ∀ {a b : List Int} (x y : List Int), a.length = b.length → lexLt a b = true → lexLt (a ++ x) (b ++ y) = true
  | [], [], x, y, _, h => by cases h
  | [], _ :: _, x, y, h, _ => by simp at h
  | _ :: _, [], x, y, h, _ => by simp at h
  | a :: r, b :: s, x, y, h, hl => by
    have hl' : (if a = b then lexLt r s else decide (a < b)) = true := hl
    show (if a = b then lexLt (r ++ x) (s ++ y) else decide (a < b)) = true
    by_cases e : a = b
    · rw [if_pos e] at hl' ⊢
      exact lex_app x y (by simpa using h) hl'
    · rw [if_neg e] at hl' ⊢; exact hl'
noncomputable def llt (a b : List Int) : Prop := a.length < b.length ∨ (a.length = b.length ∧ lexLt a b = true)
noncomputable def Rs (N : Nat) (c : List Int) : Prop := c ≠ [] ∧ c.Pairwise (· < ·) ∧ ∀ h ∈ c, 0 ≤ h ∧ h < (N : Int)
noncomputable def nxt (c : List Int) : Nat := (c.getLastD (-1) + 1).toNat
noncomputable def kids (N : Nat) (c : List Int) : List (List Int) := (List.range (N - nxt c)).map fun (i : Nat) => c ++ [((nxt c + i : Nat) : Int)]
noncomputable def wgt (N : Nat) (c : List Int) : Nat := 2 ^ (N - nxt c)
noncomputable def wgts (N : Nat) (C : List (List Int)) : Nat := (C.map (wgt N)).sum
theorem nxt_app (c : List Int) (h : Nat) : nxt (c ++ [(h : Int)]) = h + 1 := by
  unfold nxt
  rw [List.getLastD_eq_getLast?, List.getLast?_append]
  simp
theorem nxt_of {N : Nat} {c : List Int} (r : Rs N c) : (nxt c : Int) = c.getLast r.1 + 1 := by
  unfold nxt
  rw [List.getLastD_eq_getLast?, List.getLast?_eq_some_getLast r.1]
  have := (r.2.2 _ (List.getLast_mem r.1)).1
  simp
  omega
theorem lt_nxt {N : Nat} {c : List Int} (r : Rs N c) : ∀ h ∈ c, h < nxt c := by
  intro h hh
  rw [nxt_of r]
  obtain ⟨i, hi, rfl⟩ := List.mem_iff_getElem.mp hh
  rw [List.getLast_eq_getElem]
  rcases Nat.lt_or_ge i (c.length - 1) with z | z
  · have := List.pairwise_iff_getElem.mp r.2.1 i (c.length - 1) hi (by omega) z
    omega
  · have : i = c.length - 1 := by omega
    subst this
    omega
theorem sum_pow (m : Nat) : ((List.range m).map fun i => 2 ^ (m - 1 - i)).sum + 1 = 2 ^ m := by
  induction m with
  | zero => rfl
  | succ m ih =>
    rw [List.range_succ_eq_map, List.map_cons, List.map_map, List.sum_cons]
    have : ((List.range m).map ((fun i => 2 ^ (m + 1 - 1 - i)) ∘ Nat.succ)) = (List.range m).map fun i => 2 ^ (m - 1 - i) := by
      refine List.map_congr_left fun i hi => ?_
      show 2 ^ (m + 1 - 1 - (i + 1)) = _
      congr 1
      omega
    rw [this, Nat.pow_succ]
    simp only [Nat.add_sub_cancel, Nat.sub_zero]
    omega
theorem wgts_app (N : Nat) (C D : List (List Int)) : wgts N (C ++ D) = wgts N C + wgts N D := by simp [wgts]
theorem wgts_kids (N : Nat) (c : List Int) : wgts N (kids N c) + 1 = wgt N c := by
  unfold wgts kids wgt
  rw [List.map_map, ← sum_pow (N - nxt c)]
  congr 2
  refine List.map_congr_left fun i hi => ?_
  show 2 ^ (N - nxt (c ++ [((nxt c + i : Nat) : Int)])) = _
  rw [nxt_app]
  congr 1
  omega
theorem wgts_len (N : Nat) (C : List (List Int)) : C.length ≤ wgts N C := by
  induction C with
  | nil => simp
  | cons c r ih =>
    have : 1 ≤ wgt N c := Nat.one_le_two_pow
    simp [wgts] at ih ⊢
    omega
theorem llt_pre {c M : List Int} (h : c <+: M) : c = M ∨ c.length < M.length := by
  obtain ⟨t, rfl⟩ := h
  cases t with
  | nil => exact .inl (by simp)
  | cons a t => exact .inr (by simp)
structure LS (N : Nat) (full : List Int → Prop) (C : List (List Int)) : Prop where
  ok : ∀ c ∈ C, Rs N c
  srt : C.Pairwise llt
  par : ∀ c ∈ C, ∀ c' ∈ C, llt c.dropLast c'
  all : ∀ M, Rs N M → ¬ full M ∨ ∃ c ∈ C, c <+: M
section
variable {N : Nat} {full : List Int → Prop} {c0 : List Int} {C : List (List Int)}
theorem mem_kids {c : List Int} : c ∈ kids N c0 ↔ ∃ h : Nat, nxt c0 ≤ h ∧ h < N ∧ c = c0 ++ [(h : Int)] := by
  unfold kids
  rw [List.mem_map]
  constructor
  · rintro ⟨i, hi, rfl⟩
    have := List.mem_range.mp hi
    exact ⟨nxt c0 + i, by omega, by omega, rfl⟩
  · rintro ⟨h, h1, h2, rfl⟩
    exact ⟨h - nxt c0, List.mem_range.mpr (by omega), by rw [show nxt c0 + (h - nxt c0) = h by omega]⟩
theorem kids_srt (N : Nat) (c0 : List Int) : (kids N c0).Pairwise llt := by
  unfold kids
  rw [List.pairwise_map]
  refine (List.pairwise_lt_range (n := N - nxt c0)).imp fun {i j} hij => .inr ⟨by simp, ?_⟩
  rw [lex_same]
  show (if ((nxt c0 + i : Nat) : Int) = ((nxt c0 + j : Nat) : Int) then lexLt [] [] else decide (((nxt c0 + i : Nat) : Int) < ((nxt c0 + j : Nat) : Int))) = true
  rw [if_neg (by omega)]
  exact decide_eq_true (by omega)
theorem LS.step (L : LS N full (c0 :: C)) (hf : ¬ full c0) : LS N full (C ++ kids N c0) := by
  have r0 := L.ok c0 List.mem_cons_self
  have s := List.pairwise_cons.mp L.srt
  refine ⟨fun c hc => ?_, ?_, fun c hc c' hc' => ?_, fun M hM => ?_⟩
  · rcases List.mem_append.mp hc with z | z
    · exact L.ok c (List.mem_cons_of_mem _ z)
    · obtain ⟨h, h1, h2, rfl⟩ := mem_kids.mp z
      refine ⟨by simp, ?_, fun x hx => ?_⟩
      · rw [List.pairwise_append]
        exact ⟨r0.2.1, by simp, fun a ha b hb => by rw [List.mem_singleton] at hb; subst hb; have := lt_nxt r0 a ha; omega⟩
      · rcases List.mem_append.mp hx with z | z
        · exact r0.2.2 x z
        · rw [List.mem_singleton] at z; subst z; omega
  · rw [List.pairwise_append]
    refine ⟨s.2, kids_srt N c0, fun c hc d hd => ?_⟩
    obtain ⟨h, h1, h2, rfl⟩ := mem_kids.mp hd
    have hp := L.par c (List.mem_cons_of_mem _ hc) c0 List.mem_cons_self
    have hc0 := (L.ok c (List.mem_cons_of_mem _ hc)).1
    have el : c.length = c.dropLast.length + 1 := by
      rw [List.length_dropLast]; have := List.length_pos_iff.mpr hc0; omega
    rcases hp with z | ⟨z1, z2⟩
    · exact .inl (by rw [List.length_append]; simp; omega)
    · refine .inr ⟨by rw [List.length_append]; simp; omega, ?_⟩
      have := lex_app [c.getLast hc0] [(h : Int)] z1 z2
      rwa [List.dropLast_concat_getLast] at this
  · have hlow : ∀ c ∈ c0 :: C, c.dropLast.length ≤ c0.length := by
      intro c hc
      rcases L.par c hc c0 List.mem_cons_self with z | z
      · omega
      · omega
    have hk : ∀ d ∈ kids N c0, d.length = c0.length + 1 ∧ d.dropLast = c0 := by
      intro d hd
      obtain ⟨h, _, _, rfl⟩ := mem_kids.mp hd
      simp
    rcases List.mem_append.mp hc with z | z <;> rcases List.mem_append.mp hc' with z' | z'
    · exact L.par c (List.mem_cons_of_mem _ z) c' (List.mem_cons_of_mem _ z')
    · exact .inl (by have := hlow c (List.mem_cons_of_mem _ z); have := (hk c' z').1; omega)
    · rw [(hk c z).2]; exact s.1 c' z'
    · rw [(hk c z).2]; exact .inl (by have := (hk c' z').1; omega)
  · rcases L.all M hM with z | ⟨c, hc, hp⟩
    · exact .inl z
    · rcases List.mem_cons.mp hc with e | e
      · subst e
        by_cases eM : c = M
        · subst eM; exact .inl hf
        · refine .inr ?_
          obtain ⟨t, rfl⟩ := hp
          cases t with
          | nil => exact absurd (by simp) eM
          | cons a t =>
            have ha := hM.2.2 a (by simp)
            have hlt : c.getLast r0.1 < a := by
              have := hM.2.1
              rw [List.pairwise_append] at this
              exact this.2.2 _ (List.getLast_mem r0.1) a List.mem_cons_self
            have hn := nxt_of r0
            refine ⟨c ++ [a], List.mem_append_right _ (mem_kids.mpr ⟨a.toNat, by omega, by omega, by rw [Int.toNat_of_nonneg ha.1]⟩), t, by simp⟩
      · exact .inr ⟨c, List.mem_append_left _ e, hp⟩
theorem LS.least (L : LS N full (c0 :: C)) {M : List Int} (hM : Rs N M) (hlt : llt M c0) : ¬ full M := by
  have s := List.pairwise_cons.mp L.srt
  rcases L.all M hM with z | ⟨c, hc, hp⟩
  · exact z
  · exfalso
    have hl : c0.length ≤ c.length := by
      rcases List.mem_cons.mp hc with e | e
      · rw [e]; exact Nat.le_refl _
      · rcases s.1 c e with z | z <;> omega
    have hcM := hp.length_le
    have hMl : M.length ≤ c0.length := by rcases hlt with z | z <;> omega
    have e1 : c = M := by
      rcases llt_pre hp with e | e
      · exact e
      · omega
    subst e1
    have hx : lexLt c c0 = true := by
      rcases hlt with z | z
      · omega
      · exact z.2
    rcases List.mem_cons.mp hc with e | e
    · subst e; rw [lex_irr] at hx; cases hx
    · rcases s.1 c e with z | ⟨_, z⟩
      · omega
      · rw [lex_asym _ _ z] at hx; cases hx
theorem LS.start (hall : full (hands N) → True) : LS N full ((hands N).map fun h => [h]) := by
  refine ⟨fun c hc => ?_, ?_, fun c hc c' hc' => ?_, fun M hM => .inr ?_⟩
  · obtain ⟨h, hh, rfl⟩ := List.mem_map.mp hc
    refine ⟨by simp, by simp, fun x hx => ?_⟩
    rw [List.mem_singleton] at hx; subst hx
    exact mem_hands.mp hh
  · rw [List.pairwise_map]
    refine (hands_lt N).imp fun {a b} hab => .inr ⟨rfl, ?_⟩
    show (if a = b then lexLt [] [] else decide (a < b)) = true
    rw [if_neg (by omega)]
    exact decide_eq_true hab
  · obtain ⟨h, hh, rfl⟩ := List.mem_map.mp hc
    obtain ⟨h', hh', rfl⟩ := List.mem_map.mp hc'
    exact .inl (by simp)
  · obtain ⟨hne, _, hin⟩ := hM
    cases M with
    | nil => exact absurd rfl hne
    | cons a t => exact ⟨[a], List.mem_map.mpr ⟨a, mem_hands.mpr (hin a List.mem_cons_self), rfl⟩, t, rfl⟩
theorem wgts_start (N : Nat) : wgts N ((hands N).map fun h => [h]) + 1 = 2 ^ N := by
  rw [← sum_pow N]
  unfold wgts hands
  rw [List.map_map, List.map_map]
  congr 2
  refine List.map_congr_left fun i hi => ?_
  have hi := List.mem_range.mp hi
  show 2 ^ (N - nxt [((i : Nat) : Int)]) = _
  have := nxt_app [] i
  rw [List.nil_append] at this
  rw [this]
  congr 1
  omega
end
end Ws
namespace Ws
noncomputable def Full (N : Nat) (ps : List (Int × Int)) (L : List Int) : Prop := ∃ tm, KT N ps L tm ∧ Closed N ps tm ∧ ¬ tm.length < N
theorem Full.of {N : Nat} {ps : List (Int × Int)} {L : List Int} {tm : List (Int × Int)} (K : KT N ps L tm) (C : Closed N ps tm) : Full N ps L ↔ ¬ tm.length < N :=
  ⟨fun ⟨sm, K', C', h⟩ => by rw [KT.same_len K C K' C']; exact h, fun h => ⟨tm, K, C, h⟩⟩
theorem full_hands (N : Nat) (ps : List (Int × Int)) : Full N ps (hands N) := by
  refine ⟨_, KT.start (hands_nd N) fun h hh => mem_hands.mp hh, fun h h0 h1 hk => absurd ?_ hk, by simp [hands_len]⟩
  have : keys ((hands N).map fun h => (h, (1 : Int))) = hands N := by simp [keys, Function.comp_def]
  rw [this]
  exact mem_hands.mpr ⟨h0, h1⟩
section
variable {A : PHp} {w r q : Nat} {N : Nat} {ps : List (Int × Int)}
structure LQ (A B : PHp) (q : Nat) (Qs : List (Nat × List Int)) : Prop where
  pre : A <+: B
  qa : A.length ≤ q
  qs : B[q]? = some (.lst (Qs.map fun x => .ref x.1))
  it : ∀ x ∈ Qs, x.1 ≠ q ∧ B[x.1]? = some (.lst (x.2.map .int))
  fr : ∀ x ∈ Qs, A.length ≤ x.1
theorem LQ.mono {B B' : PHp} {Qs : List (Nat × List Int)} (h : LQ A B q Qs) (p : B <+: B') : LQ A B' q Qs := ⟨h.pre.trans p, h.qa, pre_get p h.qs, fun x hx => ⟨(h.it x hx).1, pre_get p (h.it x hx).2⟩, h.fr⟩
theorem kids_c2 {B : PHp} (Wb : WebAt B w r N ps) (hN : N ≤ 6) {c0 : List Int} {k0 : Nat} (R : Rs N c0) (hk : B[k0]? = some (.lst (c0.map .int))) (hl : c0.length ≤ 6) (y1 : PV) :
    Wp (f_least_leaders_c2 [some (.ref w), some y1, some (.ref k0)]) B (fun v B' => B <+: B' ∧ ∃ (p : Nat) (ks : List Nat), v = .ref p ∧ B'[p]? = some (.lst (ks.map .ref)) ∧ B.length ≤ p ∧ ks.length = N - nxt c0 ∧ ∀ j (hj : j < ks.length), B.length ≤ ks[j] ∧ B'[ks[j]]? = some (.lst ((c0 ++ [((nxt c0 + j : Nat) : Int)]).map .int))) NoX := by
  have hlast : atI (c0.map PV.int) (-1) = some (.int (c0.getLast R.1)) := by
    have hpos := List.length_pos_iff.mpr R.1
    unfold atI ixN
    rw [if_neg (by omega), if_pos (by rw [List.length_map]; omega)]
    have e : ((-1 : Int) + ((c0.map PV.int).length : Nat)).toNat = c0.length - 1 := by rw [List.length_map]; omega
    simp only [Option.bind_some]
    rw [e, List.getElem?_map, List.getElem?_eq_getElem (by omega), List.getLast_eq_getElem]; rfl
  have hn := nxt_of R
  unfold f_least_leaders_c2
  refine w_comp ?_
  refine w_irng2 ?_
  walk_at "go"
  rw [← hn]
  refine ⟨w, 0, _, .int N, rfl, Wb.ob, rfl, ?_⟩
  refine ⟨nxt c0, N, rfl, rfl, ⟨?_, by omega⟩, ?_⟩
  · have := (R.2.2 _ (List.getLast_mem R.1)).2
    omega
  refine ⟨(List.range (N - nxt c0)).map (fun (i : Nat) => PV.int ((nxt c0 + i : Nat) : Int)), N - nxt c0, fun i acc σ B1 => B <+: B1 ∧ (∃ z, σ = [z, some (.ref k0)]) ∧ ∃ ks : List Nat, acc = ks.map .ref ∧ ks.length = i ∧ ∀ j (hj : j < ks.length), B.length ≤ ks[j] ∧ B1[ks[j]]? = some (.lst ((c0 ++ [((nxt c0 + j : Nat) : Int)]).map .int)), rfl, by simp, ⟨List.prefix_refl _, ⟨_, rfl⟩, [], rfl, rfl, fun j hj => absurd hj (by simp)⟩, ?_, ?_, ?_⟩
  · intro i acc σ B1 _
    show item (.rng _ _) i B1 = _
    by_cases hi : i < N - nxt c0
    · simp [hi]
    · simp [hi]
  · rintro i v acc σ B1 hv ⟨p1, ⟨z, rfl⟩, ks, rfl, hks, hall⟩
    rw [List.getElem?_map] at hv
    rcases hr : (List.range (N - nxt c0))[i]? with _ | i'
    · rw [hr] at hv; cases hv
    rw [hr] at hv
    obtain ⟨hi1, hi2⟩ := List.getElem?_eq_some_iff.mp hr
    rw [List.getElem_range] at hi2
    subst hi2
    obtain rfl : PV.int ((nxt c0 + i : Nat) : Int) = v := Option.some.inj hv
    walk_at "go"
    refine w_addL (l := c0.map .int) (m := [PV.int ((nxt c0 + i : Nat) : Int)]) (get_app_of (pre_get p1 hk)) get_app (lim_le (by simp; omega)) ?_
    refine ⟨pre_app (pre_app p1), ⟨_, rfl⟩, ks ++ [(B1 ++ [PO.lst [PV.int ((nxt c0 + i : Nat) : Int)]]).length], by simp, by simp [hks], fun j hj => ?_⟩
    rcases Nat.lt_or_ge j ks.length with e | e
    · rw [List.getElem_append_left e]
      exact ⟨(hall j e).1, get_app_of (get_app_of (hall j e).2)⟩
    · have : j = ks.length := by simp at hj; omega
      subst this
      rw [List.getElem_append_right (Nat.le_refl _)]
      simp only [Nat.sub_self, List.getElem_cons_zero]
      refine ⟨by have := pre_len p1; simp; omega, ?_⟩
      rw [get_app, hks]
      simp
  · rintro acc σ B1 ⟨p1, _, ks, rfl, hks, hall⟩
    rw [List.length_map, List.length_range] at hks
    refine ⟨lim_le (by simp; omega), pre_app p1, _, ks, rfl, get_app, pre_len p1, hks, fun j hj => ⟨(hall j hj).1, get_app_of (hall j hj).2⟩⟩
end
end Ws
namespace Ws
section
variable {A : PHp} {w r q : Nat} {N : Nat} {ps : List (Int × Int)}
theorem w_extend {Q : PV → PHp → Prop} {E : XP} {σ : PSt} {e1 e2 : ED} (h : Wp (e1 σ) A (fun x A1 => ∃ n l0, x = .ref n ∧ A1[n]? = some (.lst l0) ∧ Wp (e2 σ) A1 (fun v A2 => ∃ (k : Nat) (l m : List PV), v = .ref k ∧ A2[n]? = some (.lst l) ∧ A2[k]? = some (.lst m) ∧ l.length + m.length ≤ LIM ∧ Q .non (A2.set n (.lst (l ++ m)))) E) E) : Wp (eExtend e1 e2 σ) A Q E :=
  w_bnd (w_mono h fun x A1 ⟨n, l0, hx, h0, h1⟩ => by
    subst hx
    exact w_bnd (w_mut h0 (w_bnd (w_mono h1 fun v A2 ⟨k, l, m, hv, hl, hm, hlim, q⟩ => by
      subst hv
      exact w_bnd (w_mut hl (w_bnd (w_mut hm (w_guard hlim (w_bnd (w_eq (a := ()) rfl q))))))))))
theorem w_pop0 {Q : PV → PHp → Prop} {E : XP} {σ : PSt} {e1 : ED} (h : Wp (e1 σ) A (fun x A1 => ∃ n y l, x = .ref n ∧ A1[n]? = some (.lst (y :: l)) ∧ Q y (A1.set n (.lst l))) E) : Wp (ePop0 e1 σ) A Q E :=
  w_bnd (w_mono h fun x A1 ⟨n, y, l, hx, h0, q⟩ => by
    subst hx
    exact w_bnd (w_mut h0 (w_bnd (w_eq (a := ()) rfl q))))
theorem rs_len {c : List Int} (R : Rs N c) : c.length ≤ N := by
  have nd : c.Nodup := R.2.1.imp fun h => Int.ne_of_lt h
  have := nd.length_le_of_subset (l₂ := hands N) fun y hy => mem_hands.mpr (R.2.2 y hy)
  rwa [hands_len] at this
theorem least_c1 {B : PHp} (Wb : WebAt B w r N ps) (hN : N ≤ 6) :
    Wp (f_least_leaders_c1 [some (.ref w), none, none]) B (fun v B' => ∃ (p : Nat) (Qs : List (Nat × List Int)), v = .ref p ∧ LQ B B' p Qs ∧ Qs.map (·.2) = (hands N).map fun h => [h]) NoX := by
  unfold f_least_leaders_c1
  refine w_comp ?_
  refine w_irng1 ?_
  walk_at "go"
  refine ⟨w, 0, _, .int N, rfl, Wb.ob, rfl, N, rfl, by omega, ?_⟩
  refine ⟨(List.range N).map (fun (k : Nat) => PV.int (k : Int)), N, fun i acc σ B1 => B <+: B1 ∧ (∃ z, σ = [z]) ∧ ∃ ks : List Nat, acc = ks.map .ref ∧ ks.length = i ∧ ∀ j (hj : j < ks.length), (ks[j] < B1.length ∧ B.length ≤ ks[j]) ∧ B1[ks[j]]? = some (.lst ([((j : Nat) : Int)].map .int)), rfl, by simp, ⟨List.prefix_refl _, ⟨_, rfl⟩, [], rfl, rfl, fun j hj => absurd hj (by simp)⟩, fun i acc σ B1 _ => item_rng N i, ?_, ?_⟩
  · rintro i v acc σ B1 hv ⟨p1, ⟨z, rfl⟩, ks, rfl, hks, hall⟩
    rw [List.getElem?_map] at hv
    rcases hr : (List.range N)[i]? with _ | i'
    · rw [hr] at hv; cases hv
    rw [hr] at hv
    obtain ⟨hi1, hi2⟩ := List.getElem?_eq_some_iff.mp hr
    rw [List.getElem_range] at hi2
    subst hi2
    obtain rfl : PV.int ((i : Nat) : Int) = v := Option.some.inj hv
    walk_at "go"
    refine ⟨pre_app p1, ⟨_, rfl⟩, ks ++ [B1.length], by simp, by simp [hks], fun j hj => ?_⟩
    rcases Nat.lt_or_ge j ks.length with e | e
    · rw [List.getElem_append_left e]
      exact ⟨by have := (hall j e).1; simp; omega, get_app_of (hall j e).2⟩
    · have : j = ks.length := by simp at hj; omega
      subst this
      rw [List.getElem_append_right (Nat.le_refl _)]
      simp only [Nat.sub_self, List.getElem_cons_zero]
      refine ⟨⟨by simp, pre_len p1⟩, ?_⟩
      rw [get_app, hks]; rfl
  · rintro acc σ B1 ⟨p1, _, ks, rfl, hks, hall⟩
    rw [List.length_map, List.length_range] at hks
    refine ⟨lim_le (by simp; omega), B1.length, (List.range N).map fun j => (ks.getD j 0, [((j : Nat) : Int)]), rfl, ⟨pre_app p1, pre_len p1, ?_, fun x hx => ?_, fun x hx => ?_⟩, ?_⟩
    · rw [get_app, List.map_map]
      congr 2
      refine List.ext_getElem (by simp [hks]) fun j h1 h2 => ?_
      have hj : j < ks.length := by simpa using h1
      simp [hj]
    · obtain ⟨j, hj, rfl⟩ := List.mem_map.mp hx
      have hj : j < ks.length := by rw [hks]; exact List.mem_range.mp hj
      have := hall j hj
      have e : ks.getD j 0 = ks[j] := by simp [hj]
      dsimp only
      rw [e]
      exact ⟨by omega, get_app_of this.2⟩
    · obtain ⟨j, hj, rfl⟩ := List.mem_map.mp hx
      have hj : j < ks.length := by rw [hks]; exact List.mem_range.mp hj
      have := hall j hj
      have e : ks.getD j 0 = ks[j] := by simp [hj]
      dsimp only
      rw [e]
      exact this.1.2
    · rw [List.map_map]; unfold hands; rw [List.map_map]; rfl
theorem least_ok (Wb : WebAt A w r N ps) (P : Passings N ps) :
    Wp (f_least_leaders [.ref w]) A (fun v A' => A <+: A' ∧ ∃ (k : Nat) (F : List Int), v = .ref k ∧ A.length ≤ k ∧ A'[k]? = some (.lst (F.map .int)) ∧ Rs N F ∧ Full N ps F ∧ ∀ M, Rs N M → llt M F → ¬ Full N ps M) NoX := by
  have hN : N ≤ 6 := by have := P.hi; omega
  have h2 : 2 ≤ N := by have := P.lo; omega
  unfold f_least_leaders
  walk_at "fn"
  refine w_seq (w_asg (w_mono (least_c1 Wb hN) fun v B ⟨q, Qs, hv, hq, hc⟩ => ?_))
  subst hv
  refine w_gname ?_
  dsimp only [List.set]
  have hw0 := wgts_start N
  rw [← hc] at hw0
  have h63 : 2 ^ N ≤ 64 := by
    have : N = 0 ∨ N = 1 ∨ N = 2 ∨ N = 3 ∨ N = 4 ∨ N = 5 ∨ N = 6 := by omega
    rcases this with h | h | h | h | h | h | h <;> subst h <;> decide
  have LL : Wp (f_least_leaders_l1 [some (.ref w), some (.ref q), none]) B (fun o B' => ∃ x0 Qs' x2, o = .nx [some (.ref w), some (.ref q), x2] ∧ LQ A B' q (x0 :: Qs') ∧ LS N (Full N ps) ((x0 :: Qs').map (·.2)) ∧ Full N ps x0.2) NoX := by
    unfold f_least_leaders_l1
    refine w_while (fun m σ B' => ∃ Qs x2, σ = [some (.ref w), some (.ref q), x2] ∧ LQ A B' q Qs ∧ LS N (Full N ps) (Qs.map (·.2)) ∧ wgts N (Qs.map (·.2)) = m ∧ m ≤ 63) (m := wgts N (Qs.map (·.2))) (by omega) ⟨Qs, none, rfl, hq, by rw [hc]; exact LS.start (fun _ => trivial), rfl, by omega⟩ ?_
    clear hw0 hc hq Qs
    rintro m σ B1 ⟨Qs, x2, rfl, hq, hs, hm, h63'⟩
    obtain ⟨x0, Qs', rfl⟩ : ∃ x0 Qs', Qs = x0 :: Qs' := by
      cases Qs with
      | cons x r => exact ⟨x, r, rfl⟩
      | nil =>
        rcases hs.all (hands N) ⟨by intro z; have := hands_len N; rw [z] at this; simp at this; omega, hands_lt N, fun h hh => mem_hands.mp hh⟩ with z | ⟨c, hc, _⟩
        · exact absurd (full_hands N ps) z
        · simp at hc
    have R0 : Rs N x0.2 := hs.ok x0.2 (by simp)
    have hx0 := hq.it x0 (by simp)
    have nd0 : x0.2.Nodup := R0.2.1.imp fun h => Int.ne_of_lt h
    have hlen0 := rs_len R0
    obtain ⟨A', tm, v, er, pr, K, C, hif⟩ := ring_ok (Wb.mono hq.pre) P hx0.2 nd0 R0.2.2
    have hat : atI ((x0 :: Qs').map fun x => PV.ref x.1) 0 = some (.ref x0.1) := by simp [atI, ixN]
    refine w_tval (w_notN (w_eq (meth_ok (c := 0) (n := w) (A1 := B1) (A2 := B1) (vs := [.ref x0.1]) rfl (Wb.mono hq.pre).ob (args1_ok (ix_ok rfl rfl (lstAt_lst hq.qs) hat)) er) ?_))
    have hq2 := hq.mono pr
    by_cases ht : tm.length < N
    · rw [if_pos ht] at hif
      obtain ⟨p0, xs, rfl, _⟩ := hif
      refine ⟨true, rfl, fun _ => ?_, fun z => (nomatch z)⟩
      have hnf : ¬ Full N ps x0.2 := fun z => (Full.of K C).mp z ht
      unfold f_least_leaders_b1
      refine w_seq (w_asg (w_pop0 (w_var rfl ⟨q, .ref x0.1, Qs'.map fun (x : Nat × List Int) => PV.ref x.1, rfl, hq2.qs, w_gname ?_⟩)))
      dsimp only [List.set]
      have p3 : A <+: A'.set q (.lst (Qs'.map fun (x : Nat × List Int) => PV.ref x.1)) := pre_set hq2.pre hq2.qa
      have hs3 : (A'.set q (.lst (Qs'.map fun (x : Nat × List Int) => PV.ref x.1)))[q]? = some (.lst (Qs'.map fun (x : Nat × List Int) => PV.ref x.1)) := get_set hq2.qs
      have hk3 : (A'.set q (.lst (Qs'.map fun (x : Nat × List Int) => PV.ref x.1)))[x0.1]? = some (.lst (x0.2.map .int)) := by rw [get_set_ne hx0.1]; exact (hq2.it x0 (by simp)).2
      have hi3 : ∀ x ∈ Qs', x.1 ≠ q ∧ (A'.set q (.lst (Qs'.map fun (x : Nat × List Int) => PV.ref x.1)))[x.1]? = some (.lst (x.2.map .int)) := by
        intro x hx
        have := hq2.it x (List.mem_cons_of_mem _ hx)
        exact ⟨this.1, by rw [get_set_ne this.1]; exact this.2⟩
      generalize A'.set q (.lst (Qs'.map fun x => PV.ref x.1)) = B3 at *
      have hqB := pre_lt hs3
      have hlq : (Qs'.map (·.2)).length ≤ 63 := by
        have h1 := wgts_len N ((x0 :: Qs').map (·.2))
        rw [hm] at h1
        simp at h1 ⊢
        omega
      refine w_exp (w_extend (w_var rfl ⟨q, _, rfl, hs3, w_mono (kids_c2 (Wb.mono p3) hN R0 hk3 (by omega) _) fun v B4 ⟨p4, p, ks, hv, hp, hBp, hkl, hall⟩ => ⟨p, _, _, hv, pre_get p4 hs3, hp, lim_le (by simp at hlq ⊢; omega), ?_⟩⟩))
      have hnew : ((Qs' ++ (List.range (N - nxt x0.2)).map fun (j : Nat) => (ks.getD j 0, x0.2 ++ [((nxt x0.2 + j : Nat) : Int)])).map (·.2)) = Qs'.map (·.2) ++ kids N x0.2 := by
        rw [List.map_append, List.map_map]; rfl
      have hw : wgts N ((x0 :: Qs').map (·.2)) = wgt N x0.2 + wgts N (Qs'.map (·.2)) := by simp [wgts]
      have hwk := wgts_kids N x0.2
      refine ⟨wgts N (Qs'.map (·.2) ++ kids N x0.2), ?_, Qs' ++ (List.range (N - nxt x0.2)).map fun (j : Nat) => (ks.getD j 0, x0.2 ++ [((nxt x0.2 + j : Nat) : Int)]), _, rfl, ⟨pre_set (p3.trans p4) hq.qa, hq.qa, ?_, fun x hx => ?_, fun x hx => ?_⟩, ?_, ?_, ?_⟩
      · rw [wgts_app]; omega
      · rw [get_set (pre_get p4 hs3), List.map_append, List.map_map]
        congr 3
        refine List.ext_getElem (by simp [hkl]) fun j h1 h2 => ?_
        have hj : j < ks.length := by simpa using h1
        simp [hj]
      · rcases List.mem_append.mp hx with z | z
        · have := hi3 x z
          exact ⟨this.1, by rw [get_set_ne this.1]; exact pre_get p4 this.2⟩
        · obtain ⟨j, hj, rfl⟩ := List.mem_map.mp z
          have hj : j < ks.length := by rw [hkl]; exact List.mem_range.mp hj
          have hh := hall j hj
          have e : ks.getD j 0 = ks[j] := by simp [hj]
          dsimp only
          rw [e]
          have hne : ks[j] ≠ q := by omega
          exact ⟨hne, by rw [get_set_ne hne]; exact hh.2⟩
      · rcases List.mem_append.mp hx with z | z
        · exact hq.fr x (List.mem_cons_of_mem _ z)
        · obtain ⟨j, hj, rfl⟩ := List.mem_map.mp z
          have hj : j < ks.length := by rw [hkl]; exact List.mem_range.mp hj
          have hh := hall j hj
          have e : ks.getD j 0 = ks[j] := by simp [hj]
          dsimp only
          rw [e]
          have := pre_len p3
          omega
      · rw [hnew]
        rw [List.map_cons] at hs
        exact hs.step hnf
      · rw [hnew]
      · rw [wgts_app]; omega
    · rw [if_neg ht] at hif
      subst hif
      exact ⟨false, rfl, fun z => (nomatch z), fun _ => ⟨x0, Qs', x2, rfl, hq2, hs, (Full.of K C).mpr ht⟩⟩
  refine w_seq (w_mono LL fun o B2 ⟨x0, Qs', x2, ho, hq2, hs2, hf⟩ => ?_)
  subst ho
  dsimp only
  have hat : atI ((x0 :: Qs').map fun x => PV.ref x.1) 0 = some (.ref x0.1) := by simp [atI, ixN]
  refine w_retS (w_eq (ix_ok rfl rfl (lstAt_lst hq2.qs) hat) ?_)
  have R0 : Rs N x0.2 := hs2.ok x0.2 (by simp)
  rw [List.map_cons] at hs2
  exact ⟨hq2.pre, x0.1, x0.2, rfl, hq2.fr x0 (by simp), (hq2.it x0 (by simp)).2, R0, hf, fun M hM hlt => hs2.least hM hlt⟩
theorem span_ok {l : Nat} {L : List Int} (Wb : WebAt A w r N ps) (P : Passings N ps) (hl : A[l]? = some (.lst (L.map .int))) (nd : L.Nodup) (hL : ∀ h ∈ L, 0 ≤ h ∧ h < (N : Int)) {tm : List (Int × Int)} (K : KT N ps L tm) (C : Closed N ps tm) (hf : ¬ tm.length < N) :
    Wp (f_span [.ref w, .ref l]) A (fun v A' => A <+: A' ∧ v = .int (mx (tm.map (·.2)))) NoX := by
  have h2 : 2 ≤ N := by have := P.lo; omega
  obtain ⟨A', sm, v, er, pr, K', C', hif⟩ := lay_turns_ok Wb P hl nd hL
  rw [if_neg (by rw [KT.same_len K' C' K C]; exact hf)] at hif
  obtain ⟨p, rfl, hAp, hp⟩ := hif
  have hval : ∀ h : Int, tval sm h = tval tm h := KT.same K' C' K C
  have hlen : (layL N sm).length = N := by unfold layL; rw [List.length_map, hands_len]
  have hall : ∀ h : Int, 0 ≤ h → h < N → h ∈ keys tm := by
    intro h h0 h1
    refine Classical.byContradiction fun hn => hf ?_
    have : (h :: keys tm).Nodup := List.nodup_cons.mpr ⟨hn, K.nd⟩
    have := this.length_le_of_subset (l₂ := hands N) fun y hy => by
      rcases List.mem_cons.mp hy with e | e
      · rw [e]; exact mem_hands.mpr ⟨h0, h1⟩
      · exact mem_hands.mpr (K.hand y e)
    rw [hands_len, List.length_cons, keys_len] at this
    omega
  have tval_in : ∀ (m : List (Int × Int)) (h t : Int), tval m h = some t → t ∈ m.map (·.2) := by
    intro m
    induction m with
    | nil => intro h t e; simp [tval] at e
    | cons x m ih =>
      intro h t e
      unfold tval at e
      split at e
      · cases e; simp
      · exact List.mem_cons_of_mem _ (ih h t e)
  have in_tval : ∀ (m : List (Int × Int)) (t : Int), (keys m).Nodup → t ∈ m.map (·.2) → ∃ h ∈ keys m, tval m h = some t := by
    intro m
    induction m with
    | nil => intro t _ ht; simp at ht
    | cons x m ih =>
      intro t hn ht
      have hn' : x.1 ∉ keys m ∧ (keys m).Nodup := List.nodup_cons.mp hn
      rcases List.mem_cons.mp ht with e | e
      · refine ⟨x.1, List.mem_cons_self, ?_⟩
        unfold tval
        rw [if_pos rfl, e]
      · obtain ⟨h, hh, e2⟩ := ih t hn'.2 e
        refine ⟨h, List.mem_cons_of_mem _ hh, ?_⟩
        unfold tval
        rw [if_neg (fun z : x.1 = h => hn'.1 (by rw [z]; exact hh))]
        exact e2
  have hmem : ∀ t : Int, t ∈ layL N sm ↔ t ∈ tm.map (·.2) := by
    intro t
    unfold layL
    constructor
    · intro h
      obtain ⟨g, hg, rfl⟩ := List.mem_map.mp h
      have hg := mem_hands.mp hg
      obtain ⟨t, ht⟩ := tval_mem (hall g hg.1 hg.2)
      rw [hval, ht]
      exact tval_in tm g t ht
    · intro h
      obtain ⟨g, hg, e⟩ := in_tval tm t K.nd h
      refine List.mem_map.mpr ⟨g, mem_hands.mpr (K.hand g hg), ?_⟩
      rw [hval, e]; rfl
  have hne : layL N sm ≠ [] := by intro z; rw [z] at hlen; simp at hlen; omega
  have hne2 : tm.map (·.2) ≠ [] := by
    obtain ⟨x, hx⟩ := List.exists_mem_of_ne_nil _ hne
    intro z
    have := (hmem x).mp hx
    rw [z] at this; simp at this
  have emx : mx (layL N sm) = mx (tm.map (·.2)) := Int.le_antisymm (mx_ge ((hmem _).mp (mx_mem hne))) (mx_ge ((hmem _).mpr (mx_mem hne2)))
  unfold f_span
  walk_at "fn"
  refine w_retS (w_max (w_eq (meth_ok (c := 0) (n := w) (A1 := A) (A2 := A) (vs := [.ref l]) rfl Wb.ob (args1_ok rfl) er) ?_))
  cases hly : layL N sm with
  | nil => exact absurd hly hne
  | cons i t =>
    rw [hly] at hp emx
    refine ⟨p, i, t, rfl, hp, ?_⟩
    have : mx (i :: t) = maxI i t := rfl
    rw [this] at emx
    first | exact ⟨_, rfl, pr, by rw [emx]⟩ | exact ⟨pr, by rw [emx]⟩
end
end Ws
namespace Ws
theorem and_one {x : Int} (h : 0 ≤ x) : PySem.Builtin.bitAnd x 1 = x % 2 := by
  unfold PySem.Builtin.bitAnd
  rw [decide_eq_true h, decide_eq_true (show (0 : Int) ≤ 1 by decide)]
  dsimp only
  rw [show (1 : Int).toNat = 1 from rfl, Nat.and_one_is_mod]
  omega
theorem some_bit : ∀ (N b : Nat), 0 < b → b < 2 ^ N → ∃ h : Nat, h < N ∧ b / 2 ^ h % 2 = 1
  | 0, b, h1, h2 => by simp at h2; omega
  | N + 1, b, h1, h2 => by
    by_cases e : b % 2 = 1
    · exact ⟨0, by omega, by simpa using e⟩
    · obtain ⟨h, hh, e2⟩ := some_bit N (b / 2) (by omega) (by rw [Nat.pow_succ] at h2; omega)
      refine ⟨h + 1, by omega, ?_⟩
      rw [Nat.pow_succ, Nat.mul_comm, ← Nat.div_div_eq_div_mul]
      exact e2
section
variable {A : PHp} {w r : Nat} {N : Nat} {ps : List (Int × Int)}
noncomputable def bitsL (N : Nat) (b : Int) : List Int := (hands N).filter fun h => decide (PySem.Builtin.bitAnd (b / 2 ^ h.toNat) 1 = 1)
theorem bits_ok (hN : N ≤ 6) (b : Int) : Wp (f_law_bits [.int N, .int b]) A (fun v A' => v = .ref A.length ∧ A' = A ++ [.lst ((bitsL N b).map .int)]) NoX := by
  unfold f_law_bits
  walk_at "fn"
  refine w_retS ?_
  unfold f_law_bits_c1
  refine w_compP (l := (List.range N).map fun (k : Nat) => PV.int (k : Int)) (fun σ => ∃ x, σ = [x, some (.int b)]) (fun v => decide (PySem.Builtin.bitAnd (b / 2 ^ (iv v).toNat) 1 = 1)) (fun v => v) ?_
  walk_at "go"
  refine ⟨by simp, lim_le (by simp; omega), ⟨_, rfl⟩, fun i => item_rng N i, ?_, ?_⟩
  · rintro v σ hv ⟨x, rfl⟩
    obtain ⟨y, hy, rfl⟩ := List.mem_map.mp hv
    walk_at "go"
    refine ⟨rfl, ⟨_, rfl⟩, ?_⟩
    walk_at "go"
    ((with_reducible apply w_shr); (· omega))
    walk_at "go"
    refine w_andB ?_
    walk_at "go"
    exact ⟨rfl, rfl, fun _ => w_var rfl ⟨rfl, rfl⟩⟩
  · first | refine ⟨_, rfl, rfl, ?_⟩ | refine ⟨rfl, ?_⟩ | skip
    rw [List.map_id']
    unfold bitsL
    have : (hands N).map PV.int = (List.range N).map fun (k : Nat) => PV.int (k : Int) := by unfold hands; rw [List.map_map]; rfl
    rw [← this, filter_int]; rfl
theorem bitsL_rise (N : Nat) (b : Int) : (bitsL N b).Pairwise (· < ·) := (hands_lt N).filter _
theorem bitsL_in {N : Nat} {b : Int} : ∀ h ∈ bitsL N b, 0 ≤ h ∧ h < (N : Int) := fun h hh => mem_hands.mp (List.mem_filter.mp hh).1
theorem bitsL_ne {N b : Nat} (h1 : 0 < b) (h2 : b < 2 ^ N) : bitsL N (b : Int) ≠ [] := by
  obtain ⟨h, hh, e⟩ := some_bit N b h1 h2
  refine List.ne_nil_of_mem (a := (h : Int)) (List.mem_filter.mpr ⟨mem_hands.mpr ⟨by omega, by omega⟩, decide_eq_true ?_⟩)
  have : (b : Int) / 2 ^ (h : Int).toNat = ((b / 2 ^ h : Nat) : Int) := by
    rw [Int.toNat_natCast]; norm_cast
  rw [this, and_one (Int.natCast_nonneg _)]
  omega
theorem law_l1 {B : PHp} {pr k f s0 : Nat} {F : List Int} (P : Passings N ps) (hpr : B[pr]? = some (.lst (pvs ps))) (hf : B[f]? = some (.lst (F.map .int))) (hmin : ∀ M, Rs N M → llt M F → ¬ Full N ps M) (y3 y4 : PV) :
    Wp (f_law_l1 [some (.ref s0), some (.int N), some (.ref pr), some y3, some y4, some (.ref f), none, none, none, none]) B (fun o B' => B <+: B' ∧ ∃ z6 z7, o = .nx [some (.ref s0), some (.int N), some (.ref pr), some y3, some y4, some (.ref f), z6, z7, none, none]) NoX := by
  have hN : N ≤ 6 := by have := P.hi; omega
  have h64 : 2 ^ N ≤ 64 := by
    have : N = 0 ∨ N = 1 ∨ N = 2 ∨ N = 3 ∨ N = 4 ∨ N = 5 ∨ N = 6 := by omega
    rcases this with h | h | h | h | h | h | h <;> subst h <;> decide
  unfold f_law_l1
  refine w_forR (fun i σ B' => B <+: B' ∧ ∃ z6 z7, σ = [some (.ref s0), some (.int N), some (.ref pr), some y3, some y4, some (.ref f), z6, z7, none, none]) ?_
  refine w_irng2 (w_k (w_bin (w_k (w_var rfl ?_))))
  refine w_shl ⟨by omega, by omega, by decide⟩ ?_
  have e2 : (1 : Int) * 2 ^ ((N : Int)).toNat = ((2 ^ N : Nat) : Int) := by rw [Int.toNat_natCast]; norm_cast; omega
  rw [e2]
  refine ⟨1, 2 ^ N, rfl, rfl, by omega, 1, 2 ^ N - 1, rfl, ⟨List.prefix_refl _, _, _, rfl⟩, ?_, fun σ B1 ⟨h1, z6, z7, h2⟩ => ⟨h1, z6, z7, by rw [h2]⟩⟩
  rintro i σ B1 hi ⟨p1, z6, z7, rfl⟩
  walk_at "go"
  unfold f_law_b1
  refine w_seq (w_asg (w_call (w_cons (w_var rfl (w_cons (w_var rfl (w_nil ?_)))))))
  refine w_mono (bits_ok hN _) fun v B2 ⟨hv, hB⟩ => ?_
  subst hv; subst hB
  refine w_gname ?_
  dsimp only [List.set]
  have eb : (1 : Int) + i = ((1 + i : Nat) : Int) := by omega
  rw [eb]
  have hne := bitsL_ne (N := N) (b := 1 + i) (by omega) (by omega)
  have hRs : Rs N (bitsL N ((1 + i : Nat) : Int)) := ⟨hne, bitsL_rise _ _, bitsL_in⟩
  have ho : (B1 ++ [PO.lst ((bitsL N ((1 + i : Nat) : Int)).map .int)])[B1.length]? = some (.lst ((bitsL N ((1 + i : Nat) : Int)).map .int)) := get_app
  have p2 : B <+: B1 ++ [PO.lst ((bitsL N ((1 + i : Nat) : Int)).map .int)] := pre_app p1
  generalize B1 ++ [PO.lst ((bitsL N ((1 + i : Nat) : Int)).map .int)] = B2 at *
  generalize bitsL N ((1 + i : Nat) : Int) = M at *
  generalize B1.length = o at *
  have hf2 := pre_get p2 hf
  have hpr2 := pre_get p2 hpr
  have hif : Wp (tAnd (tVal (eBin oLtL (eTup (aCons (eLen (eVar 7)) (aCons (eVar 7) aNil))) (eTup (aCons (eLen (eVar 5)) (aCons (eVar 5) aNil))))) (tVal (eBin oEq (eLenD (eCall f_law_turns (aCons (eVar 1) (aCons (eVar 2) (aCons (eVar 7) aNil))))) (eVar 1))) [some (.ref s0), some (.int N), some (.ref pr), some y3, some y4, some (.ref f), some (.int ((1 + i : Nat) : Int)), some (.ref o), none, none]) B2 (fun b B3 => b = false ∧ B2 <+: B3) NoX := by
    refine w_tand (w_tval (w_bin ?_))
    walk_at "go"
    refine w_ltL ho hf2 ⟨_, rfl, fun hlt => ?_, fun _ => ⟨rfl, List.prefix_refl _⟩⟩
    have hll : llt M F := by
      by_cases e : (M.length : Int) = F.length
      · rw [if_pos e] at hlt; exact .inr ⟨by omega, hlt⟩
      · rw [if_neg e] at hlt; exact .inl (by have := of_decide_eq_true hlt; omega)
    have hnf := hmin M hRs hll
    refine w_tval (w_bin (w_lenD (w_call (w_cons (w_var rfl (w_cons (w_var rfl (w_cons (w_var rfl (w_nil ?_))))))))))
    refine w_mono (turns_ok P hpr2 ho (hRs.2.1.imp fun h => Int.ne_of_lt h) hRs.2.2) fun v B3 ⟨p3, d, tm, hv, hd, K, C⟩ => ?_
    subst hv
    refine ⟨d, tv tm, rfl, hd, w_var rfl (w_eqI ⟨_, rfl, ?_, p3⟩)⟩
    have hlt : tm.length < N := Classical.byContradiction fun z => hnf ((Full.of K C).mpr z)
    refine decide_eq_false ?_
    have : (tv tm).length = tm.length := by simp [tv]
    omega
  refine w_if (w_mono hif fun b B3 ⟨hb, p3⟩ => ?_)
  subst hb
  refine ⟨fun z => (nomatch z), fun _ => ?_⟩
  walk_at "go"
  first | exact ⟨p2.trans p3, _, _, rfl⟩ | exact ⟨_, _, rfl⟩
theorem w_maxTv {Q : PV → PHp → Prop} {E : XP} {σ : PSt} {e : ED} (h : Wp (e σ) A (fun x A1 => ∃ n tm, x = .ref n ∧ A1[n]? = some (.dI (tv tm)) ∧ tm ≠ [] ∧ Q (.int (mx (tm.map (·.2)))) A1) E) : Wp (eMaxV e σ) A Q E :=
  w_maxV (w_mono h fun x A1 ⟨n, tm, hx, hn, hne, q⟩ => by
    cases tm with
    | nil => exact absurd rfl hne
    | cons a s =>
      refine ⟨n, tv (a :: s), a.2, s.map (fun x : Int × Int => x.2), hx, hn, ?_, q⟩
      have : (tv (a :: s)).map (·.2) = ((a :: s).map (·.2)).map PV.int := by unfold tv; rw [List.map_map, List.map_map]; rfl
      rw [this, intsOf_map]; rfl)
theorem rs_uniq {F G : List Int} (rF : Rs N F) (fF : Full N ps F) (mF : ∀ M, Rs N M → llt M F → ¬ Full N ps M) (rG : Rs N G) (fG : Full N ps G) (mG : ∀ M, Rs N M → llt M G → ¬ Full N ps M) : F = G := by
  rcases Nat.lt_trichotomy F.length G.length with h | h | h
  · exact absurd fF (mG F rF (.inl h))
  · cases h1 : lexLt F G with
    | true => exact absurd fF (mG F rF (.inr ⟨h, h1⟩))
    | false =>
      cases h2 : lexLt G F with
      | true => exact absurd fG (mF G rG (.inr ⟨h.symm, h2⟩))
      | false => exact lex_tot F G h1 h2
  · exact absurd fG (mF G rG (.inl h))
theorem mx_same {l : Nat} {L : List Int} (Wb : WebAt A w r N ps) (P : Passings N ps) (hl : A[l]? = some (.lst (L.map .int))) (nd : L.Nodup) (hL : ∀ h ∈ L, 0 ≤ h ∧ h < (N : Int)) {tm sm : List (Int × Int)} (K : KT N ps L tm) (C : Closed N ps tm) (hf : ¬ tm.length < N) (K' : KT N ps L sm) (C' : Closed N ps sm) : mx (tm.map (·.2)) = mx (sm.map (·.2)) := by
  obtain ⟨v, A1, e1, _, h1⟩ := w_inv (span_ok Wb P hl nd hL K C hf)
  obtain ⟨u, A2, e2, _, h2⟩ := w_inv (span_ok Wb P hl nd hL K' C' (by rw [← KT.same_len K C K' C']; exact hf))
  rw [e1] at e2
  cases e2
  rw [h1] at h2
  exact PV.int.inj h2
end
theorem law_ok (ns : List Int) : Wp (f_law [.ref 0]) [.ro (ns.map .int)] (fun v _ => v = .bl true) NoX := by
  have h0 : ([PO.ro (ns.map .int)] : PHp)[0]? = some (.ro (ns.map .int)) := rfl
  generalize ([PO.ro (ns.map .int)] : PHp) = A at *
  obtain ⟨c0, e0⟩ := cell_ok h0 0
  obtain ⟨c1, e1⟩ := cell_ok h0 1
  obtain ⟨c2, e2⟩ := cell_ok h0 2
  unfold f_law
  walk_at "fn"
  refine w_seq (w_asg (w_call (w_cons (w_call (w_cons (w_var rfl (w_cons (w_k (w_nil (w_eq e0 ?_)))))))))) 
  refine w_cons (w_call (w_cons (w_var rfl (w_cons (w_k (w_nil (w_eq e1 ?_)))))))
  refine w_cons (w_call (w_cons (w_var rfl (w_cons (w_k (w_nil (w_eq e2 (w_nil ?_))))))))
  refine w_mono (web51 c0 c1 c2) fun v A1 ⟨p1, N, ps, pr, hv, hpr, P⟩ => ?_
  subst hv
  walk_at "go"
  have hN : N ≤ 6 := by have := P.hi; omega
  have h2 : 2 ≤ N := by have := P.lo; omega
  have h01 := pre_get p1 h0
  obtain ⟨A2, r, em, p2, W, hwr⟩ := web_make (A := A1 ++ [.lst (pvs ps)]) (q := A1.length) P get_app
  refine w_eq em ?_
  have hpr2 := pre_get p2 (get_app_of hpr)
  have h02 := pre_get p2 (get_app_of h01)
  generalize (A1 ++ [PO.lst (pvs ps)]).length = w at W
  walk_at "go"
  refine w_mono (least_ok W P) fun v A3 ⟨p3, k, F, hv, hk, hkF, rF, fF, mF⟩ => ?_
  subst hv
  have ndF : F.Nodup := rF.2.1.imp fun h => Int.ne_of_lt h
  walk_at "go"
  have hk4 := get_app_of (o := PO.lst (F.map .int)) hkF
  have hf4 : (A3 ++ [PO.lst (F.map .int)])[A3.length]? = some (.lst (F.map .int)) := get_app
  have p4 := pre_app (o := PO.lst (F.map .int)) p3
  have hkf : k ≠ A3.length := by have := pre_lt hkF; omega
  generalize A3 ++ [PO.lst (F.map .int)] = A4 at *
  generalize A3.length = f at *
  have W4 := W.mono p4
  have hpr4 := pre_get p4 hpr2
  refine w_lenD (w_call (w_cons (w_var rfl (w_cons (w_var rfl (w_cons (w_var rfl (w_nil ?_))))))))
  refine w_mono (turns_ok P hpr4 hf4 ndF rF.2.2) fun v A5 ⟨p5, d, tm, hv, hd, K, C⟩ => ?_
  subst hv
  have hfull : ¬ tm.length < N := (Full.of K C).mp fF
  have htl : ((tv tm).length : Int) = N := by have h3 := K.len; have h4 : (tv tm).length = tm.length := (by simp [tv]); omega
  refine ⟨d, tv tm, rfl, hd, ?_⟩
  walk_at "go"
  refine ⟨fun z => by simp [htl] at z, fun _ => ?_⟩
  have hk5 := pre_get p5 hk4
  have hf5 := pre_get p5 hf4
  have p25 := p4.trans p5
  have hFl := rs_len rF
  walk_at "go"
  have p26 : A2 <+: A5.set k (PO.lst (F.map PV.int ++ [PV.int 0])) := pre_set p25 hk
  have hf6 : (A5.set k (PO.lst (F.map PV.int ++ [PV.int 0])))[f]? = some (.lst (F.map .int)) := by rw [get_set_ne (Ne.symm hkf)]; exact hf5
  generalize A5.set k (PO.lst (F.map PV.int ++ [PV.int 0])) = A6 at *
  refine w_mono (least_ok (W.mono p26) P) fun v A7 ⟨p7, k2, G, hv, hk2, hkG, rG, fG, mG⟩ => ?_
  subst hv
  have eFG := rs_uniq rF fF mF rG fG mG
  subst eFG
  have hf7 := pre_get p7 hf6
  have p27 := p26.trans p7
  walk_at "go"
  refine ⟨fun z => by simp at z, fun _ => ?_⟩
  walk_at "go"
  refine w_mono (law_l1 (k := 0) P (pre_get p27 hpr2) hf7 mF _ _) fun o A8 ⟨p8, z6, z7, ho⟩ => ?_
  subst ho
  have p28 := p27.trans p8
  have hf8 := pre_get p8 hf7
  have W8 := W.mono p28
  have hpr8 := pre_get p28 hpr2
  have h08 := pre_get p28 h02
  walk_at "go"
  refine w_mono (span_ok W8 P hf8 ndF rF.2.2 K C hfull) fun v A9 ⟨p9, hv⟩ => ?_
  subst hv
  have W9 := W8.mono p9
  have hpr9 := pre_get p9 hpr8
  have hf9 := pre_get p9 hf8
  have h09 := pre_get p9 h08
  refine w_maxTv (w_call (w_cons (w_var rfl (w_cons (w_var rfl (w_cons (w_var rfl (w_nil ?_))))))))
  refine w_mono (turns_ok P hpr9 hf9 ndF rF.2.2) fun v B ⟨pB, d2, sm, hv, hd2, K2, C2⟩ => ?_
  subst hv
  have hsm : ¬ sm.length < N := (Full.of K2 C2).mp fF
  refine ⟨d2, sm, rfl, hd2, by intro z; rw [z] at hsm; simp at hsm; omega, ?_⟩
  have emx := mx_same W8 P hf8 ndF rF.2.2 K C hfull K2 C2
  walk_at "go"
  refine ⟨fun z => by simp [emx] at z, fun _ => ?_⟩
  have h0B := pre_get pB h09
  have hprB := pre_get pB hpr9
  have WB := W9.mono pB
  obtain ⟨c3, e3⟩ := cell_ok h0B 3
  walk_at "go"
  refine w_eq e3 ?_
  walk_at "go"
  refine w_mono (bits_ok hN c3) fun v B1 ⟨hv, hB1⟩ => ?_
  subst hv; subst hB1
  have hb : (B ++ [PO.lst ((bitsL N c3).map .int)])[B.length]? = some (.lst ((bitsL N c3).map .int)) := get_app
  have pB1 : B <+: B ++ [PO.lst ((bitsL N c3).map .int)] := pre_app (List.prefix_refl _)
  generalize B ++ [PO.lst ((bitsL N c3).map .int)] = B1 at *
  generalize B.length = s at *
  have WB1 := WB.mono pB1
  have ndM : (bitsL N c3).Nodup := (bitsL_rise N c3).imp fun h => Int.ne_of_lt h
  walk_at "go"
  refine w_mono (turns_ok P (pre_get pB1 hprB) hb ndM bitsL_in) fun v B2 ⟨pB2, d3, um, hv, hd3, K3, C3⟩ => ?_
  subst hv
  have WB2 := WB1.mono pB2
  have hb2 := pre_get pB2 hb
  have hul : ((tv um).length : Int) = um.length := by simp [tv]
  walk_at "go"
  refine w_lenD (w_var rfl ⟨d3, tv um, rfl, hd3, ?_⟩)
  walk_at "go"
  refine ⟨fun _ => ?_, fun z => ?_⟩
  · first | rfl | exact ⟨_, rfl, rfl⟩ | trivial
  · have z : um.length = N := by
      have := of_decide_eq_true (by simpa using z : decide (((tv um).length : Int) = N) = true)
      omega
    walk_at "go"
    refine w_mono (span_ok WB2 P hb2 ndM bitsL_in K3 C3 (by omega)) fun v B3 ⟨pB3, hv⟩ => ?_
    subst hv
    refine w_maxTv (w_var rfl ⟨d3, um, rfl, pre_get pB3 hd3, by intro e; rw [e] at z; simp at z; omega, ?_⟩)
    walk_at "go"
    simp
theorem law_pure (ns : List Int) : ∃ A', f_law [.ref 0] [.ro (ns.map .int)] = .ok (.bl true) A' := by
  obtain ⟨v, A', e, h⟩ := w_inv (law_ok ns)
  exact ⟨A', by rw [e, h]⟩
end Ws
namespace Ws
open PySem
structure Glob (mg : Str → Option Value) : Prop where
  g_FEWEST_HANDS : ∃ t, mg "FEWEST_HANDS" = some (.int 2 t)
  g_MOST_HANDS : ∃ t, mg "MOST_HANDS" = some (.int 6 t)
section
variable {P : Program} {w : World} {K : PySem.W.Frag} {mg : Str → Option Value} {base : Heap} {cm : Nat → Addr}
noncomputable def top (i : Nat) : Stmt := PySem.Challenge.pw_wordswap_k51_least_leaders.main.body.getD i (.Pass ⟨0, 0, 0, 0⟩)
theorem sc_is_whole : L2.FnScope ["value"] ["value"] (L2.defScope (top 7)) := ⟨rfl, rfl, rfl, by decide +kernel, rfl, by decide +kernel, by decide +kernel⟩
set_option maxHeartbeats 4000000 in
theorem ok_is_whole {fa : Addr} {fd : FuncData} (B : Base K mg cm) (F : L2.Fun K "is_whole" "is_whole" (top 7) fa fd) : L2.FnOk P w K mg base L2.CX0 1 fa fd ["value"] (SpF K cm f_is_whole 1) :=
  fn_ok F sc_is_whole fun cdv A outer s0 H E hr => by
    have hu := hr.units
    have hu1 := Nat.lt_of_le_of_lt (Nat.add_le_add_left (show 1 ≤ 64 by decide) _) hu
    exact (ss_one (s_ret (r_and (r_isA (t := .int) B.kit (r_var (L2.pv 0)) rfl B.b_isinstance rfl B.b_int PyProof.Rows.boot_int) (r_and1 (r_not (r_isA (t := .bool) B.kit (r_var (L2.pv 0)) rfl B.b_isinstance rfl B.b_bool PyProof.Rows.boot_bool))))))
theorem sc_is_hand : L2.FnScope ["number", "value"] ["number", "value"] (L2.defScope (top 8)) := ⟨rfl, rfl, rfl, by decide +kernel, rfl, by decide +kernel, by decide +kernel⟩
set_option maxHeartbeats 4000000 in
theorem ok_is_hand {fa : Addr} {fd : FuncData} (B : Base K mg cm) (D_is_whole : Def P w K mg base cm "is_whole" 1 ["value"] f_is_whole 1) (F : L2.Fun K "is_hand" "is_hand" (top 8) fa fd) : L2.FnOk P w K mg base L2.CX0 2 fa fd ["number", "value"] (SpF K cm f_is_hand 2) :=
  fn_ok F sc_is_hand fun cdv A outer s0 H E hr => by
    have hu := hr.units
    have hu1 := Nat.lt_of_le_of_lt (Nat.add_le_add_left (show 1 ≤ 64 by decide) _) hu
    exact (ss_one (s_ret (r_and (r_callD D_is_whole (by decide) hr rfl (r_cons (r_var (L2.pv 1)) r_nil)) (r_and1 (r_chain L2.op_le ok_le L2.op_lt ok_lt r_int (r_var (L2.pv 1)) (r_var (L2.pv 0)))))))
theorem sc_is_number_of_hands : L2.FnScope ["value"] ["value"] (L2.defScope (top 9)) := ⟨rfl, rfl, rfl, by decide +kernel, rfl, by decide +kernel, by decide +kernel⟩
set_option maxHeartbeats 4000000 in
theorem ok_is_number_of_hands {fa : Addr} {fd : FuncData} (B : Base K mg cm) (GL : Glob mg) (D_is_whole : Def P w K mg base cm "is_whole" 1 ["value"] f_is_whole 1) (F : L2.Fun K "is_number_of_hands" "is_number_of_hands" (top 9) fa fd) : L2.FnOk P w K mg base L2.CX0 2 fa fd ["value"] (SpF K cm f_is_number_of_hands 1) :=
  fn_ok F sc_is_number_of_hands fun cdv A outer s0 H E hr => by
    have hu := hr.units
    have hu1 := Nat.lt_of_le_of_lt (Nat.add_le_add_left (show 1 ≤ 64 by decide) _) hu
    exact (ss_one (s_ret (r_and (r_callD D_is_whole (by decide) hr rfl (r_cons (r_var (L2.pv 0)) r_nil)) (r_and1 (r_chain L2.op_le ok_le L2.op_le ok_le (r_glob rfl GL.g_FEWEST_HANDS) (r_var (L2.pv 0)) (r_glob rfl GL.g_MOST_HANDS))))))
theorem sc_is_passing : L2.FnScope ["number", "value"] ["number", "value"] (L2.defScope (top 10)) := ⟨rfl, rfl, rfl, by decide +kernel, rfl, by decide +kernel, by decide +kernel⟩
set_option maxHeartbeats 4000000 in
theorem ok_is_passing {fa : Addr} {fd : FuncData} (B : Base K mg cm) (D_is_hand : Def P w K mg base cm "is_hand" 2 ["number", "value"] f_is_hand 2) (F : L2.Fun K "is_passing" "is_passing" (top 10) fa fd) : L2.FnOk P w K mg base L2.CX0 3 fa fd ["number", "value"] (SpF K cm f_is_passing 2) :=
  fn_ok F sc_is_passing fun cdv A outer s0 H E hr => by
    have hu := hr.units
    have hu1 := Nat.lt_of_le_of_lt (Nat.add_le_add_left (show 1 ≤ 64 by decide) _) hu
    exact (ss_cons (s_if (L2.PW.pt (r_tor (r_tnot (r_tval (r_isA (t := .tuple) B.kit (r_var (L2.pv 1)) rfl B.b_isinstance rfl B.b_tuple PyProof.Rows.boot_tuple))) (r_tor1 (r_tcmp (op_neP hu) ok_ne (r_len (r_var (L2.pv 1)) rfl B.b_len) r_int (L2.nomark _)))))
 (ss_one (s_ret r_bl))
 ss_nil)
 (ss_one (s_ret (r_and (r_callD D_is_hand (by decide) hr rfl (r_cons (r_var (L2.pv 0)) (r_cons (r_ix (r_var (L2.pv 1)) r_int (fun _ _ => rfl)) r_nil))) (r_and (r_callD D_is_hand (by decide) hr rfl (r_cons (r_var (L2.pv 0)) (r_cons (r_ix (r_var (L2.pv 1)) r_int (fun _ _ => rfl)) r_nil))) (r_and1 (r_cmp (op_neP hu) ok_ne (r_ix (r_var (L2.pv 1)) r_int (fun _ _ => rfl)) (r_ix (r_var (L2.pv 1)) r_int (fun _ _ => rfl)) (L2.nomark _))))))))
theorem sc_first_wrong_passing : L2.FnScope ["number", "passings", "at", "passing"] ["number", "passings"] (L2.defScope (top 11)) := ⟨rfl, rfl, rfl, by decide +kernel, rfl, by decide +kernel, by decide +kernel⟩
set_option maxHeartbeats 4000000 in
theorem ok_first_wrong_passing {fa : Addr} {fd : FuncData} (B : Base K mg cm) (D_is_passing : Def P w K mg base cm "is_passing" 3 ["number", "value"] f_is_passing 2) (F : L2.Fun K "first_wrong_passing" "first_wrong_passing" (top 11) fa fd) : L2.FnOk P w K mg base L2.CX0 4 fa fd ["number", "passings"] (SpF K cm f_first_wrong_passing 2) :=
  fn_ok F sc_first_wrong_passing fun cdv A outer s0 H E hr => by
    have hu := hr.units
    have hu1 := Nat.lt_of_le_of_lt (Nat.add_le_add_left (show 1 ≤ 64 by decide) _) hu
    exact (ss_cons (s_for PassesOwn.never rfl (i_enm rfl B.b_enumerate (r_var (L2.pv 1))) (g_tup rfl (g_cons (g_name (L2.pg_name (i := 2) sc_first_wrong_passing.nd rfl (by first | exact Or.inl rfl | exact Or.inr rfl))) (g_cons (g_name (L2.pg_name (i := 3) sc_first_wrong_passing.nd rfl (by first | exact Or.inl rfl | exact Or.inr rfl))) g_nil)))
 (ss_one (s_if (L2.PW.pt (r_tor (r_tnot (r_tval (r_callD D_is_passing (by decide) hr rfl (r_cons (r_var (L2.pv 0)) (r_cons (r_var (L2.pv 3)) r_nil))))) (r_tor1 (r_tcmp (op_inP hu) ok_in (r_var (L2.pv 3)) (r_cut (r_var (L2.pv 1)) r_lno (r_lat (r_var (L2.pv 2)))) (by rfl)))))
 (ss_one (s_ret (r_var (L2.pv 2))))
 ss_nil)))
 (ss_one (s_ret r_non)))
theorem sc_Web_init : L2.FnScope ["self", "number", "passings", "wrong"] ["self", "number", "passings"] (L2.defScope (L2.inClass (top 12) 0)) := ⟨rfl, rfl, rfl, by decide +kernel, rfl, by decide +kernel, by decide +kernel⟩
set_option maxHeartbeats 4000000 in
theorem ok_Web_init {fa : Addr} {fd : FuncData} (B : Base K mg cm) (D_is_number_of_hands : Def P w K mg base cm "is_number_of_hands" 2 ["value"] f_is_number_of_hands 1) (D_first_wrong_passing : Def P w K mg base cm "first_wrong_passing" 4 ["number", "passings"] f_first_wrong_passing 2) (F : L2.Fun K "__init__" "Web.__init__" (L2.inClass (top 12) 0) fa fd) : L2.FnOk P w K mg base L2.CX0 5 fa fd ["self", "number", "passings"] (SpF K cm f_Web_init 3) :=
  fn_ok F sc_Web_init fun cdv A outer s0 H E hr => by
    have hu := hr.units
    have hu1 := Nat.lt_of_le_of_lt (Nat.add_le_add_left (show 1 ≤ 64 by decide) _) hu
    exact (ss_cons (s_if (r_tnot (r_tval (r_callD D_is_number_of_hands (by decide) hr rfl (r_cons (r_var (L2.pv 1)) r_nil))))
 (ss_one s_never)
 ss_nil)
 (ss_cons (s_set (i := 3) sc_Web_init.nd rfl (by first | exact Or.inl rfl | exact Or.inr rfl) (r_callD D_first_wrong_passing (by decide) hr rfl (r_cons (r_var (L2.pv 1)) (r_cons (r_var (L2.pv 2)) r_nil))))
 (ss_cons (s_if (r_tnotN (r_var (L2.pv 3)))
 (ss_one s_never)
 ss_nil)
 (ss_cons (s_fld (r_var (L2.pv 0)) (r_var (L2.pv 1)) (i := 0) rfl (by decide) B.cls (fun c => B.na c 0 (by decide)))
 (ss_one (s_fld (r_var (L2.pv 0)) (r_sorted hu (r_var (L2.pv 2)) rfl B.b_sorted) (i := 1) rfl (by decide) B.cls (fun c => B.na c 1 (by decide))))))))
theorem sc_Web_givers_of : L2.FnScope ["self", "h"] ["self", "h"] (L2.defScope (L2.inClass (top 12) 1)) := ⟨rfl, rfl, rfl, by decide +kernel, rfl, by decide +kernel, by decide +kernel⟩
set_option maxHeartbeats 4000000 in
theorem ok_Web_givers_of {fa : Addr} {fd : FuncData} (B : Base K mg cm) (F : L2.Fun K "givers_of" "Web.givers_of" (L2.inClass (top 12) 1) fa fd) : L2.FnOk P w K mg base L2.CX0 1 fa fd ["self", "h"] (SpF K cm f_Web_givers_of 2) :=
  fn_ok F sc_Web_givers_of fun cdv A outer s0 H E hr => by
    have hu := hr.units
    have hu1 := Nat.lt_of_le_of_lt (Nat.add_le_add_left (show 1 ≤ 64 by decide) _) hu
    exact (ss_one (s_ret (r_comp (N := ["giver", "taker", "h"]) [none, none, some 1] rfl (⟨rfl, rfl, by decide +kernel, by decide +kernel, (fa_cons rfl fa_nil), (fa_cons (fun h => nomatch h) (fa_cons (fun h => nomatch h) (fa_cons (fun h => nomatch h) (fa_cons (fun _ => rfl) fa_nil))))⟩) (.own (.own (.free rfl (by first | exact Or.inl rfl | exact Or.inr rfl) (by first | exact Or.inl rfl | exact Or.inr (Or.inl rfl) | exact Or.inr (Or.inr rfl)) rfl (by first | exact Or.inl rfl | exact Or.inr rfl) .nil))) (i_seq (r_fld (r_var (L2.pv 0)) (i := 1) rfl (by decide) B.cls (fun c => B.na c 1 (by decide)))) (fun _ _ _ _ => (g_tup rfl (g_cons (g_name (L2.pg_name (i := 0) (show List.Nodup (["giver", "taker", "h"] : List Str) from by decide +kernel) rfl (by first | exact Or.inl rfl | exact Or.inr rfl))) (g_cons (g_name (L2.pg_name (i := 1) (show List.Nodup (["giver", "taker", "h"] : List Str) from by decide +kernel) rfl (by first | exact Or.inl rfl | exact Or.inr rfl))) g_nil)))) (fun _ _ _ _ => (ts_one (r_tcmp (op_eqP hu) ok_eq (r_var (L2.pv 1)) (r_var (L2.pv 2)) (L2.nomark _)))) (fun _ _ _ _ => (r_var (L2.pv 0))))))
theorem sc_Web_known_lay_turns : L2.FnScope ["self", "leaders", "turns", "leader", "step", "h", "givers"] ["self", "leaders"] (L2.defScope (L2.inClass (top 12) 7)) := ⟨rfl, rfl, rfl, by decide +kernel, rfl, by decide +kernel, by decide +kernel⟩
set_option maxHeartbeats 4000000 in
theorem ok_Web_known_lay_turns {fa : Addr} {fd : FuncData} (B : Base K mg cm) (D_Web_givers_of : MDef P w K mg base cm 0 "givers_of" 1 ["self", "h"] f_Web_givers_of 2) (F : L2.Fun K "known_lay_turns" "Web.known_lay_turns" (L2.inClass (top 12) 7) fa fd) : L2.FnOk P w K mg base L2.CX0 2 fa fd ["self", "leaders"] (SpF K cm f_Web_known_lay_turns 2) :=
  fn_ok F sc_Web_known_lay_turns fun cdv A outer s0 H E hr => by
    have hu := hr.units
    have hu1 := Nat.lt_of_le_of_lt (Nat.add_le_add_left (show 1 ≤ 64 by decide) _) hu
    exact (ss_cons (s_set (i := 2) sc_Web_known_lay_turns.nd rfl (by first | exact Or.inl rfl | exact Or.inr rfl) r_dnew)
 (ss_cons (s_for PassesOwn.never rfl (i_seq (r_var (L2.pv 1))) (g_name (L2.pg_name (i := 3) sc_Web_known_lay_turns.nd rfl (by first | exact Or.inl rfl | exact Or.inr rfl)))
 (ss_one (s_dput hu1 (r_var (L2.pv 2)) (r_var (L2.pv 3)) r_int)))
 (ss_cons (s_for PassesOwn.never rfl (i_rng1 rfl B.b_range (r_fld (r_var (L2.pv 0)) (i := 0) rfl (by decide) B.cls (fun c => B.na c 0 (by decide)))) (g_name (L2.pg_name (i := 4) sc_Web_known_lay_turns.nd rfl (by first | exact Or.inl rfl | exact Or.inr rfl)))
 (ss_one (s_for PassesOwn.never rfl (i_rng1 rfl B.b_range (r_fld (r_var (L2.pv 0)) (i := 0) rfl (by decide) B.cls (fun c => B.na c 0 (by decide)))) (g_name (L2.pg_name (i := 5) sc_Web_known_lay_turns.nd rfl (by first | exact Or.inl rfl | exact Or.inr rfl)))
 (ss_cons (s_set (i := 6) sc_Web_known_lay_turns.nd rfl (by first | exact Or.inl rfl | exact Or.inr rfl) (r_methD D_Web_givers_of (by decide) hr (B.cls _ (by decide)) (r_var (L2.pv 0)) (r_cons (r_var (L2.pv 5)) r_nil) (by decide +kernel)))
 (ss_one (s_if (L2.PW.pt (r_tand (r_tdnotin hu1 (r_var (L2.pv 5)) (r_var (L2.pv 2))) (r_tand1 (r_tval (r_all rfl (r_comp (N := ["giver", "turns"]) [none, some 2] rfl (⟨rfl, rfl, by decide +kernel, by decide +kernel, (fa_cons rfl fa_nil), (fa_cons (fun h => nomatch h) (fa_cons (fun h => nomatch h) (fa_cons (fun _ => rfl) fa_nil)))⟩) (.own (.free rfl (by first | exact Or.inl rfl | exact Or.inr rfl) (by first | exact Or.inl rfl | exact Or.inr (Or.inl rfl) | exact Or.inr (Or.inr rfl)) rfl (by first | exact Or.inl rfl | exact Or.inr rfl) .nil)) (i_seq (r_var (L2.pv 6))) (fun _ _ _ _ => (g_name (L2.pg_name (i := 0) (show List.Nodup (["giver", "turns"] : List Str) from by decide +kernel) rfl (by first | exact Or.inl rfl | exact Or.inr rfl)))) (fun _ _ _ _ => ts_nil) (fun _ _ _ _ => (r_din hu1 (r_var (L2.pv 0)) (r_var (L2.pv 1))))) rfl B.b_all)))))
 (ss_one (s_dput hu1 (r_var (L2.pv 2)) (r_var (L2.pv 5)) (r_bin op_add3 ok_add r_int (r_maxD rfl (r_comp (N := ["giver", "turns"]) [none, some 2] rfl (⟨rfl, rfl, by decide +kernel, by decide +kernel, (fa_cons rfl fa_nil), (fa_cons (fun h => nomatch h) (fa_cons (fun h => nomatch h) (fa_cons (fun _ => rfl) fa_nil)))⟩) (.own (.free rfl (by first | exact Or.inl rfl | exact Or.inr rfl) (by first | exact Or.inl rfl | exact Or.inr (Or.inl rfl) | exact Or.inr (Or.inr rfl)) rfl (by first | exact Or.inl rfl | exact Or.inr rfl) .nil)) (i_seq (r_var (L2.pv 6))) (fun _ _ _ _ => (g_name (L2.pg_name (i := 0) (show List.Nodup (["giver", "turns"] : List Str) from by decide +kernel) rfl (by first | exact Or.inl rfl | exact Or.inr rfl)))) (fun _ _ _ _ => ts_nil) (fun _ _ _ _ => (r_dget hu1 (r_var (L2.pv 1)) (r_var (L2.pv 0)) (fun _ _ => rfl)))) r_int rfl B.b_max))))
 ss_nil))))))
 (ss_one (s_ret (r_var (L2.pv 2)))))))
theorem sc_Web_ring : L2.FnScope ["self", "leaders", "turns", "unknown", "walk", "givers"] ["self", "leaders"] (L2.defScope (L2.inClass (top 12) 5)) := ⟨rfl, rfl, rfl, by decide +kernel, rfl, by decide +kernel, by decide +kernel⟩
set_option maxHeartbeats 4000000 in
theorem ok_Web_ring {fa : Addr} {fd : FuncData} (B : Base K mg cm) (D_Web_known_lay_turns : MDef P w K mg base cm 0 "known_lay_turns" 2 ["self", "leaders"] f_Web_known_lay_turns 2) (D_Web_givers_of : MDef P w K mg base cm 0 "givers_of" 1 ["self", "h"] f_Web_givers_of 2) (F : L2.Fun K "ring" "Web.ring" (L2.inClass (top 12) 5) fa fd) : L2.FnOk P w K mg base L2.CX0 3 fa fd ["self", "leaders"] (SpF K cm f_Web_ring 2) :=
  fn_ok F sc_Web_ring fun cdv A outer s0 H E hr => by
    have hu := hr.units
    have hu1 := Nat.lt_of_le_of_lt (Nat.add_le_add_left (show 1 ≤ 64 by decide) _) hu
    exact (ss_cons (s_set (i := 2) sc_Web_ring.nd rfl (by first | exact Or.inl rfl | exact Or.inr rfl) (r_methD D_Web_known_lay_turns (by decide) hr (B.cls _ (by decide)) (r_var (L2.pv 0)) (r_cons (r_var (L2.pv 1)) r_nil) (by decide +kernel)))
 (ss_cons (s_set (i := 3) sc_Web_ring.nd rfl (by first | exact Or.inl rfl | exact Or.inr rfl) (r_comp (N := ["h", "turns"]) [none, some 2] rfl (⟨rfl, rfl, by decide +kernel, by decide +kernel, (fa_cons rfl fa_nil), (fa_cons (fun h => nomatch h) (fa_cons (fun h => nomatch h) (fa_cons (fun _ => rfl) fa_nil)))⟩) (.own (.free rfl (by first | exact Or.inl rfl | exact Or.inr rfl) (by first | exact Or.inl rfl | exact Or.inr (Or.inl rfl) | exact Or.inr (Or.inr rfl)) rfl (by first | exact Or.inl rfl | exact Or.inr rfl) .nil)) (i_rng1 rfl B.b_range (r_fld (r_var (L2.pv 0)) (i := 0) rfl (by decide) B.cls (fun c => B.na c 0 (by decide)))) (fun _ _ _ _ => (g_name (L2.pg_name (i := 0) (show List.Nodup (["h", "turns"] : List Str) from by decide +kernel) rfl (by first | exact Or.inl rfl | exact Or.inr rfl)))) (fun _ _ _ _ => (ts_one (r_tdnotin hu1 (r_var (L2.pv 0)) (r_var (L2.pv 1))))) (fun _ _ _ _ => (r_var (L2.pv 0)))))
 (ss_cons (s_if (r_tcmp (op_eqP hu) ok_eq (r_var (L2.pv 3)) (r_lst r_nil) (L2.nomark _))
 (ss_one (s_ret r_non))
 ss_nil)
 (ss_cons (s_set (i := 4) sc_Web_ring.nd rfl (by first | exact Or.inl rfl | exact Or.inr rfl) (r_lst (r_cons (r_ix (r_var (L2.pv 3)) r_int (fun _ _ => rfl)) r_nil)))
 (ss_cons (s_while PassesOwn.never (r_tcmp (op_eqP hu) ok_eq (r_count (r_var (L2.pv 4)) (r_ix (r_var (L2.pv 4)) r_int (fun _ _ => rfl))) r_int (L2.nomark _))
 (ss_cons (s_comp (N := ["giver", "unknown"]) [none, some 3] rfl (⟨rfl, rfl, by decide +kernel, by decide +kernel, (fa_cons rfl fa_nil), (fa_cons (fun h => nomatch h) (fa_cons (fun h => nomatch h) (fa_cons (fun _ => rfl) fa_nil)))⟩) (.own (.free rfl (by first | exact Or.inl rfl | exact Or.inr rfl) (by first | exact Or.inl rfl | exact Or.inr (Or.inl rfl) | exact Or.inr (Or.inr rfl)) rfl (by first | exact Or.inl rfl | exact Or.inr rfl) .nil)) (i_seq (r_methD D_Web_givers_of (by decide) hr (B.cls _ (by decide)) (r_var (L2.pv 0)) (r_cons (r_ix (r_var (L2.pv 4)) r_int (fun _ _ => rfl)) r_nil) (by decide +kernel))) (fun _ _ _ _ => (g_name (L2.pg_name (i := 0) (show List.Nodup (["giver", "unknown"] : List Str) from by decide +kernel) rfl (by first | exact Or.inl rfl | exact Or.inr rfl)))) (fun _ _ _ _ => (ts_one (r_tcmp (op_inP hu) ok_in (r_var (L2.pv 0)) (r_var (L2.pv 1)) (by rfl)))) (fun _ _ _ _ => (r_var (L2.pv 0))) (i := 5) sc_Web_ring.nd rfl (by first | exact Or.inl rfl | exact Or.inr rfl))
 (ss_one (s_expr (r_insert (r_var (L2.pv 4)) r_int (r_ix (r_var (L2.pv 5)) r_int (fun _ _ => rfl)))))))
 (ss_one (s_ret (r_cut (r_var (L2.pv 4)) r_lno (r_lat (r_index1 (r_var (L2.pv 4)) (r_ix (r_var (L2.pv 4)) r_int (fun _ _ => rfl)) r_int))))))))))
theorem sc_Web_lay_turns : L2.FnScope ["self", "leaders", "turns"] ["self", "leaders"] (L2.defScope (L2.inClass (top 12) 6)) := ⟨rfl, rfl, rfl, by decide +kernel, rfl, by decide +kernel, by decide +kernel⟩
set_option maxHeartbeats 4000000 in
theorem ok_Web_lay_turns {fa : Addr} {fd : FuncData} (B : Base K mg cm) (D_Web_known_lay_turns : MDef P w K mg base cm 0 "known_lay_turns" 2 ["self", "leaders"] f_Web_known_lay_turns 2) (F : L2.Fun K "lay_turns" "Web.lay_turns" (L2.inClass (top 12) 6) fa fd) : L2.FnOk P w K mg base L2.CX0 3 fa fd ["self", "leaders"] (SpF K cm f_Web_lay_turns 2) :=
  fn_ok F sc_Web_lay_turns fun cdv A outer s0 H E hr => by
    have hu := hr.units
    have hu1 := Nat.lt_of_le_of_lt (Nat.add_le_add_left (show 1 ≤ 64 by decide) _) hu
    exact (ss_cons (s_set (i := 2) sc_Web_lay_turns.nd rfl (by first | exact Or.inl rfl | exact Or.inr rfl) (r_methD D_Web_known_lay_turns (by decide) hr (B.cls _ (by decide)) (r_var (L2.pv 0)) (r_cons (r_var (L2.pv 1)) r_nil) (by decide +kernel)))
 (ss_cons (s_if (r_tcmp L2.op_lt ok_lt (r_lenD (r_var (L2.pv 2)) rfl B.b_len) (r_fld (r_var (L2.pv 0)) (i := 0) rfl (by decide) B.cls (fun c => B.na c 0 (by decide))) (L2.nomark _))
 (ss_one (s_ret r_non))
 ss_nil)
 (ss_one (s_ret (r_comp (N := ["h", "turns"]) [none, some 2] rfl (⟨rfl, rfl, by decide +kernel, by decide +kernel, (fa_cons rfl fa_nil), (fa_cons (fun h => nomatch h) (fa_cons (fun h => nomatch h) (fa_cons (fun _ => rfl) fa_nil)))⟩) (.own (.free rfl (by first | exact Or.inl rfl | exact Or.inr rfl) (by first | exact Or.inl rfl | exact Or.inr (Or.inl rfl) | exact Or.inr (Or.inr rfl)) rfl (by first | exact Or.inl rfl | exact Or.inr rfl) .nil)) (i_rng1 rfl B.b_range (r_fld (r_var (L2.pv 0)) (i := 0) rfl (by decide) B.cls (fun c => B.na c 0 (by decide)))) (fun _ _ _ _ => (g_name (L2.pg_name (i := 0) (show List.Nodup (["h", "turns"] : List Str) from by decide +kernel) rfl (by first | exact Or.inl rfl | exact Or.inr rfl)))) (fun _ _ _ _ => ts_nil) (fun _ _ _ _ => (r_dget hu1 (r_var (L2.pv 1)) (r_var (L2.pv 0)) (fun _ _ => rfl))))))))
theorem sc_least_leaders : L2.FnScope ["web", "lists", "shorter"] ["web"] (L2.defScope (top 14)) := ⟨rfl, rfl, rfl, by decide +kernel, rfl, by decide +kernel, by decide +kernel⟩
set_option maxHeartbeats 4000000 in
theorem ok_least_leaders {fa : Addr} {fd : FuncData} (B : Base K mg cm) (D_Web_ring : MDef P w K mg base cm 0 "ring" 3 ["self", "leaders"] f_Web_ring 2) (F : L2.Fun K "least_leaders" "least_leaders" (top 14) fa fd) : L2.FnOk P w K mg base L2.CX0 4 fa fd ["web"] (SpF K cm f_least_leaders 1) :=
  fn_ok F sc_least_leaders fun cdv A outer s0 H E hr => by
    have hu := hr.units
    have hu1 := Nat.lt_of_le_of_lt (Nat.add_le_add_left (show 1 ≤ 64 by decide) _) hu
    exact (ss_cons (s_comp (N := ["h"]) [none] rfl (⟨rfl, rfl, by decide +kernel, by decide +kernel, fa_nil, (fa_cons (fun h => nomatch h) (fa_cons (fun h => nomatch h) fa_nil))⟩) (.own .nil) (i_rng1 rfl B.b_range (r_fld (r_var (L2.pv 0)) (i := 0) rfl (by decide) B.cls (fun c => B.na c 0 (by decide)))) (fun _ _ _ _ => (g_name (L2.pg_name (i := 0) (show List.Nodup (["h"] : List Str) from by decide +kernel) rfl (by first | exact Or.inl rfl | exact Or.inr rfl)))) (fun _ _ _ _ => ts_nil) (fun _ _ _ _ => (r_lst (r_cons (r_var (L2.pv 0)) r_nil))) (i := 1) sc_least_leaders.nd rfl (by first | exact Or.inl rfl | exact Or.inr rfl))
 (ss_cons (s_while PassesOwn.never (r_tnotN (r_methD D_Web_ring (by decide) hr (B.cls _ (by decide)) (r_var (L2.pv 0)) (r_cons (r_ix (r_var (L2.pv 1)) r_int (fun _ _ => rfl)) r_nil) (by decide +kernel)))
 (ss_cons (s_set (i := 2) sc_least_leaders.nd rfl (by first | exact Or.inl rfl | exact Or.inr rfl) (r_pop0 (r_var (L2.pv 1)) r_int))
 (ss_one (s_expr (r_extend (r_var (L2.pv 1)) (r_comp (N := ["h", "shorter"]) [none, some 2] rfl (⟨rfl, rfl, by decide +kernel, by decide +kernel, (fa_cons rfl fa_nil), (fa_cons (fun h => nomatch h) (fa_cons (fun h => nomatch h) (fa_cons (fun _ => rfl) fa_nil)))⟩) (.own (.free rfl (by first | exact Or.inl rfl | exact Or.inr rfl) (by first | exact Or.inl rfl | exact Or.inr (Or.inl rfl) | exact Or.inr (Or.inr rfl)) rfl (by first | exact Or.inl rfl | exact Or.inr rfl) .nil)) (i_rng2 rfl B.b_range (r_bin op_add3 ok_add (r_ix (r_var (L2.pv 2)) r_neg (fun _ _ => rfl)) r_int) (r_fld (r_var (L2.pv 0)) (i := 0) rfl (by decide) B.cls (fun c => B.na c 0 (by decide)))) (fun _ _ _ _ => (g_name (L2.pg_name (i := 0) (show List.Nodup (["h", "shorter"] : List Str) from by decide +kernel) rfl (by first | exact Or.inl rfl | exact Or.inr rfl)))) (fun _ _ _ _ => ts_nil) (fun _ _ _ _ => (r_bin op_add3 ok_add (r_var (L2.pv 1)) (r_lst (r_cons (r_var (L2.pv 0)) r_nil))))))))))
 (ss_one (s_ret (r_ix (r_var (L2.pv 1)) r_int (fun _ _ => rfl))))))
theorem sc_span : L2.FnScope ["web", "leaders"] ["web", "leaders"] (L2.defScope (top 15)) := ⟨rfl, rfl, rfl, by decide +kernel, rfl, by decide +kernel, by decide +kernel⟩
set_option maxHeartbeats 4000000 in
theorem ok_span {fa : Addr} {fd : FuncData} (B : Base K mg cm) (D_Web_lay_turns : MDef P w K mg base cm 0 "lay_turns" 3 ["self", "leaders"] f_Web_lay_turns 2) (F : L2.Fun K "span" "span" (top 15) fa fd) : L2.FnOk P w K mg base L2.CX0 4 fa fd ["web", "leaders"] (SpF K cm f_span 2) :=
  fn_ok F sc_span fun cdv A outer s0 H E hr => by
    have hu := hr.units
    have hu1 := Nat.lt_of_le_of_lt (Nat.add_le_add_left (show 1 ≤ 64 by decide) _) hu
    exact (ss_one (s_ret (r_max rfl (r_methD D_Web_lay_turns (by decide) hr (B.cls _ (by decide)) (r_var (L2.pv 0)) (r_cons (r_var (L2.pv 1)) r_nil) (by decide +kernel)) rfl B.b_max)))
theorem sc_law_cell_at : L2.FnScope ["_law_script", "_law_k"] ["_law_script", "_law_k"] (L2.defScope (top 17)) := ⟨rfl, rfl, rfl, by decide +kernel, rfl, by decide +kernel, by decide +kernel⟩
set_option maxHeartbeats 4000000 in
theorem ok_law_cell_at {fa : Addr} {fd : FuncData} (B : Base K mg cm) (F : L2.Fun K "_law_cell_at" "_law_cell_at" (top 17) fa fd) : L2.FnOk P w K mg base L2.CX0 1 fa fd ["_law_script", "_law_k"] (SpF K cm f_law_cell_at 2) :=
  fn_ok F sc_law_cell_at fun cdv A outer s0 H E hr => by
    have hu := hr.units
    have hu1 := Nat.lt_of_le_of_lt (Nat.add_le_add_left (show 1 ≤ 64 by decide) _) hu
    exact (ss_cons (s_if (r_tcmp L2.op_lt ok_lt (r_var (L2.pv 1)) (r_len (r_var (L2.pv 0)) rfl B.b_len) (L2.nomark _))
 (ss_one (s_ret (r_ix (r_var (L2.pv 0)) (r_var (L2.pv 1)) (fun _ _ => rfl))))
 ss_nil)
 (ss_one (s_ret r_int)))
theorem sc_law_web : L2.FnScope ["_law_first", "_law_second", "_law_third", "_law_number", "_law_bits_here", "_law_found", "_law_giver", "_law_taker", "_law_step", "_law_order", "_law_k", "_law_one"] ["_law_first", "_law_second", "_law_third"] (L2.defScope (top 18)) := ⟨rfl, rfl, rfl, by decide +kernel, rfl, by decide +kernel, by decide +kernel⟩
set_option maxHeartbeats 4000000 in
theorem ok_law_web {fa : Addr} {fd : FuncData} (B : Base K mg cm) (F : L2.Fun K "_law_web" "_law_web" (top 18) fa fd) : L2.FnOk P w K mg base L2.CX0 1 fa fd ["_law_first", "_law_second", "_law_third"] (SpF K cm f_law_web 3) :=
  fn_ok F sc_law_web fun cdv A outer s0 H E hr => by
    have hu := hr.units
    have hu1 := Nat.lt_of_le_of_lt (Nat.add_le_add_left (show 1 ≤ 64 by decide) _) hu
    exact (ss_cons (s_set (i := 3) sc_law_web.nd rfl (by first | exact Or.inl rfl | exact Or.inr rfl) (r_bin op_add3 ok_add r_int (r_bin L2.op_mod ok_mod (r_var (L2.pv 0)) r_int)))
 (ss_cons (s_set (i := 4) sc_law_web.nd rfl (by first | exact Or.inl rfl | exact Or.inr rfl) (r_var (L2.pv 1)))
 (ss_cons (s_if (r_tcmp L2.op_gt ok_gt (r_bin L2.op_mod ok_mod (r_bin L2.op_fdiv ok_fdiv (r_var (L2.pv 0)) r_int) r_int) r_int (L2.nomark _))
 (ss_cons (s_set (i := 4) sc_law_web.nd rfl (by first | exact Or.inl rfl | exact Or.inr rfl) (r_bin L2.op_mod ok_mod (r_bin L2.op_mul ok_mul (r_bin op_add3 ok_add (r_var (L2.pv 1)) r_int) r_int) r_int))
 (ss_one (s_set (i := 4) sc_law_web.nd rfl (by first | exact Or.inl rfl | exact Or.inr rfl) (r_bin L2.op_mod ok_mod (r_bin L2.op_mul ok_mul (r_var (L2.pv 4)) (r_bin op_add3 ok_add (r_bin L2.op_fdiv ok_fdiv (r_var (L2.pv 4)) r_int) r_int)) r_int))))
 ss_nil)
 (ss_cons (s_if (r_tcmp (op_eqP hu) ok_eq (r_bin L2.op_mod ok_mod (r_bin L2.op_fdiv ok_fdiv (r_var (L2.pv 0)) r_int) r_int) r_int (L2.nomark _))
 (ss_one (s_set (i := 4) sc_law_web.nd rfl (by first | exact Or.inl rfl | exact Or.inr rfl) (r_bin L2.op_and ok_and (r_var (L2.pv 4)) (r_bin L2.op_shr ok_shr (r_var (L2.pv 4)) r_int))))
 ss_nil)
 (ss_cons (s_set (i := 5) sc_law_web.nd rfl (by first | exact Or.inl rfl | exact Or.inr rfl) (r_lst r_nil))
 (ss_cons (s_for PassesOwn.never rfl (i_rng1 rfl B.b_range (r_var (L2.pv 3))) (g_name (L2.pg_name (i := 6) sc_law_web.nd rfl (by first | exact Or.inl rfl | exact Or.inr rfl)))
 (ss_one (s_for PassesOwn.never rfl (i_rng1 rfl B.b_range (r_var (L2.pv 3))) (g_name (L2.pg_name (i := 7) sc_law_web.nd rfl (by first | exact Or.inl rfl | exact Or.inr rfl)))
 (ss_one (s_if (L2.PW.pt (r_tand (r_tcmp (op_neP hu) ok_ne (r_var (L2.pv 6)) (r_var (L2.pv 7)) (L2.nomark _)) (r_tand1 (r_tcmp (op_eqP hu) ok_eq (r_bin L2.op_and ok_and (r_bin L2.op_shr ok_shr (r_var (L2.pv 4)) (r_bin op_add3 ok_add (r_bin L2.op_mul ok_mul (r_var (L2.pv 6)) r_int) (r_var (L2.pv 7)))) r_int) r_int (L2.nomark _)))))
 (ss_one (s_expr (r_append (r_var (L2.pv 5)) (r_tup (r_cons (r_var (L2.pv 6)) (r_cons (r_var (L2.pv 7)) r_nil))))))
 ss_nil)))))
 (ss_cons (s_if (r_tcmp L2.op_gt ok_gt (r_bin L2.op_mod ok_mod (r_bin L2.op_fdiv ok_fdiv (r_var (L2.pv 0)) r_int) r_int) r_int (L2.nomark _))
 (ss_cons (s_set (i := 8) sc_law_web.nd rfl (by first | exact Or.inl rfl | exact Or.inr rfl) (r_var (L2.pv 2)))
 (ss_cons (s_set (i := 9) sc_law_web.nd rfl (by first | exact Or.inl rfl | exact Or.inr rfl) (r_listRng rfl (r_var (L2.pv 3)) rfl B.b_list rfl B.b_range))
 (ss_cons (s_for PassesOwn.never rfl (i_rng1 rfl B.b_range (r_var (L2.pv 3))) (g_name (L2.pg_name (i := 10) sc_law_web.nd rfl (by first | exact Or.inl rfl | exact Or.inr rfl)))
 (ss_cons (s_expr (r_append (r_var (L2.pv 9)) (r_popI (r_var (L2.pv 9)) (r_bin L2.op_mod ok_mod (r_var (L2.pv 8)) (r_bin L2.op_sub ok_sub (r_var (L2.pv 3)) (r_var (L2.pv 10)))))))
 (ss_one (s_set (i := 8) sc_law_web.nd rfl (by first | exact Or.inl rfl | exact Or.inr rfl) (r_bin L2.op_fdiv ok_fdiv (r_var (L2.pv 8)) r_int)))))
 (ss_one (s_for PassesOwn.never rfl (i_rng1 rfl B.b_range (r_var (L2.pv 3))) (g_name (L2.pg_name (i := 10) sc_law_web.nd rfl (by first | exact Or.inl rfl | exact Or.inr rfl)))
 (ss_cons (s_set (i := 11) sc_law_web.nd rfl (by first | exact Or.inl rfl | exact Or.inr rfl) (r_tup (r_cons (r_ix (r_var (L2.pv 9)) (r_bin L2.op_sub ok_sub (r_var (L2.pv 10)) r_int) (fun _ _ => rfl)) (r_cons (r_ix (r_var (L2.pv 9)) (r_var (L2.pv 10)) (fun _ _ => rfl)) r_nil))))
 (ss_one (s_if (r_tcmp (op_notInP hu) ok_notIn (r_var (L2.pv 11)) (r_var (L2.pv 5)) (by rfl))
 (ss_one (s_expr (r_append (r_var (L2.pv 5)) (r_var (L2.pv 11)))))
 ss_nil))))))))
 ss_nil)
 (ss_one (s_ret (r_tup (r_cons (r_var (L2.pv 3)) (r_cons (r_var (L2.pv 5)) r_nil))))))))))))
theorem sc_law_turns : L2.FnScope ["_law_number", "_law_passings", "_law_leaders", "_law_turns_here", "_law_grown", "_law_hand", "_law_givers"] ["_law_number", "_law_passings", "_law_leaders"] (L2.defScope (top 19)) := ⟨rfl, rfl, rfl, by decide +kernel, rfl, by decide +kernel, by decide +kernel⟩
set_option maxHeartbeats 4000000 in
theorem ok_law_turns {fa : Addr} {fd : FuncData} (B : Base K mg cm) (F : L2.Fun K "_law_turns" "_law_turns" (top 19) fa fd) : L2.FnOk P w K mg base L2.CX0 1 fa fd ["_law_number", "_law_passings", "_law_leaders"] (SpF K cm f_law_turns 3) :=
  fn_ok F sc_law_turns fun cdv A outer s0 H E hr => by
    have hu := hr.units
    have hu1 := Nat.lt_of_le_of_lt (Nat.add_le_add_left (show 1 ≤ 64 by decide) _) hu
    exact (ss_cons (s_set (i := 3) sc_law_turns.nd rfl (by first | exact Or.inl rfl | exact Or.inr rfl) (r_dictOf rfl (r_comp (N := ["_law_hand"]) [none] rfl (⟨rfl, rfl, by decide +kernel, by decide +kernel, fa_nil, (fa_cons (fun h => nomatch h) (fa_cons (fun h => nomatch h) fa_nil))⟩) (.own .nil) (i_seq (r_var (L2.pv 2))) (fun _ _ _ _ => (g_name (L2.pg_name (i := 0) (show List.Nodup (["_law_hand"] : List Str) from by decide +kernel) rfl (by first | exact Or.inl rfl | exact Or.inr rfl)))) (fun _ _ _ _ => ts_nil) (fun _ _ _ _ => (r_tup (r_cons (r_var (L2.pv 0)) (r_cons r_int r_nil))))) rfl B.b_dict))
 (ss_cons (s_set (i := 4) sc_law_turns.nd rfl (by first | exact Or.inl rfl | exact Or.inr rfl) r_bl)
 (ss_cons (s_while PassesOwn.never (r_tval (r_var (L2.pv 4)))
 (ss_cons (s_set (i := 4) sc_law_turns.nd rfl (by first | exact Or.inl rfl | exact Or.inr rfl) r_bl)
 (ss_one (s_for PassesOwn.never rfl (i_rng1 rfl B.b_range (r_var (L2.pv 0))) (g_name (L2.pg_name (i := 5) sc_law_turns.nd rfl (by first | exact Or.inl rfl | exact Or.inr rfl)))
 (ss_cons (s_comp (N := ["_law_giver", "_law_taker", "_law_hand"]) [none, none, some 5] rfl (⟨rfl, rfl, by decide +kernel, by decide +kernel, (fa_cons rfl fa_nil), (fa_cons (fun h => nomatch h) (fa_cons (fun h => nomatch h) (fa_cons (fun h => nomatch h) (fa_cons (fun _ => rfl) fa_nil))))⟩) (.own (.own (.free rfl (by first | exact Or.inl rfl | exact Or.inr rfl) (by first | exact Or.inl rfl | exact Or.inr (Or.inl rfl) | exact Or.inr (Or.inr rfl)) rfl (by first | exact Or.inl rfl | exact Or.inr rfl) .nil))) (i_seq (r_var (L2.pv 1))) (fun _ _ _ _ => (g_tup rfl (g_cons (g_name (L2.pg_name (i := 0) (show List.Nodup (["_law_giver", "_law_taker", "_law_hand"] : List Str) from by decide +kernel) rfl (by first | exact Or.inl rfl | exact Or.inr rfl))) (g_cons (g_name (L2.pg_name (i := 1) (show List.Nodup (["_law_giver", "_law_taker", "_law_hand"] : List Str) from by decide +kernel) rfl (by first | exact Or.inl rfl | exact Or.inr rfl))) g_nil)))) (fun _ _ _ _ => (ts_one (r_tcmp (op_eqP hu) ok_eq (r_var (L2.pv 1)) (r_var (L2.pv 2)) (L2.nomark _)))) (fun _ _ _ _ => (r_var (L2.pv 0))) (i := 6) sc_law_turns.nd rfl (by first | exact Or.inl rfl | exact Or.inr rfl))
 (ss_one (s_if (L2.PW.pt (r_tand (r_tdnotin hu1 (r_var (L2.pv 5)) (r_var (L2.pv 3))) (r_tand1 (r_tcmp (op_eqP hu) ok_eq (r_comp (N := ["_law_giver", "_law_turns_here"]) [none, some 3] rfl (⟨rfl, rfl, by decide +kernel, by decide +kernel, (fa_cons rfl fa_nil), (fa_cons (fun h => nomatch h) (fa_cons (fun h => nomatch h) (fa_cons (fun _ => rfl) fa_nil)))⟩) (.own (.free rfl (by first | exact Or.inl rfl | exact Or.inr rfl) (by first | exact Or.inl rfl | exact Or.inr (Or.inl rfl) | exact Or.inr (Or.inr rfl)) rfl (by first | exact Or.inl rfl | exact Or.inr rfl) .nil)) (i_seq (r_var (L2.pv 6))) (fun _ _ _ _ => (g_name (L2.pg_name (i := 0) (show List.Nodup (["_law_giver", "_law_turns_here"] : List Str) from by decide +kernel) rfl (by first | exact Or.inl rfl | exact Or.inr rfl)))) (fun _ _ _ _ => (ts_one (r_tdnotin hu1 (r_var (L2.pv 0)) (r_var (L2.pv 1))))) (fun _ _ _ _ => (r_var (L2.pv 0)))) (r_lst r_nil) (L2.nomark _)))))
 (ss_cons (s_dput hu1 (r_var (L2.pv 3)) (r_var (L2.pv 5)) (r_bin op_add3 ok_add r_int (r_max rfl (r_bin op_add3 ok_add (r_lst (r_cons r_int r_nil)) (r_comp (N := ["_law_giver", "_law_turns_here"]) [none, some 3] rfl (⟨rfl, rfl, by decide +kernel, by decide +kernel, (fa_cons rfl fa_nil), (fa_cons (fun h => nomatch h) (fa_cons (fun h => nomatch h) (fa_cons (fun _ => rfl) fa_nil)))⟩) (.own (.free rfl (by first | exact Or.inl rfl | exact Or.inr rfl) (by first | exact Or.inl rfl | exact Or.inr (Or.inl rfl) | exact Or.inr (Or.inr rfl)) rfl (by first | exact Or.inl rfl | exact Or.inr rfl) .nil)) (i_seq (r_var (L2.pv 6))) (fun _ _ _ _ => (g_name (L2.pg_name (i := 0) (show List.Nodup (["_law_giver", "_law_turns_here"] : List Str) from by decide +kernel) rfl (by first | exact Or.inl rfl | exact Or.inr rfl)))) (fun _ _ _ _ => ts_nil) (fun _ _ _ _ => (r_dget hu1 (r_var (L2.pv 1)) (r_var (L2.pv 0)) (fun _ _ => rfl))))) rfl B.b_max)))
 (ss_one (s_set (i := 4) sc_law_turns.nd rfl (by first | exact Or.inl rfl | exact Or.inr rfl) r_bl)))
 ss_nil)))))))
 (ss_one (s_ret (r_var (L2.pv 3)))))))
theorem sc_law_bits : L2.FnScope ["_law_number", "_law_bits_here"] ["_law_number", "_law_bits_here"] (L2.defScope (top 20)) := ⟨rfl, rfl, rfl, by decide +kernel, rfl, by decide +kernel, by decide +kernel⟩
set_option maxHeartbeats 4000000 in
theorem ok_law_bits {fa : Addr} {fd : FuncData} (B : Base K mg cm) (F : L2.Fun K "_law_bits" "_law_bits" (top 20) fa fd) : L2.FnOk P w K mg base L2.CX0 1 fa fd ["_law_number", "_law_bits_here"] (SpF K cm f_law_bits 2) :=
  fn_ok F sc_law_bits fun cdv A outer s0 H E hr => by
    have hu := hr.units
    have hu1 := Nat.lt_of_le_of_lt (Nat.add_le_add_left (show 1 ≤ 64 by decide) _) hu
    exact (ss_one (s_ret (r_comp (N := ["_law_hand", "_law_bits_here"]) [none, some 1] rfl (⟨rfl, rfl, by decide +kernel, by decide +kernel, (fa_cons rfl fa_nil), (fa_cons (fun h => nomatch h) (fa_cons (fun h => nomatch h) (fa_cons (fun _ => rfl) fa_nil)))⟩) (.own (.free rfl (by first | exact Or.inl rfl | exact Or.inr rfl) (by first | exact Or.inl rfl | exact Or.inr (Or.inl rfl) | exact Or.inr (Or.inr rfl)) rfl (by first | exact Or.inl rfl | exact Or.inr rfl) .nil)) (i_rng1 rfl B.b_range (r_var (L2.pv 0))) (fun _ _ _ _ => (g_name (L2.pg_name (i := 0) (show List.Nodup (["_law_hand", "_law_bits_here"] : List Str) from by decide +kernel) rfl (by first | exact Or.inl rfl | exact Or.inr rfl)))) (fun _ _ _ _ => (ts_one (r_tcmp (op_eqP hu) ok_eq (r_bin L2.op_and ok_and (r_bin L2.op_shr ok_shr (r_var (L2.pv 1)) (r_var (L2.pv 0))) r_int) r_int (L2.nomark _)))) (fun _ _ _ _ => (r_var (L2.pv 0))))))
theorem sc_law : L2.FnScope ["_law_script", "_law_number", "_law_passings", "_law_web_here", "_law_told", "_law_found", "_law_bits_here", "_law_other", "_law_some", "_law_turns_here"] ["_law_script"] (L2.defScope (top 21)) := ⟨rfl, rfl, rfl, by decide +kernel, rfl, by decide +kernel, by decide +kernel⟩
set_option maxHeartbeats 4000000 in
theorem ok_law {fa : Addr} {fd : FuncData} (B : Base K mg cm) (D_law_web : Def P w K mg base cm "_law_web" 1 ["_law_first", "_law_second", "_law_third"] f_law_web 3) (D_law_cell_at : Def P w K mg base cm "_law_cell_at" 1 ["_law_script", "_law_k"] f_law_cell_at 2) (D_Web_init : CDef P w K mg base cm 0 "Web" 5 ["self", "number", "passings"] f_Web_init 3) (D_least_leaders : Def P w K mg base cm "least_leaders" 4 ["web"] f_least_leaders 1) (D_law_turns : Def P w K mg base cm "_law_turns" 1 ["_law_number", "_law_passings", "_law_leaders"] f_law_turns 3) (D_law_bits : Def P w K mg base cm "_law_bits" 1 ["_law_number", "_law_bits_here"] f_law_bits 2) (D_span : Def P w K mg base cm "span" 4 ["web", "leaders"] f_span 2) (F : L2.Fun K "law" "law" (top 21) fa fd) : L2.FnOk P w K mg base L2.CX0 7 fa fd ["_law_script"] (SpF K cm f_law 1) :=
  fn_ok F sc_law fun cdv A outer s0 H E hr => by
    have hu := hr.units
    have hu1 := Nat.lt_of_le_of_lt (Nat.add_le_add_left (show 1 ≤ 64 by decide) _) hu
    exact (ss_cons (s_asg (r_callD D_law_web (by decide) hr rfl (r_cons (r_callD D_law_cell_at (by decide) hr rfl (r_cons (r_var (L2.pv 0)) (r_cons r_int r_nil))) (r_cons (r_callD D_law_cell_at (by decide) hr rfl (r_cons (r_var (L2.pv 0)) (r_cons r_int r_nil))) (r_cons (r_callD D_law_cell_at (by decide) hr rfl (r_cons (r_var (L2.pv 0)) (r_cons r_int r_nil))) r_nil)))) (g_tup rfl (g_cons (g_name (L2.pg_name (i := 1) sc_law.nd rfl (by first | exact Or.inl rfl | exact Or.inr rfl))) (g_cons (g_name (L2.pg_name (i := 2) sc_law.nd rfl (by first | exact Or.inl rfl | exact Or.inr rfl))) g_nil))))
 (ss_cons (s_set (i := 3) sc_law.nd rfl (by first | exact Or.inl rfl | exact Or.inr rfl) (r_makeD D_Web_init (by decide) hr rfl (r_cons (r_var (L2.pv 1)) (r_cons (r_listOf (r_var (L2.pv 2)) rfl B.b_list PyProof.Rows.boot_list) r_nil))))
 (ss_cons (s_set (i := 4) sc_law.nd rfl (by first | exact Or.inl rfl | exact Or.inr rfl) (r_callD D_least_leaders (by decide) hr rfl (r_cons (r_var (L2.pv 3)) r_nil)))
 (ss_cons (s_set (i := 5) sc_law.nd rfl (by first | exact Or.inl rfl | exact Or.inr rfl) (r_listOf (r_var (L2.pv 4)) rfl B.b_list PyProof.Rows.boot_list))
 (ss_cons (s_if (L2.PW.pt (r_tor (r_tnot (r_tval (r_isA (t := .list) B.kit (r_var (L2.pv 4)) rfl B.b_isinstance rfl B.b_list PyProof.Rows.boot_list))) (r_tor1 (r_tcmp (op_neP hu) ok_ne (r_lenD (r_callD D_law_turns (by decide) hr rfl (r_cons (r_var (L2.pv 1)) (r_cons (r_var (L2.pv 2)) (r_cons (r_var (L2.pv 5)) r_nil)))) rfl B.b_len) (r_var (L2.pv 1)) (L2.nomark _)))))
 (ss_one (s_ret r_bl))
 ss_nil)
 (ss_cons (s_expr (r_append (r_var (L2.pv 4)) r_int))
 (ss_cons (s_if (r_tcmp (op_neP hu) ok_ne (r_callD D_least_leaders (by decide) hr rfl (r_cons (r_var (L2.pv 3)) r_nil)) (r_var (L2.pv 5)) (L2.nomark _))
 (ss_one (s_ret r_bl))
 ss_nil)
 (ss_cons (s_for PassesOwn.never rfl (i_rng2 rfl B.b_range r_int (r_bin L2.op_shl ok_shl r_int (r_var (L2.pv 1)))) (g_name (L2.pg_name (i := 6) sc_law.nd rfl (by first | exact Or.inl rfl | exact Or.inr rfl)))
 (ss_cons (s_set (i := 7) sc_law.nd rfl (by first | exact Or.inl rfl | exact Or.inr rfl) (r_callD D_law_bits (by decide) hr rfl (r_cons (r_var (L2.pv 1)) (r_cons (r_var (L2.pv 6)) r_nil))))
 (ss_one (s_if (L2.PW.pt (r_tand (r_tcmp (op_ltL hu) ok_ltL (r_tup (r_cons (r_len (r_var (L2.pv 7)) rfl B.b_len) (r_cons (r_var (L2.pv 7)) r_nil))) (r_tup (r_cons (r_len (r_var (L2.pv 5)) rfl B.b_len) (r_cons (r_var (L2.pv 5)) r_nil))) (L2.nomark _)) (r_tand1 (r_tcmp (op_eqP hu) ok_eq (r_lenD (r_callD D_law_turns (by decide) hr rfl (r_cons (r_var (L2.pv 1)) (r_cons (r_var (L2.pv 2)) (r_cons (r_var (L2.pv 7)) r_nil)))) rfl B.b_len) (r_var (L2.pv 1)) (L2.nomark _)))))
 (ss_one (s_ret r_bl))
 ss_nil))))
 (ss_cons (s_if (r_tcmp (op_neP hu) ok_ne (r_callD D_span (by decide) hr rfl (r_cons (r_var (L2.pv 3)) (r_cons (r_var (L2.pv 5)) r_nil))) (r_maxV rfl (r_callD D_law_turns (by decide) hr rfl (r_cons (r_var (L2.pv 1)) (r_cons (r_var (L2.pv 2)) (r_cons (r_var (L2.pv 5)) r_nil)))) rfl B.b_max) (L2.nomark _))
 (ss_one (s_ret r_bl))
 ss_nil)
 (ss_cons (s_set (i := 8) sc_law.nd rfl (by first | exact Or.inl rfl | exact Or.inr rfl) (r_callD D_law_bits (by decide) hr rfl (r_cons (r_var (L2.pv 1)) (r_cons (r_callD D_law_cell_at (by decide) hr rfl (r_cons (r_var (L2.pv 0)) (r_cons r_int r_nil))) r_nil))))
 (ss_cons (s_set (i := 9) sc_law.nd rfl (by first | exact Or.inl rfl | exact Or.inr rfl) (r_callD D_law_turns (by decide) hr rfl (r_cons (r_var (L2.pv 1)) (r_cons (r_var (L2.pv 2)) (r_cons (r_var (L2.pv 8)) r_nil)))))
 (ss_one (s_ret (r_or (r_cmp (op_neP hu) ok_ne (r_lenD (r_var (L2.pv 9)) rfl B.b_len) (r_var (L2.pv 1)) (L2.nomark _)) (r_or1 (r_cmp (op_eqP hu) ok_eq (r_callD D_span (by decide) hr rfl (r_cons (r_var (L2.pv 3)) (r_cons (r_var (L2.pv 8)) r_nil))) (r_maxV rfl (r_var (L2.pv 9)) rfl B.b_max) (L2.nomark _)))))))))))))))))
end
theorem Web_init_non {vs : List PV} {A A' : PHp} {v : PV} (h : f_Web_init vs A = .ok v A') : v = .non := non_of (nrt_seq (nrt_if nrt_never nrt_pass) (nrt_seq nrt_asg (nrt_seq (nrt_if nrt_never nrt_pass) (nrt_seq nrt_fld nrt_fld)))) h
theorem all_mk {l : PySem.W.OpenLaw} {w : World} {K : PySem.W.Frag} {h : Heap} {mg : Str → Option Value} {fa : Addr} (X : K.In h) (G : h.Ns mainGlobals mg) (hfa : mg "law" = some (.ref fa))
  {C_Web : Addr}
  {f0 : Addr} {od0 an0 : Option Addr} {sl0 : Array (Option Value)} {oc0 kV0 dc0 pm0 cd0 ct0 : Value}
  {f1 : Addr} {od1 an1 : Option Addr} {sl1 : Array (Option Value)} {oc1 kV1 dc1 pm1 cd1 ct1 : Value}
  {f2 : Addr} {od2 an2 : Option Addr} {sl2 : Array (Option Value)} {oc2 kV2 dc2 pm2 cd2 ct2 : Value}
  {f3 : Addr} {od3 an3 : Option Addr} {sl3 : Array (Option Value)} {oc3 kV3 dc3 pm3 cd3 ct3 : Value}
  {f4 : Addr} {od4 an4 : Option Addr} {sl4 : Array (Option Value)} {oc4 kV4 dc4 pm4 cd4 ct4 : Value}
  {f5 : Addr} {od5 an5 : Option Addr} {sl5 : Array (Option Value)} {oc5 kV5 dc5 pm5 cd5 ct5 : Value}
  {f6 : Addr} {od6 an6 : Option Addr} {sl6 : Array (Option Value)} {oc6 kV6 dc6 pm6 cd6 ct6 : Value}
  {f7 : Addr} {od7 an7 : Option Addr} {sl7 : Array (Option Value)} {oc7 kV7 dc7 pm7 cd7 ct7 : Value}
  {f8 : Addr} {od8 an8 : Option Addr} {sl8 : Array (Option Value)} {oc8 kV8 dc8 pm8 cd8 ct8 : Value}
  {f9 : Addr} {od9 an9 : Option Addr} {sl9 : Array (Option Value)} {oc9 kV9 dc9 pm9 cd9 ct9 : Value}
  {f10 : Addr} {od10 an10 : Option Addr} {sl10 : Array (Option Value)} {oc10 kV10 dc10 pm10 cd10 ct10 : Value}
  {f11 : Addr} {od11 an11 : Option Addr} {sl11 : Array (Option Value)} {oc11 kV11 dc11 pm11 cd11 ct11 : Value}
  {f12 : Addr} {od12 an12 : Option Addr} {sl12 : Array (Option Value)} {oc12 kV12 dc12 pm12 cd12 ct12 : Value}
  {f13 : Addr} {od13 an13 : Option Addr} {sl13 : Array (Option Value)} {oc13 kV13 dc13 pm13 cd13 ct13 : Value}
  {f14 : Addr} {od14 an14 : Option Addr} {sl14 : Array (Option Value)} {oc14 kV14 dc14 pm14 cd14 ct14 : Value}
  {f15 : Addr} {od15 an15 : Option Addr} {sl15 : Array (Option Value)} {oc15 kV15 dc15 pm15 cd15 ct15 : Value}
  {f16 : Addr} {od16 an16 : Option Addr} {sl16 : Array (Option Value)} {oc16 kV16 dc16 pm16 cd16 ct16 : Value}
  {t_FEWEST_HANDS : Tok}
  {t_MOST_HANDS : Tok}
  (aC_Web : PySem.W.nsIn K mainGlobals "Web" = some (some (.ref C_Web)))
  (a0 : PySem.W.nsIn K mainGlobals "_law_web" = some (some (.ref f0)))
  (l0 : K.lookup f0 = some ⟨oc0, od0, .func (PySem.W.fnOf "_law_web" "_law_web" (L2.defArgs (top 18)) (L2.defBody (top 18)) (L2.defScope (top 18)) .none kV0 dc0 pm0 an0 cd0 ct0), sl0⟩)
  (c0 : PySem.W.codeIn K cd0 "_law_web" = true)
  (k0 : PySem.W.keepIn K (.ref f0) = true)
  (a1 : PySem.W.nsIn K mainGlobals "_law_cell_at" = some (some (.ref f1)))
  (l1 : K.lookup f1 = some ⟨oc1, od1, .func (PySem.W.fnOf "_law_cell_at" "_law_cell_at" (L2.defArgs (top 17)) (L2.defBody (top 17)) (L2.defScope (top 17)) .none kV1 dc1 pm1 an1 cd1 ct1), sl1⟩)
  (c1 : PySem.W.codeIn K cd1 "_law_cell_at" = true)
  (k1 : PySem.W.keepIn K (.ref f1) = true)
  (a2 : PySem.W.nsIn K mainGlobals "is_whole" = some (some (.ref f2)))
  (l2 : K.lookup f2 = some ⟨oc2, od2, .func (PySem.W.fnOf "is_whole" "is_whole" (L2.defArgs (top 7)) (L2.defBody (top 7)) (L2.defScope (top 7)) .none kV2 dc2 pm2 an2 cd2 ct2), sl2⟩)
  (c2 : PySem.W.codeIn K cd2 "is_whole" = true)
  (k2 : PySem.W.keepIn K (.ref f2) = true)
  (a3 : PySem.W.nsIn K mainGlobals "is_number_of_hands" = some (some (.ref f3)))
  (l3 : K.lookup f3 = some ⟨oc3, od3, .func (PySem.W.fnOf "is_number_of_hands" "is_number_of_hands" (L2.defArgs (top 9)) (L2.defBody (top 9)) (L2.defScope (top 9)) .none kV3 dc3 pm3 an3 cd3 ct3), sl3⟩)
  (c3 : PySem.W.codeIn K cd3 "is_number_of_hands" = true)
  (k3 : PySem.W.keepIn K (.ref f3) = true)
  (a4 : PySem.W.nsIn K mainGlobals "is_hand" = some (some (.ref f4)))
  (l4 : K.lookup f4 = some ⟨oc4, od4, .func (PySem.W.fnOf "is_hand" "is_hand" (L2.defArgs (top 8)) (L2.defBody (top 8)) (L2.defScope (top 8)) .none kV4 dc4 pm4 an4 cd4 ct4), sl4⟩)
  (c4 : PySem.W.codeIn K cd4 "is_hand" = true)
  (k4 : PySem.W.keepIn K (.ref f4) = true)
  (a5 : PySem.W.nsIn K mainGlobals "is_passing" = some (some (.ref f5)))
  (l5 : K.lookup f5 = some ⟨oc5, od5, .func (PySem.W.fnOf "is_passing" "is_passing" (L2.defArgs (top 10)) (L2.defBody (top 10)) (L2.defScope (top 10)) .none kV5 dc5 pm5 an5 cd5 ct5), sl5⟩)
  (c5 : PySem.W.codeIn K cd5 "is_passing" = true)
  (k5 : PySem.W.keepIn K (.ref f5) = true)
  (a6 : PySem.W.nsIn K mainGlobals "first_wrong_passing" = some (some (.ref f6)))
  (l6 : K.lookup f6 = some ⟨oc6, od6, .func (PySem.W.fnOf "first_wrong_passing" "first_wrong_passing" (L2.defArgs (top 11)) (L2.defBody (top 11)) (L2.defScope (top 11)) .none kV6 dc6 pm6 an6 cd6 ct6), sl6⟩)
  (c6 : PySem.W.codeIn K cd6 "first_wrong_passing" = true)
  (k6 : PySem.W.keepIn K (.ref f6) = true)
  (a7 : PySem.W.findIn K (.ref C_Web) "__init__" = some (some (.ref f7)))
  (i7 : PySem.W.isFn K (.ref f7) = true)
  (l7 : K.lookup f7 = some ⟨oc7, od7, .func (PySem.W.fnOf "__init__" "Web.__init__" (L2.defArgs (L2.inClass (top 12) 0)) (L2.defBody (L2.inClass (top 12) 0)) (L2.defScope (L2.inClass (top 12) 0)) .none kV7 dc7 pm7 an7 cd7 ct7), sl7⟩)
  (c7 : PySem.W.codeIn K cd7 "Web.__init__" = true)
  (k7 : PySem.W.keepIn K (.ref f7) = true)
  (a8 : PySem.W.findIn K (.ref C_Web) "givers_of" = some (some (.ref f8)))
  (i8 : PySem.W.isFn K (.ref f8) = true)
  (l8 : K.lookup f8 = some ⟨oc8, od8, .func (PySem.W.fnOf "givers_of" "Web.givers_of" (L2.defArgs (L2.inClass (top 12) 1)) (L2.defBody (L2.inClass (top 12) 1)) (L2.defScope (L2.inClass (top 12) 1)) .none kV8 dc8 pm8 an8 cd8 ct8), sl8⟩)
  (c8 : PySem.W.codeIn K cd8 "Web.givers_of" = true)
  (k8 : PySem.W.keepIn K (.ref f8) = true)
  (a9 : PySem.W.findIn K (.ref C_Web) "known_lay_turns" = some (some (.ref f9)))
  (i9 : PySem.W.isFn K (.ref f9) = true)
  (l9 : K.lookup f9 = some ⟨oc9, od9, .func (PySem.W.fnOf "known_lay_turns" "Web.known_lay_turns" (L2.defArgs (L2.inClass (top 12) 7)) (L2.defBody (L2.inClass (top 12) 7)) (L2.defScope (L2.inClass (top 12) 7)) .none kV9 dc9 pm9 an9 cd9 ct9), sl9⟩)
  (c9 : PySem.W.codeIn K cd9 "Web.known_lay_turns" = true)
  (k9 : PySem.W.keepIn K (.ref f9) = true)
  (a10 : PySem.W.findIn K (.ref C_Web) "ring" = some (some (.ref f10)))
  (i10 : PySem.W.isFn K (.ref f10) = true)
  (l10 : K.lookup f10 = some ⟨oc10, od10, .func (PySem.W.fnOf "ring" "Web.ring" (L2.defArgs (L2.inClass (top 12) 5)) (L2.defBody (L2.inClass (top 12) 5)) (L2.defScope (L2.inClass (top 12) 5)) .none kV10 dc10 pm10 an10 cd10 ct10), sl10⟩)
  (c10 : PySem.W.codeIn K cd10 "Web.ring" = true)
  (k10 : PySem.W.keepIn K (.ref f10) = true)
  (a11 : PySem.W.nsIn K mainGlobals "least_leaders" = some (some (.ref f11)))
  (l11 : K.lookup f11 = some ⟨oc11, od11, .func (PySem.W.fnOf "least_leaders" "least_leaders" (L2.defArgs (top 14)) (L2.defBody (top 14)) (L2.defScope (top 14)) .none kV11 dc11 pm11 an11 cd11 ct11), sl11⟩)
  (c11 : PySem.W.codeIn K cd11 "least_leaders" = true)
  (k11 : PySem.W.keepIn K (.ref f11) = true)
  (a12 : PySem.W.nsIn K mainGlobals "_law_turns" = some (some (.ref f12)))
  (l12 : K.lookup f12 = some ⟨oc12, od12, .func (PySem.W.fnOf "_law_turns" "_law_turns" (L2.defArgs (top 19)) (L2.defBody (top 19)) (L2.defScope (top 19)) .none kV12 dc12 pm12 an12 cd12 ct12), sl12⟩)
  (c12 : PySem.W.codeIn K cd12 "_law_turns" = true)
  (k12 : PySem.W.keepIn K (.ref f12) = true)
  (a13 : PySem.W.nsIn K mainGlobals "_law_bits" = some (some (.ref f13)))
  (l13 : K.lookup f13 = some ⟨oc13, od13, .func (PySem.W.fnOf "_law_bits" "_law_bits" (L2.defArgs (top 20)) (L2.defBody (top 20)) (L2.defScope (top 20)) .none kV13 dc13 pm13 an13 cd13 ct13), sl13⟩)
  (c13 : PySem.W.codeIn K cd13 "_law_bits" = true)
  (k13 : PySem.W.keepIn K (.ref f13) = true)
  (a14 : PySem.W.findIn K (.ref C_Web) "lay_turns" = some (some (.ref f14)))
  (i14 : PySem.W.isFn K (.ref f14) = true)
  (l14 : K.lookup f14 = some ⟨oc14, od14, .func (PySem.W.fnOf "lay_turns" "Web.lay_turns" (L2.defArgs (L2.inClass (top 12) 6)) (L2.defBody (L2.inClass (top 12) 6)) (L2.defScope (L2.inClass (top 12) 6)) .none kV14 dc14 pm14 an14 cd14 ct14), sl14⟩)
  (c14 : PySem.W.codeIn K cd14 "Web.lay_turns" = true)
  (k14 : PySem.W.keepIn K (.ref f14) = true)
  (a15 : PySem.W.nsIn K mainGlobals "span" = some (some (.ref f15)))
  (l15 : K.lookup f15 = some ⟨oc15, od15, .func (PySem.W.fnOf "span" "span" (L2.defArgs (top 15)) (L2.defBody (top 15)) (L2.defScope (top 15)) .none kV15 dc15 pm15 an15 cd15 ct15), sl15⟩)
  (c15 : PySem.W.codeIn K cd15 "span" = true)
  (k15 : PySem.W.keepIn K (.ref f15) = true)
  (a16 : PySem.W.nsIn K mainGlobals "law" = some (some (.ref f16)))
  (l16 : K.lookup f16 = some ⟨oc16, od16, .func (PySem.W.fnOf "law" "law" (L2.defArgs (top 21)) (L2.defBody (top 21)) (L2.defScope (top 21)) .none kV16 dc16 pm16 an16 cd16 ct16), sl16⟩)
  (c16 : PySem.W.codeIn K cd16 "law" = true)
  (k16 : PySem.W.keepIn K (.ref f16) = true)
  (pg_Web : PySem.W.plainGet K C_Web Str.empty = true)
  (hd_Web : PySem.W.hasDictIn K C_Web = true)
  (po_Web : PySem.W.plainOver K C_Web = true)
  (sa_Web : PySem.W.findIn K (.ref C_Web) "__setattr__" = some (some (.builtin "object.__setattr__")))
  (mk_Web : PySem.W.makesIn K C_Web = true)
  (kc_Web : PySem.W.keepIn K (.ref C_Web) = true)
  (n0_Web : PySem.W.findIn K (.ref C_Web) "number" = some none)
  (n1_Web : PySem.W.findIn K (.ref C_Web) "passings" = some none)
  (n2_Web : PySem.W.findIn K (.ref C_Web) "at" = some none)
  (n3_Web : PySem.W.findIn K (.ref C_Web) "web" = some none)
  (n4_Web : PySem.W.findIn K (.ref C_Web) "leaders" = some none)
  (n5_Web : PySem.W.findIn K (.ref C_Web) "limits" = some none)
  (n6_Web : PySem.W.findIn K (.ref C_Web) "plan" = some none)
  (n7_Web : PySem.W.findIn K (.ref C_Web) "free" = some none)
  (n8_Web : PySem.W.findIn K (.ref C_Web) "ledger" = some none)
  (n9_Web : PySem.W.findIn K (.ref C_Web) "kept_leaders" = some none)
  (n10_Web : PySem.W.findIn K (.ref C_Web) "kept_limits" = some none)
  (n11_Web : PySem.W.findIn K (.ref C_Web) "kept_free" = some none)
  (n12_Web : PySem.W.findIn K (.ref C_Web) "now" = some none)
  (n13_Web : PySem.W.findIn K (.ref C_Web) "turns_of_lays" = some none)
  (n14_Web : PySem.W.findIn K (.ref C_Web) "sayings" = some none)
  (n15_Web : PySem.W.findIn K (.ref C_Web) "first_turns" = some none)
  (n16_Web : PySem.W.findIn K (.ref C_Web) "does" = some none)
  (n17_Web : PySem.W.findIn K (.ref C_Web) "me" = some none)
  (n18_Web : PySem.W.findIn K (.ref C_Web) "open_boxes" = some none)
  (g_FEWEST_HANDS : PySem.W.nsIn K mainGlobals "FEWEST_HANDS" = some (some (.int 2 t_FEWEST_HANDS)))
  (g_MOST_HANDS : PySem.W.nsIn K mainGlobals "MOST_HANDS" = some (some (.int 6 t_MOST_HANDS)))
  (z_len : PySem.W.nsIn K mainGlobals "len" = some none)
  (z_range : PySem.W.nsIn K mainGlobals "range" = some none)
  (z_list : PySem.W.nsIn K mainGlobals "list" = some none)
  (z_sorted : PySem.W.nsIn K mainGlobals "sorted" = some none)
  (z_isinstance : PySem.W.nsIn K mainGlobals "isinstance" = some none)
  (z_int : PySem.W.nsIn K mainGlobals "int" = some none)
  (z_bool : PySem.W.nsIn K mainGlobals "bool" = some none)
  (z_tuple : PySem.W.nsIn K mainGlobals "tuple" = some none)
  (z_enumerate : PySem.W.nsIn K mainGlobals "enumerate" = some none)
  (z_reversed : PySem.W.nsIn K mainGlobals "reversed" = some none)
  (z_max : PySem.W.nsIn K mainGlobals "max" = some none)
  (z_min : PySem.W.nsIn K mainGlobals "min" = some none)
  (z_all : PySem.W.nsIn K mainGlobals "all" = some none)
  (z_any : PySem.W.nsIn K mainGlobals "any" = some none)
  (z_set : PySem.W.nsIn K mainGlobals "set" = some none)
  (z_zip : PySem.W.nsIn K mainGlobals "zip" = some none)
  (z_dict : PySem.W.nsIn K mainGlobals "dict" = some none) :
  ∃ fd : FuncData, (∀ (s : Shared) (v : Value), BindsTo s fd ⟨[v], []⟩ [("_law_script", v)]) ∧ ∀ base : Heap, K.In base → base.Ns mainGlobals mg → L2.FnOk l.prog w K mg base L2.CX0 7 fa fd ["_law_script"] (SpLaw K) := by
  have e := hfa.symm.trans (PySem.W.mg_of X G a16)
  cases e
  have B : Base K mg (fun _ => C_Web) := by
    exact ⟨kit_all K, fun _ _ => ⟨pg_Web, hd_Web, po_Web, sa_Web⟩, fun _ i hi _ => match i, hi with | 0, _ => n0_Web | 1, _ => n1_Web | 2, _ => n2_Web | 3, _ => n3_Web | 4, _ => n4_Web | 5, _ => n5_Web | 6, _ => n6_Web | 7, _ => n7_Web | 8, _ => n8_Web | 9, _ => n9_Web | 10, _ => n10_Web | 11, _ => n11_Web | 12, _ => n12_Web | 13, _ => n13_Web | 14, _ => n14_Web | 15, _ => n15_Web | 16, _ => n16_Web | 17, _ => n17_Web | 18, _ => n18_Web | i + 19, hi => absurd hi (by omega), PySem.W.mg_none_of X G z_len, PySem.W.mg_none_of X G z_range, PySem.W.mg_none_of X G z_list, PySem.W.mg_none_of X G z_sorted, PySem.W.mg_none_of X G z_isinstance, PySem.W.mg_none_of X G z_int, PySem.W.mg_none_of X G z_bool, PySem.W.mg_none_of X G z_tuple, PySem.W.mg_none_of X G z_enumerate, PySem.W.mg_none_of X G z_reversed, PySem.W.mg_none_of X G z_max, PySem.W.mg_none_of X G z_min, PySem.W.mg_none_of X G z_all, PySem.W.mg_none_of X G z_any, PySem.W.mg_none_of X G z_set, PySem.W.mg_none_of X G z_zip, PySem.W.mg_none_of X G z_dict⟩
  have GL : Glob mg := ⟨⟨_, PySem.W.mg_of X G g_FEWEST_HANDS⟩, ⟨_, PySem.W.mg_of X G g_MOST_HANDS⟩⟩
  have F0 := L2.fun_mk (st := (top 18)) l0 c0 k0
  have b0 := F0.binds (ps := ["_law_first", "_law_second", "_law_third"]) fun _ _ _ _ _ _ us hl => match us, hl with | [_, _, _], _ => rfl
  have F1 := L2.fun_mk (st := (top 17)) l1 c1 k1
  have b1 := F1.binds (ps := ["_law_script", "_law_k"]) fun _ _ _ _ _ _ us hl => match us, hl with | [_, _], _ => rfl
  have F2 := L2.fun_mk (st := (top 7)) l2 c2 k2
  have b2 := F2.binds (ps := ["value"]) fun _ _ _ _ _ _ us hl => match us, hl with | [_], _ => rfl
  have F3 := L2.fun_mk (st := (top 9)) l3 c3 k3
  have b3 := F3.binds (ps := ["value"]) fun _ _ _ _ _ _ us hl => match us, hl with | [_], _ => rfl
  have F4 := L2.fun_mk (st := (top 8)) l4 c4 k4
  have b4 := F4.binds (ps := ["number", "value"]) fun _ _ _ _ _ _ us hl => match us, hl with | [_, _], _ => rfl
  have F5 := L2.fun_mk (st := (top 10)) l5 c5 k5
  have b5 := F5.binds (ps := ["number", "value"]) fun _ _ _ _ _ _ us hl => match us, hl with | [_, _], _ => rfl
  have F6 := L2.fun_mk (st := (top 11)) l6 c6 k6
  have b6 := F6.binds (ps := ["number", "passings"]) fun _ _ _ _ _ _ us hl => match us, hl with | [_, _], _ => rfl
  have F7 := L2.fun_mk (st := (L2.inClass (top 12) 0)) l7 c7 k7
  have b7 := F7.binds (ps := ["self", "number", "passings"]) fun _ _ _ _ _ _ us hl => match us, hl with | [_, _, _], _ => rfl
  have F8 := L2.fun_mk (st := (L2.inClass (top 12) 1)) l8 c8 k8
  have b8 := F8.binds (ps := ["self", "h"]) fun _ _ _ _ _ _ us hl => match us, hl with | [_, _], _ => rfl
  have F9 := L2.fun_mk (st := (L2.inClass (top 12) 7)) l9 c9 k9
  have b9 := F9.binds (ps := ["self", "leaders"]) fun _ _ _ _ _ _ us hl => match us, hl with | [_, _], _ => rfl
  have F10 := L2.fun_mk (st := (L2.inClass (top 12) 5)) l10 c10 k10
  have b10 := F10.binds (ps := ["self", "leaders"]) fun _ _ _ _ _ _ us hl => match us, hl with | [_, _], _ => rfl
  have F11 := L2.fun_mk (st := (top 14)) l11 c11 k11
  have b11 := F11.binds (ps := ["web"]) fun _ _ _ _ _ _ us hl => match us, hl with | [_], _ => rfl
  have F12 := L2.fun_mk (st := (top 19)) l12 c12 k12
  have b12 := F12.binds (ps := ["_law_number", "_law_passings", "_law_leaders"]) fun _ _ _ _ _ _ us hl => match us, hl with | [_, _, _], _ => rfl
  have F13 := L2.fun_mk (st := (top 20)) l13 c13 k13
  have b13 := F13.binds (ps := ["_law_number", "_law_bits_here"]) fun _ _ _ _ _ _ us hl => match us, hl with | [_, _], _ => rfl
  have F14 := L2.fun_mk (st := (L2.inClass (top 12) 6)) l14 c14 k14
  have b14 := F14.binds (ps := ["self", "leaders"]) fun _ _ _ _ _ _ us hl => match us, hl with | [_, _], _ => rfl
  have F15 := L2.fun_mk (st := (top 15)) l15 c15 k15
  have b15 := F15.binds (ps := ["web", "leaders"]) fun _ _ _ _ _ _ us hl => match us, hl with | [_, _], _ => rfl
  have F16 := L2.fun_mk (st := (top 21)) l16 c16 k16
  refine ⟨PySem.W.fnOf "law" "law" (L2.defArgs (top 21)) (L2.defBody (top 21)) (L2.defScope (top 21)) .none kV16 dc16 pm16 an16 cd16 ct16, fun s v => .of_eq rfl, fun base _ _ => ?_⟩
  have O0 := ok_law_web (P := l.prog) (w := w) (base := base) B F0
  have D_law_web : Def l.prog w K mg base (fun _ => C_Web) "_law_web" 1 ["_law_first", "_law_second", "_law_third"] f_law_web 3 := ⟨⟨_, _, O0, PySem.W.mg_of X G a0, k0, b0⟩, fun vs A v A' h => fn_len h⟩
  have O1 := ok_law_cell_at (P := l.prog) (w := w) (base := base) B F1
  have D_law_cell_at : Def l.prog w K mg base (fun _ => C_Web) "_law_cell_at" 1 ["_law_script", "_law_k"] f_law_cell_at 2 := ⟨⟨_, _, O1, PySem.W.mg_of X G a1, k1, b1⟩, fun vs A v A' h => fn_len h⟩
  have O2 := ok_is_whole (P := l.prog) (w := w) (base := base) B F2
  have D_is_whole : Def l.prog w K mg base (fun _ => C_Web) "is_whole" 1 ["value"] f_is_whole 1 := ⟨⟨_, _, O2, PySem.W.mg_of X G a2, k2, b2⟩, fun vs A v A' h => fn_len h⟩
  have O3 := ok_is_number_of_hands (P := l.prog) (w := w) (base := base) B GL D_is_whole F3
  have D_is_number_of_hands : Def l.prog w K mg base (fun _ => C_Web) "is_number_of_hands" 2 ["value"] f_is_number_of_hands 1 := ⟨⟨_, _, O3, PySem.W.mg_of X G a3, k3, b3⟩, fun vs A v A' h => fn_len h⟩
  have O4 := ok_is_hand (P := l.prog) (w := w) (base := base) B D_is_whole F4
  have D_is_hand : Def l.prog w K mg base (fun _ => C_Web) "is_hand" 2 ["number", "value"] f_is_hand 2 := ⟨⟨_, _, O4, PySem.W.mg_of X G a4, k4, b4⟩, fun vs A v A' h => fn_len h⟩
  have O5 := ok_is_passing (P := l.prog) (w := w) (base := base) B D_is_hand F5
  have D_is_passing : Def l.prog w K mg base (fun _ => C_Web) "is_passing" 3 ["number", "value"] f_is_passing 2 := ⟨⟨_, _, O5, PySem.W.mg_of X G a5, k5, b5⟩, fun vs A v A' h => fn_len h⟩
  have O6 := ok_first_wrong_passing (P := l.prog) (w := w) (base := base) B D_is_passing F6
  have D_first_wrong_passing : Def l.prog w K mg base (fun _ => C_Web) "first_wrong_passing" 4 ["number", "passings"] f_first_wrong_passing 2 := ⟨⟨_, _, O6, PySem.W.mg_of X G a6, k6, b6⟩, fun vs A v A' h => fn_len h⟩
  have O7 := ok_Web_init (P := l.prog) (w := w) (base := base) B D_is_number_of_hands D_first_wrong_passing F7
  have D_Web_init : CDef l.prog w K mg base (fun _ => C_Web) 0 "Web" 5 ["self", "number", "passings"] f_Web_init 3 := ⟨⟨_, _, O7, ⟨mk_Web, a7, i7, kc_Web⟩, PySem.W.mg_of X G aC_Web, b7⟩, fun vs A v A' h => ⟨fn_len h, Web_init_non h⟩⟩
  have O8 := ok_Web_givers_of (P := l.prog) (w := w) (base := base) B F8
  have D_Web_givers_of : MDef l.prog w K mg base (fun _ => C_Web) 0 "givers_of" 1 ["self", "h"] f_Web_givers_of 2 := ⟨⟨_, _, O8, ⟨a8, i8, k8⟩, b8⟩, fun vs A v A' h => fn_len h⟩
  have O9 := ok_Web_known_lay_turns (P := l.prog) (w := w) (base := base) B D_Web_givers_of F9
  have D_Web_known_lay_turns : MDef l.prog w K mg base (fun _ => C_Web) 0 "known_lay_turns" 2 ["self", "leaders"] f_Web_known_lay_turns 2 := ⟨⟨_, _, O9, ⟨a9, i9, k9⟩, b9⟩, fun vs A v A' h => fn_len h⟩
  have O10 := ok_Web_ring (P := l.prog) (w := w) (base := base) B D_Web_known_lay_turns D_Web_givers_of F10
  have D_Web_ring : MDef l.prog w K mg base (fun _ => C_Web) 0 "ring" 3 ["self", "leaders"] f_Web_ring 2 := ⟨⟨_, _, O10, ⟨a10, i10, k10⟩, b10⟩, fun vs A v A' h => fn_len h⟩
  have O11 := ok_least_leaders (P := l.prog) (w := w) (base := base) B D_Web_ring F11
  have D_least_leaders : Def l.prog w K mg base (fun _ => C_Web) "least_leaders" 4 ["web"] f_least_leaders 1 := ⟨⟨_, _, O11, PySem.W.mg_of X G a11, k11, b11⟩, fun vs A v A' h => fn_len h⟩
  have O12 := ok_law_turns (P := l.prog) (w := w) (base := base) B F12
  have D_law_turns : Def l.prog w K mg base (fun _ => C_Web) "_law_turns" 1 ["_law_number", "_law_passings", "_law_leaders"] f_law_turns 3 := ⟨⟨_, _, O12, PySem.W.mg_of X G a12, k12, b12⟩, fun vs A v A' h => fn_len h⟩
  have O13 := ok_law_bits (P := l.prog) (w := w) (base := base) B F13
  have D_law_bits : Def l.prog w K mg base (fun _ => C_Web) "_law_bits" 1 ["_law_number", "_law_bits_here"] f_law_bits 2 := ⟨⟨_, _, O13, PySem.W.mg_of X G a13, k13, b13⟩, fun vs A v A' h => fn_len h⟩
  have O14 := ok_Web_lay_turns (P := l.prog) (w := w) (base := base) B D_Web_known_lay_turns F14
  have D_Web_lay_turns : MDef l.prog w K mg base (fun _ => C_Web) 0 "lay_turns" 3 ["self", "leaders"] f_Web_lay_turns 2 := ⟨⟨_, _, O14, ⟨a14, i14, k14⟩, b14⟩, fun vs A v A' h => fn_len h⟩
  have O15 := ok_span (P := l.prog) (w := w) (base := base) B D_Web_lay_turns F15
  have D_span : Def l.prog w K mg base (fun _ => C_Web) "span" 4 ["web", "leaders"] f_span 2 := ⟨⟨_, _, O15, PySem.W.mg_of X G a15, k15, b15⟩, fun vs A v A' h => fn_len h⟩
  have O16 := ok_law (P := l.prog) (w := w) (base := base) B D_law_web D_law_cell_at D_Web_init D_least_leaders D_law_turns D_law_bits D_span F16
  exact O16.imp fun vs H Q E q => law_sp law_pure vs H Q E q
end Ws
open PySem PySem.W PyProof.Rows
set_option maxRecDepth 100000 in
set_option maxHeartbeats 0 in
theorem PySem.Challenge.cw_wordswap_k51_least_leaders_holds : PySem.Challenge.rw_wordswap_k51_least_leaders.Holds := by
  w_on; o_law; k_head; (case hw => w_witness2)
  k_fill
  refine Ws.law_walk (l := PySem.Challenge.rw_wordswap_k51_least_leaders) (k := 7) (x := "_law_script") rfl rfl ⟨rfl, by decide, by decide⟩ (fun w h Y => PySem.W.kIn_of Y) ?F
  case F =>
    intro w mg fa h KX G hmg
    refine' Ws.all_mk KX G hmg ?aC_Web ?a0 ?l0 ?c0 ?k0 ?a1 ?l1 ?c1 ?k1 ?a2 ?l2 ?c2 ?k2 ?a3 ?l3 ?c3 ?k3 ?a4 ?l4 ?c4 ?k4 ?a5 ?l5 ?c5 ?k5 ?a6 ?l6 ?c6 ?k6 ?a7 ?i7 ?l7 ?c7 ?k7 ?a8 ?i8 ?l8 ?c8 ?k8 ?a9 ?i9 ?l9 ?c9 ?k9 ?a10 ?i10 ?l10 ?c10 ?k10 ?a11 ?l11 ?c11 ?k11 ?a12 ?l12 ?c12 ?k12 ?a13 ?l13 ?c13 ?k13 ?a14 ?i14 ?l14 ?c14 ?k14 ?a15 ?l15 ?c15 ?k15 ?a16 ?l16 ?c16 ?k16 ?pg_Web ?hd_Web ?po_Web ?sa_Web ?mk_Web ?kc_Web ?n0_Web ?n1_Web ?n2_Web ?n3_Web ?n4_Web ?n5_Web ?n6_Web ?n7_Web ?n8_Web ?n9_Web ?n10_Web ?n11_Web ?n12_Web ?n13_Web ?n14_Web ?n15_Web ?n16_Web ?n17_Web ?n18_Web ?g_FEWEST_HANDS ?g_MOST_HANDS ?z_len ?z_range ?z_list ?z_sorted ?z_isinstance ?z_int ?z_bool ?z_tuple ?z_enumerate ?z_reversed ?z_max ?z_min ?z_all ?z_any ?z_set ?z_zip ?z_dict
    (case aC_Web => k_is)
    (case a0 => k_is)
    (case l0 => k_is)
    (case c0 => k_is)
    (case k0 => k_is)
    (case a1 => k_is)
    (case l1 => k_is)
    (case c1 => k_is)
    (case k1 => k_is)
    (case a2 => k_is)
    (case l2 => k_is)
    (case c2 => k_is)
    (case k2 => k_is)
    (case a3 => k_is)
    (case l3 => k_is)
    (case c3 => k_is)
    (case k3 => k_is)
    (case a4 => k_is)
    (case l4 => k_is)
    (case c4 => k_is)
    (case k4 => k_is)
    (case a5 => k_is)
    (case l5 => k_is)
    (case c5 => k_is)
    (case k5 => k_is)
    (case a6 => k_is)
    (case l6 => k_is)
    (case c6 => k_is)
    (case k6 => k_is)
    (case a7 => k_is)
    (case i7 => k_is)
    (case l7 => k_is)
    (case c7 => k_is)
    (case k7 => k_is)
    (case a8 => k_is)
    (case i8 => k_is)
    (case l8 => k_is)
    (case c8 => k_is)
    (case k8 => k_is)
    (case a9 => k_is)
    (case i9 => k_is)
    (case l9 => k_is)
    (case c9 => k_is)
    (case k9 => k_is)
    (case a10 => k_is)
    (case i10 => k_is)
    (case l10 => k_is)
    (case c10 => k_is)
    (case k10 => k_is)
    (case a11 => k_is)
    (case l11 => k_is)
    (case c11 => k_is)
    (case k11 => k_is)
    (case a12 => k_is)
    (case l12 => k_is)
    (case c12 => k_is)
    (case k12 => k_is)
    (case a13 => k_is)
    (case l13 => k_is)
    (case c13 => k_is)
    (case k13 => k_is)
    (case a14 => k_is)
    (case i14 => k_is)
    (case l14 => k_is)
    (case c14 => k_is)
    (case k14 => k_is)
    (case a15 => k_is)
    (case l15 => k_is)
    (case c15 => k_is)
    (case k15 => k_is)
    (case a16 => k_is)
    (case l16 => k_is)
    (case c16 => k_is)
    (case k16 => k_is)
    (case pg_Web => k_is)
    (case hd_Web => k_is)
    (case po_Web => k_is)
    (case sa_Web => k_is)
    (case mk_Web => k_is)
    (case kc_Web => k_is)
    (case n0_Web => k_is)
    (case n1_Web => k_is)
    (case n2_Web => k_is)
    (case n3_Web => k_is)
    (case n4_Web => k_is)
    (case n5_Web => k_is)
    (case n6_Web => k_is)
    (case n7_Web => k_is)
    (case n8_Web => k_is)
    (case n9_Web => k_is)
    (case n10_Web => k_is)
    (case n11_Web => k_is)
    (case n12_Web => k_is)
    (case n13_Web => k_is)
    (case n14_Web => k_is)
    (case n15_Web => k_is)
    (case n16_Web => k_is)
    (case n17_Web => k_is)
    (case n18_Web => k_is)
    (case g_FEWEST_HANDS => k_is)
    (case g_MOST_HANDS => k_is)
    (case z_len => k_is)
    (case z_range => k_is)
    (case z_list => k_is)
    (case z_sorted => k_is)
    (case z_isinstance => k_is)
    (case z_int => k_is)
    (case z_bool => k_is)
    (case z_tuple => k_is)
    (case z_enumerate => k_is)
    (case z_reversed => k_is)
    (case z_max => k_is)
    (case z_min => k_is)
    (case z_all => k_is)
    (case z_any => k_is)
    (case z_set => k_is)
    (case z_zip => k_is)
    (case z_dict => k_is)
